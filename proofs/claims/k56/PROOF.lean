import PyProof.Rows.All
import Wide.All
import OpenK.AllK
import Wide.FinOn
import Lean
import PyProof.EqAt
import PyProof.EqKinds
import PyProof.TupleCall
import PySem.Challenge.RW_lots_k56_whole_many_draws_folded
set_option Elab.async false
set_option linter.all false
set_option tactic.hygienic false
set_option maxRecDepth 100000
set_option compiler.extract_closed false
abbrev kx.{u}(a:Type u):=List a
abbrev pf.{u}(a:Type u):=Option a
abbrev ph:=PySem.Value
abbrev pA:=PySem.Shared
abbrev p8:=PySem.Addr
open Option renaming some->eV,none->gi
open Bool renaming true->hG,false->mK
local macro_rules|`(tactic|omega)=>`(tactic|first|with_reducible assumption | lia | omega +splitDisjunctions)
set_option hygiene false in
local macro_rules|`(tactic|walk_at $s:str)=>do
 let g(s:String):=(s.splitOn " ").toArray.map fun n=>(Lean.mkIdent (.mkSimple n):Lean.Term)
 let i(s:String):=`(tactic|intro $(g s)*)
 let r(s f x:String):Lean.MacroM _:=do`(tactic|($(<-i s);rcases $((g f)[0]!) e with⟨$(Lean.mkIdent (.mkSimple x)):ident,S1,e1,e⟩|⟨c,S1,e1,rfl⟩))
 match s.getString with
 |"!a"=>r "F j σ H ρ S r Q En0 e k" "zI" "x"
 |"!b"=>do`(tactic|($(<-i "X hP hw hK hc i pins s σ H E I hf st hg");subst hP hw hK))
 |"!c"=>r "F j σ H ρ S r R En0 e k" "zI" "x"
 |"!d"=>r "F j σ H ρ S r Q En0 e k" "zI" "xs"
 |"!e"=>i "F j σ H ρ S S' xs z vs Q E1 hv h k"
 |"!g"=>i "F j σ H ρ S S' x y z u v Q E1 hx hy h k"
 |"!h"=>r "F j D' σ H ρ S fl E0 e k" "xZ" "x"
 |"q1"=>`(tactic|first|exact .inl rfl|exact .inr rfl|assumption)
 |_=>Lean.Macro.throwUnsupported
open List renaming getElem?_eq_some_iff->uT,getElem?_eq_getElem->uV,prefix_append->uW,mem_of_getElem?->uX,getElem?_map->uY,length_map->uZ,getElem?_append_left->v5,set->v8,size_toArray->v9,getElem?_append_right->w5,mem_cons_of_mem->w6,mem_cons->x8,getD_eq_getElem?_getD->x9,length_cons->y4,mem_cons_self->y6,length_append->y7,map_cons->y8,replicate->z4,getElem?_eq_none->z5,map_append->A1,take_length->A4,find?_cons->A5,mem_singleton->A7,getElem_mem->A9,take_succ_eq_append_getElem->Aa,getElem?_of_mem->Ab,range->Ac,mem_map->Ad,prefix_refl->Ae,getElem?_set->Ai,map->Ak,mem_append_right->Al,length_nil->Aw,length_take->Az,lookup_cons->AA,all_eq_true->AB,replicate_succ->AG,flatten_cons->AH,take_succ->AO,mem_append->AQ,cons_append->B5,mem_range->Ba,append_nil->Bb,nodup_cons->Bc,findIdx?_eq_some_iff_getElem->Bf,take_of_length_le->Bh,length_set->Bm,any_cons->Bp,length_reverse->Br,any_eq_true->Bu,getElem?_set_self->By,lookup->Bz,map_map->BF,sum_cons->BJ,filterMap_cons->BV,getElem?_cons_succ->BW,of_mem_zip->BX,append->C5,append_assoc->C6,ext_getElem?->C8,getElem?_zip_eq_some->Ck,lookup_append->Cq,getElem?_replicate->Cy,length_eq_zero_iff->CD,reverse_cons->CH,foldl_append->CJ,length_range->CK,all_cons->CQ,getElem_inj->CT,getElem?_reverse->CV,mem_append_left->CW,getElem?_set_ne->CY,foldl_cons->D5,sum_append->D6,range_succ->D7,getElem?_range->Dd,drop_eq_getElem_cons->DC,length_drop->DI,drop_length->DN,forIn_cons->DU,nil_append->DX,length->E8,getElem_singleton->Ee,dropLast_eq_take->Eh,nodup_nil->Ej,forIn_nil->Ek,take_zero->El,getElem?_zipWith->Em,length_dropLast->Eo,mem_iff_getElem->Ep,contains_eq_mem->Es,replicate_succ'->Et,map_congr_left->EC,length_zipWith->ED,flatten_append->EE,mem_map_of_mem->EF,mem_filterMap->EH,find?_eq_none->ER,getElem_range->EY,getElem?_take->EZ,any_eq_false->F0,take_add_one->F6,flatMap_cons->F7,isEmpty_iff->Fe,map_reverse->Ff,zipIdx_cons->Fg,mem_filter->Fk,zipIdx_nil->Fp,drop_zero->FC,map_nil->FN,any_map->FQ
open PySem.W renaming Frag->uU,nsIn->y9,findIn->z3,mg_none_of->Af,mroIn->Ah,kitOne->Aq,emptyDict->B8,mg_of->B9,instObj->Bk,kla_obj->Bn,keepIn->Bt,fnOf->BD,kitMeta->BH,typeIn->BO,cellsFrom_some->C3,tabObj->C9,plainGet->Ca,codeHdIn->Cb,codeIn->Cu,hasDictIn->CF,specialIn->CG,isFn->D1,looks_findIn->D4,plainGet_of->D9,lookIn->Df,InstAt->Dg,callWith_K->Dj,codeRec_of->Dl,excIn->Dp,subIn->Dq,methodObj->Dt,plainOver->Du,kitx_list->Dv,envX->DJ,takerIn->DR,makesIn->DS,takesIn->DT,findObj->DV,OpenLaw->DY,isClsIn->DZ,kitCls->Eg,clsIn->Ew,codeHd_of_K->EB,kitx_tuple->EK,kitx_dict->F5,handedIn->F8,kla_fn->Fz,WalkO->FD,KitX->FO
open Nat renaming le_refl->v3,le_trans->v7,lt_of_le_of_lt->y0,lt_of_lt_of_le->z6,ne_of_lt->z8,mul_le_mul_right->z9,le_of_lt->A3,mul_le_mul_left->Ao,lt_trichotomy->As,succ_mul->Ax,sub_self->AU,lt_succ_self->AZ,pow_le_pow_right->B6,lt_irrefl->B7,le_of_eq->Be,add_le_add->Bi,mul_pos->Bj,gcd->Bw,mul_comm->BE,zero_le->BK,mul_le_mul->BP,le_add_right->BQ,le_succ->C2,lt_succ_of_lt->C7,mul_assoc->Cg,sub_zero->Cr,pow_pos->CO,le_mul_of_pos_left->CP,ne_of_gt->CZ,lt_or_ge->D8,add_le_add_left->Dc,eq_zero_or_pos->Dn,zero_add->DM,gcd_comm->DP,add_mul->E9,pow_add->Eb,mul_add->Ed,add_assoc->Ez,add_comm->EI,le_max_right->Fd,not_lt->Fq,strongRecOn->Fs,mod_lt->Ft,div_add_mod->Fu,div_le_self->Fx,le_add_left->Fy,one_le_pow->FA
open Option renaming map_eq_some_iff->y3,bind_some->z0,bind_eq_some_iff->An,isSome_iff_exists->Ay,getD_some->AF,map_some->Bd,bind->C4,isSome_map->CI,isSome_some->EJ,getD_none->F9
open Int renaming toNat_natCast->z7,emod_nonneg->Ap,emod_lt_of_pos->Av,fdiv_eq_ediv_of_nonneg->AK,zero_add->Bg,toNat_of_nonneg->Bs,gcd->Bv,mul_pos->BM,natAbs_natCast->C1,natCast_mul->Ci,mul_ediv_cancel_left->Ct,natAbs_mul->Cv,gcd_pos_of_ne_zero_right->Dh,ofNat_inj->Dr,ediv_pos_of_pos_of_dvd->Ds,gcd_dvd_right->Dw,natAbs_add_le->Dx,gcd_ediv_gcd_ediv_gcd->DE,natAbs_ediv_le_natAbs->DF,gcd_dvd_left->DQ,natAbs_ediv_of_dvd->Ec,le_of_lt->EW,natCast_emod->Fh,natCast_add->Fv,mul_assoc->FE
open Option.some renaming inj->A0,injEq->Ar
open Rat renaming intCast_mul->A2,intCast_add->Cm,divInt_eq_div->Dy,num_divInt_den->EV,intCast_zero->Fj
open Bool renaming false_ne_true->A6,and_eq_true->Aj,eq_iff_iff->AV,noConfusion->CU,false_eq_true->Dm,or_eq_true->DW,beq_eq_decide_eq->Ef,false_bne->Ei,and_eq_true_iff->Er,or_eq_true_iff->EA,eq_false_iff->F4
open PySem renaming wpAny_bind->qR,wpAny_pure->uh,sizeLine->FU,mainGlobals->FV,starEach->FW,wpAny_callSpecial?_slot->FY,wpAny_newObj_type->FZ,wpAny_call_entry->Ga,wpAny_field->Gb,cellsFrom->Gc,wpAny_setField_rec->Gd,wpAny_seqItems->Ge,wpAny_typeNameOfWhole_keyiter->Gf,builtinLookup_eq_fast->Gg,wpAny_specialOf->Gh,wpAny_mono->Gi,wpAny_Call_Name_kw->Gj,sysModules->Gk,wpAny_holding->Gm,FuncData->Gn,wpAny_isInstance->Gp,wpAny_attempt->Gq,NameKind->Gr,wpAny_of_eq->Gs,rawInt->Gu,wpAny_truthy_bool->Gv,wpAny_pyIter_list->Gw,wpAny_passesOwn->Gx,wpAny_ite_split->Gy,typeLookup_type->Gz,binaryOp->GA,isSubtype_type->GB,wpAny_newFunctionEnv_cells->GC,Builtin->GD,firstArgMember->GF,GenState->GH,attributeBase->GI,IsPair->GJ,sliceBounds->GK,codeAny->GL
open PySem renaming mem_of_lookup->A8,intBits_le_iff->B4,Expr->C0,frameOf->Eu,Within->EG,seqSlot_of->Fc,call->Fo
open False renaming elim->Au
open PyProof.Rows renaming slot_tuple_getitem->AI,callWith_type1->AW
open PySem.F renaming plainAttrs_list->AJ,slot_list_append->BR,type_list_append->BU,args_tuple_add_2->Cp,entry_tuple_add->Cz,slot_tuple_add->CM,slot_dict_getitem->Dz,slot_list_extend->DK,type_list_extend->DL
open Ne renaming symm->AX
open True renaming intro->AY
open HAppend renaming hAppend->Bo
open Array renaming length_toList->Bq,getElem?_toList->BG,getElem?_eq_some_iff->Cd,toList_append->De,append_assoc->Di,getElem?_eq_getElem->DB,forIn_toList->EL,toList->FI
open Append renaming append->BI
open ForInStep renaming yield->BZ
open Classical renaming byContradiction->Cj,propDecidable->Cw
open PySem.Builtin.Str renaming strSliceIndices->CN
open Sum renaming inl->DG,inr->DH
open Prod.mk renaming injEq->Ey,inj->FR
open List.Pairwise renaming nil->F1,imp_of_mem->FP
open PySem.EqMixed renaming eq_bool_str->FG,eq_str_bool->FH,eq_int_str->FJ,eq_str_int->FK
open PySem.W.Looks renaming here->FT
open PySem PySem.Spec PyProof.Rows
noncomputable section
local macro_rules|`(∅)=>`(by decide)|`(⋯)=>`(by omega)|`(nofun)=>`(fun z=>by cases z)|`(*...*)=>`(by decide+kernel)
structure PySem.W.Fast:Prop where(tw1006549403252284922 tw1008150471571499804 tw10157529174213053627 tw10257826204767161330 tw10265547185708178574 tw10333128301057738591 tw10350726385580364051 tw10376871918987879040 tw10383439979633983578 tw10388735389855277427 tw10395029589170919225 tw10427009755228070174 tw10500250851963411236 tw10511057008936754667 tw10536677714830541454 tw10556101378207402820 tw10572178948464129739 tw10584164177875609658 tw10655558980747940217 tw10671894049045717168 tw10783593680962008161 tw10803307925014122451 tw10811277196059328106 tw10846372222622800080 tw10858660804392156978 tw10874584394167916583 tw10888325722705859534 tw10894605336223768829 tw10916427557894259332 tw10929349502759589067 tw1095269639421539105 tw10979381152927450221 tw10993503411153755448 tw11031129928487939410 tw11047650744859075251 tw11059500782326737739 tw11064793104427585179 tw1107544251115111980 tw11105350278218030369 tw11151888047339038991 tw11156528962093126988 tw11180541599747865550 tw11223498276668312848 tw11225898189483095650 tw1127032890388290396 tw11283743655257643834 tw11301429771399640170 tw11409020823686194157 tw11459959274346698115 tw11488204167793302688 tw11495466611571156585 tw11498722780758453234 tw11505811096528253920 tw11541165338773474916 tw11546786290463624535 tw1156022661145437460 tw11612631278213309125 tw11658271575579591946 tw1165907641750440717 tw11670007015077588123 tw11705213679010317831 tw11711749269064375223 tw117395999409050009 tw11859249481983136134 tw1186132996770037090 tw11891576087820457000 tw11919520458532374400 tw11950592628913725159 tw11959779749897534731 tw11972339288997750320 tw12033213469571527466 tw12041361142816767712 tw1204992136782204928 tw12073974972336005186 tw12078502612459974478 tw12083318183715419304 tw12126029854212249167 tw12157439906633961260 tw1217521098537724646 tw1217841607798616372 tw122504377420594593 tw12265768672021054002 tw12364927210611576987 tw12374506897201900278 tw12388927745213315879 tw12412436052203245959 tw12417823904887189622 tw12468039928684279779 tw1247569724673851722 tw12502300897959630464 tw1258654112274880594 tw1260570268642806536 tw12618044814948883461 tw1262279703524046162 tw12624948708023399790 tw12714870686838307636 tw12719814275970980973 tw12723547945829996891 tw12734991779562637822 tw12792560766752489850 tw12852492450408434982 tw12852876819526330379 tw12912302339416776401 tw1291554525732019575 tw12931147365625364819 tw12999558814925212620 tw13081172954511894445 tw13091822401238059143 tw13168972756956505288 tw1317042469263468651 tw13174535817873191043 tw13190070702126709106 tw13200726405328695984 tw13224303476996702203 tw13250847390902980061 tw13256672926073483332 tw13285577989486862709 tw13285635742019681933 tw13298453038095361618 tw13301467193697442251 tw13359689583215105877 tw13376780493647975939 tw13427644023423498716 tw1347537805748771415 tw13479067591730122358 tw13492576896532366976 tw1353648307946604625 tw13562769678679446910 tw13590018196576858073 tw13601711698592203202 tw136071086843319375 tw13608172626649715789 tw13633852797140989596 tw13641507512223572223 tw13682973980114625501 tw13726444826669014770 tw13731813839274350815 tw13773987785356089281 tw13905732002706961802 tw13957048056599970882 tw13976575721597663191 tw14018624177490387849 tw14034824595886343536 tw14065152418393931153 tw140801549958877279 tw14163395906384098258 tw14254602270486947938 tw14254884351336046999 tw14292397803491532135 tw14334650550831985968 tw14365590641570355252 tw14377874842344772772 tw1443751973865279063 tw14450217776681691406 tw14525512301431694092 tw14537143989877164399 tw14569482443597648460 tw14588097861757552252 tw14637612772392979880 tw14645771087444998025 tw14694207688849252983 tw1469529436878787764 tw14705696290580290278 tw1471890594932255718 tw14718921707627271818 tw14757311676175109133 tw14761522250822153419 tw14773417001763144220 tw14784920513294887563 tw14807451872922161463 tw14853869085180040755 tw1487838471478306466 tw14963285565901610585 tw14973250778240555207 tw15003823349343786290 tw15029450492869758928 tw15055773958468910441 tw1507906184733227881 tw15094578071508148642 tw15104343086603150687 tw15109467334292274775 tw15119714474350808817 tw15123634326078755394 tw15182600575363554378 tw15264969954656597390 tw15301143299095805493 tw15308808370967803472 tw15311365237372537232 tw15323960443797853553 tw15356760086606281008 tw1542560007352660736 tw1547049136015646407 tw1554772795632855485 tw15590116189384877330 tw15595476724962100232 tw15661778194540991794 tw15664840882153002975 tw1570139962930312678 tw1571044078570913578 tw15727293071226491051 tw15729558627677159628 tw15822163366591304492 tw15826006808686534161 tw15834860632703458232 tw15837186482768026373 tw15846197678968373409 tw15932231130238531417 tw15940930986074428902 tw15956992865011241200 tw15978199630799944953 tw15997376062811939135 tw16007063183487705678 tw16018383833415272749 tw16038561604396088978 tw16049700710226485547 tw16064624058689605909 tw16089179981465236576 tw16102375691766430744 tw16149823637483500540 tw16202487076090986339 tw16216427197478737254 tw16240948384748491171 tw16260415457928890305 tw16263391159306496292 tw16346685241363847859 tw16347726832770838992 tw16378331164703783526 tw16388677537069302956 tw16396796851701456414 tw16411970151900986756 tw16422610067664624794 tw16439103503500380964 tw16483774037776998995 tw16507230332571761830 tw16521625218495770651 tw16602878020932269552 tw16632613018164679763 tw16664545231024511066 tw16713578317483351891 tw16730843187520924998 tw16738239219841580636 tw16757589918002238751 tw16809314203114466223 tw16829191635818509478 tw16875558733850312879 tw16877438922584827607 tw16883838524730955732 tw16904547431504144064 tw16938770410824837499 tw16943623367287121582 tw1696103849563132512 tw16970579549056377511 tw16978882157550804067 tw16985377331193196556 tw17017162718866583541 tw17069440719359101777 tw17103869835135855816 tw17107668494167568646 tw17173864775211736075 tw17175504157578008020 tw17191696101589627694 tw17223714337025774430 tw1726350015539905457 tw17278812961978296801 tw17287393328447078845 tw17379462126275030334 tw17488271543627448541 tw174938821609483125 tw17518746377697730930 tw17533574408447663986 tw17542582767489445562 tw17585486391526420875 tw17670316219903673573 tw17709836812482198979 tw17756860083316116353 tw17758610327288179467 tw17792816358931225809 tw17873607472994663670 tw17919931956168679490 tw17950590017502633297 tw17978915771183460039 tw17979056683164723707 tw18010684070870957416 tw18012057139174881179 tw18020764113929694802 tw18031884040722394730 tw18134233701819484083 tw18168749475149905277 tw18189799354872104859 tw18214906597173256581 tw18268024393024663531 tw18310050980668664355 tw18312048783583515993 tw18317109180776105690 tw18340245271293324951 tw1834389529861918065 tw18395386956617256245 tw18420603851373858050 tw1934561141468156245 tw1936295266253776403 tw1954638489524630856 tw1957403758765439013 tw1994794886737373967 tw1995837667805925564 tw2014233356423317604 tw2045542641019644670 tw2083176611018240955 tw2086635340932115569 tw2131793328097778066 tw2138356567703375012 tw2147499460731971669 tw2162050108398215562 tw2216596612689364911 tw2219040163365489819 tw2221770211314653371 tw2226421433496476511 tw2298485463143203282 tw2301633209457803602 tw2303419431342359358 tw2312213146242316684 tw2327925536445470451 tw2362280183147548641 tw2373369044750138766 tw2386942540445763337 tw2516108449148896530 tw2521177684440340991 tw2553705793245550297 tw2565532415347298757 tw2620047741347509701 tw2637401395911131226 tw26694544543143901 tw2684256423673161116 tw2721878712895304792 tw2723435967661611271 tw2737756876548413054 tw27546751695515829 tw2786880119777372926 tw2825920609937984390 tw2858928324078718964 tw2890454758637514696 tw2965678393191325580 tw2984058241666085938 tw3018554426039089428 tw3037401142679995719 tw3074110152249124720 tw3085427576029856266 tw3111423437488466797 tw3142122320020269050 tw3286075144708456262 tw3289599827343056629 tw3325310123062321302 tw3387673790483874372 tw3470271281853762264 tw3595545113162914066 tw3627659827882911962 tw3632284367052544638 tw3636393186953015065 tw3636925173572693579 tw3653549581026578474 tw3694839756717906963 tw3719101208443727438 tw3763906582114830066 tw3778912032152366167 tw3819954232609234554 tw3839236310885033087 tw3874822911317529404 tw3889137959847372091 tw3893148367137675626 tw3896218502104766377 tw3930915348751775141 tw3936736862448236386 tw3999392894246596300 tw4012988337528976973 tw4027138899098430333 tw4029875039920559050 tw4099507251527726076 tw419999011735551105 tw4210129899721640350 tw4239137124744390919 tw4283290267717868754 tw4302473541274911546 tw4315905366678505085 tw433181770105574646 tw43578660742501844 tw4406818126382166951 tw4448513792733961897 tw4524321352721216920 tw458319516855243524 tw4647742304610786920 tw4654423387639223973 tw4702217896577067880 tw4704992824008953596 tw4722211145432474459 tw4731019972498439135 tw4770713965104757171 tw4778983456493975194 tw4790247162620403446 tw4821930289472583842 tw4830733635272592589 tw4850567839755568994 tw4857877312712839841 tw4897603509995982009 tw4910923827846729577 tw4924738659693831280 tw4926325219269069182 tw4943194609239125261 tw4943576528409405240 tw4974831312427928340 tw4995694025369581542 tw5048891564003333260 tw5087977155130936039 tw5102460128018381904 tw5105901384544381405 tw5145618036415157004 tw5163593462815960689 tw5168030839922152975 tw5180790338225899111 tw5239360727996153073 tw5277963656859952805 tw5320690491699102011 tw5326718762495651220 tw535605496985224732 tw5362921044780626283 tw538474864952730886 tw5384821234019225933 tw5411684407490552877 tw5418031487371742931 tw5469109483611630841 tw5472980941484267236 tw5486769499173825477 tw5488278539126092121 tw5499530237811386814 tw5529848178547835113 tw5563793103417638634 tw5569519635445095634 tw5667377174142807939 tw5755238184187754839 tw5826256415285050628 tw5830745786465150881 tw5870656797854433968 tw5899149468949908989 tw5919882782642739575 tw5949097120212385882 tw5961067450172362243 tw596970406735898397 tw6015438252722494175 tw6038915188413904918 tw6051382540614317315 tw6054806990528066407 tw6054818994042380247 tw6073251871434149061 tw6100618076479148875 tw6146500924942550917 tw6152452555431034247 tw6153288490145323287 tw6153635435102768117 tw6155696315220042343 tw6174668494514542844 tw6177572221343387527 tw6180811904619326732 tw6262961863289290049 tw6263440995968604391 tw6327360938834975654 tw640081301791905211 tw6490852337974519702 tw6503698953338905337 tw651972596510484071 tw6525825633257116601 tw6551100445472624709 tw659909283014537070 tw6664543418179731529 tw6677602131889305782 tw6693516900228952715 tw6735580360630076848 tw676059873888067201 tw6768526974460844876 tw6769217331432475873 tw688246902323984338 tw6917728619571150069 tw6951253649684890356 tw6951605338515083212 tw6982967583503470747 tw6991963353582266926 tw7009094323381336333 tw7029887776759366432 tw7057225210510194911 tw7058263405920878537 tw7090124243774255086 tw7160972323233905433 tw7177743177170468909 tw7237130670977577167 tw7262873622236612403 tw7264829854844075014 tw7348256713238625283 tw7400590156192931313 tw7439474043382250775 tw7443962290450466150 tw7444581282065255309 tw7460802266789456209 tw74802169852510903 tw7486687425994993657 tw7496926259950740483 tw750539383149707253 tw7519536576809807218 tw7544789445886948763 tw7575396925255933955 tw7584912241807715584 tw7587646722881791990 tw7591104118952948686 tw760168767160840447 tw7724594808598304254 tw7727108499418006313 tw7756830122141823414 tw7765190923574201674 tw7852888080987320155 tw7870723934056506976 tw7891461521099377323 tw7910366504261296115 tw7967326331101654522 tw8029779989207711525 tw8040774123929221267 tw8114012693169319751 tw8133087471459486232 tw8153819927310114671 tw8167005268945432898 tw8178742627249489044 tw8186341777470617734 tw8202293579126206738 tw8294698934134790376 tw8324727207046604691 tw8346617479020837559 tw8350025466549614366 tw8351313466024416117 tw8401946462262894905 tw8420260170323162223 tw8437395538539581781 tw844280435680316165 tw8464640906932686639 tw8472462011280267362 tw8477531220194148438 tw8502370166987887825 tw8512987419794019758 tw8528238922546641894 tw852846343031649975 tw8538686418827520058 tw854227225562487631 tw859588280890906859 tw8627821283021895332 tw8664351485952343319 tw8688579776607464644 tw8701469776379898191 tw8742025083927781052 tw8780548502497660003 tw8798140293046768393 tw8847984553314305555 tw8866290638421060935 tw8888760160807050787 tw8908205199980752065 tw8936919198063339075 tw894535467872172502 tw8965002659544568806 tw9020848392945769356 tw9061840666286477895 tw9115418905783882327 tw9120990253830758505 tw9140351066446658810 tw9183405933449676025 tw9194714086317331836 tw9210329988714887966 tw9226361193913287014 tw9234832296707362306 tw9235894308655890702 tw9238280589956960968 tw9262963430404738753 tw9287931540833246600 tw9291563322774382737 tw930335064841187638 tw9333279016334623384 tw9342138975380459196 tw9353126216081343199 tw9371709759999822846 tw9402258899218739410 tw9428938185688296607 tw94528595035440823 tw9462323331351364411 tw9469154843871198532 tw9474405927718028668 tw9485949463361694563 tw9537422731231942834 tw9570395135421789175 tw9647398480995166515 tw9654421836939037936 tw9667878213745898325 tw9701476020163392100 tw9721870195050436914 tw9728072730808133424 tw9756206893326551259 tw981009569584729894 tw9833023009796925389 tw9835459310478812304 tw9868388627353077648 tw9901272171700844317 tw9928767753603646248 tw9943424125725128683 tw9963093642690877325 tw9973376784453854616 tw9977569120965218074 tw9980703534948749903:True)
section
theorem zY3{a b c P:Prop}(h:a/\b/\c)(k:a->b->c->P):P:=k h.1 h.2.1 h.2.2
theorem zY4{a b c d P:Prop}(h:a/\b/\c/\d)(k:a->b->c->d->P):P:=k h.1 h.2.1 h.2.2.1 h.2.2.2
theorem zY5{a b c d e P:Prop}(h:a/\b/\c/\d/\e)(k:a->b->c->d->e->P):P:=k h.1 h.2.1 h.2.2.1 h.2.2.2.1 h.2.2.2.2
theorem zY6{a b c d e f P:Prop}(h:a/\b/\c/\d/\e/\f)(k:a->b->c->d->e->f->P):P:=k h.1 h.2.1 h.2.2.1 h.2.2.2.1 h.2.2.2.2.1 h.2.2.2.2.2
theorem zY7{a b c d e f g P:Prop}(h:a/\b/\c/\d/\e/\f/\g)(k:a->b->c->d->e->f->g->P):P:=k h.1 h.2.1 h.2.2.1 h.2.2.2.1 h.2.2.2.2.1 h.2.2.2.2.2.1 h.2.2.2.2.2.2
theorem zY8{a b c d e f g m P:Prop}(h:a/\b/\c/\d/\e/\f/\g/\m)(k:a->b->c->d->e->f->g->m->P):P:=k h.1 h.2.1 h.2.2.1 h.2.2.2.1 h.2.2.2.2.1 h.2.2.2.2.2.1 h.2.2.2.2.2.2.1 h.2.2.2.2.2.2.2
theorem zY9{a b c d e f g m n P:Prop}(h:a/\b/\c/\d/\e/\f/\g/\m/\n)(k:a->b->c->d->e->f->g->m->n->P):P:=k h.1 h.2.1 h.2.2.1 h.2.2.2.1 h.2.2.2.2.1 h.2.2.2.2.2.1 h.2.2.2.2.2.2.1 h.2.2.2.2.2.2.2.1 h.2.2.2.2.2.2.2.2
def zCN(q:String)(i:Nat)(t:Lean.Term):Lean.Ident:=
 let d:=Lean.mkIdent (.mkSimple s!"{q}{i}")
 match t with
  |`($i:ident)=>if i.getId==`rfl then d else i
  |_=>d
set_option hygiene false in
def zCS(h:Lean.Ident)(q:String):List Lean.Ident->Lean.MacroM (Lean.TSyntax `tactic)
 |a::l=>do
  let g<-(a::l).toArray.mapM fun x=>`(Lean.Parser.Tactic.rcasesPatLo|$x:ident)
  let o<-`(tactic|rcases $h:ident with ⟨$g,*⟩)
  let n:=l.length+1
  if n<3 then return o
  let c:=(a::l).toArray
  let k:=Lean.mkIdent (.mkSimple (q++"k"))
  let r<-zCS k (q++"k") l
  `(tactic|first|(refine $(Lean.mkIdent (.mkSimple s!"zY{n}")) $h ?_;(try clear $h);intro $c*)|((first|refine Exists.elim $h fun $a $k=>?_|refine And.elim (fun $a $k=>?_) $h);(try clear $h);$r:tactic)|$o:tactic)
 |[]=>Lean.Macro.throwUnsupported
def zCI(t:Lean.Term):Bool:=match t with
  |`($i:ident)=>i.getId != `rfl
  |`(_)=>true
  |_=>false
set_option hygiene false in
def zCP:Nat->String->Lean.Ident->List Lean.Term->Lean.MacroM (Array (Lean.TSyntax `tactic))
 |0,_,_,_=>Lean.Macro.throwUnsupported
 |_,_,_,[]=>return .empty
 |n+1,q,h,[t]=>match t with
  |`(#[$a,*])=>zCP n q h a.getElems.toList
  |`($i:ident)=>do
   if i.getId==`rfl then return .singleton (<-`(tactic|rcases $h:ident with rfl))
   if i.getId==h.getId then return .empty
   return .singleton (<-`(tactic|(revert $h;intro $i:ident)))
  |_=>return .empty
 |n+1,q,h,p=>do
  let x:=(p.takeWhile zCI).length
  let l:=p.mapIdx fun i x=>zCN s!"{q}{i}_" i x
  if x+1<p.length then
   let k:=Lean.mkIdent (.mkSimple (q++"u"))
   return (Array.singleton (<-zCS h q (l.take (x+1)++[k])))++(<-zCP n (q++"v") ((l.drop x).headD k) ((p.drop x).take 1))++(<-zCP n (q++"w") k (p.drop (x+1)))
  let e<-(p.zip l).mapM fun (x,i)=>if zCI x then pure .empty else zCP n (toString i.getId) i [x]
  return (Array.singleton (<-zCS h q l))++e.foldl (·++·) .empty
set_option hygiene false in
def zCQ(i:Nat)(t:Lean.Term):Lean.MacroM (Array (Lean.TSyntax `tactic)):=do
 let h:=zCN s!"zr{i}" 0 t
 match t with
  |`(_)=>return .singleton (<-`(tactic|intro _))
  |_=>return (Array.singleton (<-`(tactic|intro $h:ident)))++(<-zCP 20 s!"zr{i}" h [t])
def zCM(a:Array Lean.Term):Lean.MacroM (Array (Lean.TSyntax `tactic)):=do return (<-a.mapIdxM zCQ).foldl (·++·) .empty
set_option hygiene false in
local macro_rules|`(tactic|have #[$a,*]:=$e)=>do
 let p:=a.getElems.toList
 match e with
  |`($i:ident)=>`(tactic|($[$(<-zCP 20 "zq" i p)]*))
  |_=>`(tactic|(have zqh:=$e;$[$(<-zCP 20 "zq" (Lean.mkIdent `zqh) p)]*))
local macro_rules|`(tactic|intro $a*)=>do
 if a.any fun x=>x.raw.isOfKind `«term#[_,]» then`(tactic|($[$(<-zCM a)]*)) else Lean.Macro.throwUnsupported
set_option hygiene false in
local macro_rules|`(tactic|let #[$a,*]:=$e)=>do
 let u<-zCM a.getElems
 let o<-`(tactic|(refine ($e).imp ?_;($[$u]*)))
 let r<-match a.getElems.toList with
  |[_,g,t]=>match t with
   |`(#[$b,*])=>
    let p:=b.getElems.toList
    let x:=(p.takeWhile zCI).length
    if x+1<p.length&&x<3 then
     let k:=Lean.mkIdent `zrh
     let c:=((p.take x).mapIdx fun i x=>zCN s!"zs{i}_" i x).toArray
     let v<-zCP 20 "zs" k (p.drop (x+1))
     let f:=Lean.mkIdent (.mkSimple s!"zW{x}")
     `(tactic|first|(refine ($e).$f:ident ?_;intro $c* $(zCN "zt" 0 g) $k;$[$v]*)|$o:tactic)
    else pure o
   |_=>pure o
  |_=>pure o
 `(tactic|(walk_at "w";$r:tactic))
local macro_rules|`(#[$a,*])=>`(⟨$a,*⟩)
local macro_rules|`(tactic|show $t)=>`(tactic|refine $t)
local macro_rules|`(tactic|calc $t:term)=>`(tactic|(walk_at "w";refine $t))
local macro_rules|`(tactic|delta $x:ident)=>`(tactic|(walk_at "wr";unfold $x))
local macro_rules|`(#v[$s])=>`(($s).heap.objs.size)
theorem GO.{u}{c:Prop}{i:Decidable c}(h:c){α:Sort u}{t e:α}:ite c t e=t:=if_pos h
theorem GP.{u}{c:Prop}{i:Decidable c}(h:¬c){α:Sort u}{t e:α}:ite c t e=e:=if_neg h
namespace L2
abbrev Key:=Sum Int Str
noncomputable def zeP:Key->ph->Bool
 | .inl k,v=>Value.isInt k v
 | .inr x,v=>Value.isStrOf x v
noncomputable def ziS(w:World):Key->Int
 | .inl k=>hashInt k
 | .inr x=>hashStr w x
theorem xY:∀{k:Key} {v:ph},zeP k v=hG->(∃i t,k=DG i/\v=Value.int i t)\/(∃x t,k=DH x/\v=Value.str x t)
 | .inl i,v,h=>by
  have#[t,e]:=Value.isInt_shape (k:=i) (v:=v) h;show .inl #[i,t,rfl,e]
 | .inr x,v,h=>by
  have#[t,e]:=Value.isStrOf_shape (x:=x) (v:=v) h;show .inr #[x,t,rfl,e]
def zlr(i:Int)(t:Tok):zeP (.inl i) (.int i t)=hG:=by simp[zeP,Value.isInt]
def zls(x:Str)(t:Tok):zeP (.inr x) (.str x t)=hG:=by simp[zeP,Value.isStrOf]
def zrt(a b:Int):decide ((DG a:Key)=DG b)=(a==b):=by
 by_cases e:a=b;subst e;simp;have h:¬(DG a:Key)=DG b:=λq=>e (Sum.inl.inj q);rw[decide_eq_false h];show(beq_eq_false_iff_ne.mpr e).symm
def zru(a b:Str):decide ((DH a:Key)=DH b)=decide (a=b):=by
 by_cases e:a=b;subst e;simp;have h:¬(DH a:Key)=DH b:=λq=>e (Sum.inr.inj q);rw[decide_eq_false h,decide_eq_false e]
def zrv(a:Int)(b:Str):decide ((DG a:Key)=DH b)=mK:=decide_eq_false (λq=>nomatch q)
def zrw(a:Str)(b:Int):decide ((DH a:Key)=DG b)=mK:=decide_eq_false (λq=>nomatch q)
noncomputable def vq(prog:Program)(w:World):PySem.KeyKind prog w Key where
 is:=zeP
 hash:=ziS w
 inj:=λv a b ha hb=>by
  rcases xY ha with⟨i,t,rfl,rfl⟩|⟨x,t,rfl,rfl⟩
  .rcases xY hb with⟨j,u,rfl,e⟩|⟨y,u,rfl,e⟩
   .injection e with e1 _;rw[e1]
   show nomatch e
  rcases xY hb with⟨j,u,rfl,e⟩|⟨y,u,rfl,e⟩
  .show nomatch e
  injection e with e1 _;rw[e1]
 byValue:=λk v h=>by
  rcases xY h with⟨i,t,rfl,rfl⟩|⟨x,t,rfl,rfl⟩<;>rfl
 pyHash:=λhv h=>by
  rcases xY hv with⟨i,t,rfl,rfl⟩|⟨x,t,rfl,rfl⟩
  .show wpAny_pyHash_int h
  show wpAny_pyHash_str h
 eqBool:=λhu hv h=>by
  rcases xY hu with⟨i,t,rfl,rfl⟩|⟨x,t,rfl,rfl⟩
  .rcases xY hv with⟨j,u,rfl,rfl⟩|⟨y,u,rfl,rfl⟩
   .rw[zrt] at h;show wpAny_eqBool_int h
   rw[zrv] at h;show SeqAt.EqAt.int_str i t y u _ _ _ _ h
  rcases xY hv with⟨j,u,rfl,rfl⟩|⟨y,u,rfl,rfl⟩
  .rw[zrw] at h;show SeqAt.EqAt.str_int x t j u _ _ _ _ h
  rw[zru] at h;show wpAny_eqBool_str h
 «strs» :=λk x t v h=>by
  rcases xY h with⟨i,u,rfl,e⟩|⟨y,u,rfl,e⟩
  .show nomatch e
  injection e with e1 _
  subst e1;cases v<;>rfl
def zhe(prog:Program)(w:World)(i:Int)(t:Tok):(vq prog w).is (.inl i) (.int i t)=hG:=zlr i t
def zhf(prog:Program)(w:World)(x:Str)(t:Tok):(vq prog w).is (.inr x) (.str x t)=hG:=zls x t
inductive V where
 |non|bl (b:Bool)|int (i:Int)|str (x:Str)|byt (b:Array UInt8)|flt (b:UInt64)|ref (a:Addr)|ty (n:String)
 deriving DecidableEq
def yt:V->ph->Prop
 | .non,u=>u=Value.none
 | .bl b,u=>u=Value.bool b
 | .int i,u=>∃t,u=Value.int i t
 | .str x,u=>∃t,u=Value.str x t
 | .byt b,u=>∃t,u=Value.bytes b t
 | .flt b,u=>∃t,u=Value.float b t
 | .ref a,u=>u=Value.ref a
 | .ty n,u=>u=Value.type n
noncomputable abbrev ym:kx V->kx ph->Prop:=Paired yt
def ym.length(r:ym xs us):xs.length=us.length:=Paired.length r
theorem ym.get:∀{xs:kx V} {us:kx ph} {i:Nat} {x:V},ym xs us->xs[i]? =eV x->∃u,us[i]? =eV u/\yt x u
 |_,_,_,_,.nil,e=>by simp at e
 |_,_,0,_,.cons r _,e=>by simp at e;subst e;show#[_,rfl,r]
 |_,_,i+1,x,.cons _ t,e=>by
  have#[u,h1,h2]:=ym.get (i:=i) (x:=x) t (by simpa using e);show#[u,by simpa using h1,h2]
theorem ym.set(r:yt x u):∀{xs:kx V} {us:kx ph} (i:Nat),ym xs us->ym (xs.set i x) (us.set i u)
 |_,_,_,.nil=> .nil
 |_,_,0,.cons _ t=> .cons r t
 |_,_,i+1,.cons q t=> .cons q (ym.set r i t)
def ym.append(h:ym xs us)(k:ym ys ws):ym (xs++ys) (us++ws):=by
 induction h with
 |nil=>show k
 |cons r _ ih=>show .cons r ih
theorem ym.take:∀{xs:kx V} {us:kx ph} (n:Nat),ym xs us->ym (xs.take n) (us.take n)
 |_,_,0,_=> .nil
 |_,_,_+1,.nil=> .nil
 |_,_,n+1,.cons r t=> .cons r (ym.take n t)
theorem ym.drop:∀{xs:kx V} {us:kx ph} (n:Nat),ym xs us->ym (xs.drop n) (us.drop n)
 |_,_,0,r=>r
 |_,_,_+1,.nil=> .nil
 |_,_,n+1,.cons _ t=>ym.drop n t
def WW:pf V->pf ph->Prop
 |some v,eV u=>yt v u
 |none,gi=>True
 |_,_=>False
def KV{κ:Type}:kx (κ×V)->kx (κ×ph)->Prop:=Paired λ(p:κ×V) (q:κ×ph)=>p.1=q.1/\yt p.2 q.2
noncomputable def kV:Key->V
 | .inl i=> .int i
 | .inr x=> .str x
inductive NK where
 |int (i:Int)|str (x:Str)|tup (l:List NK)
noncomputable instance:DecidableEq NK:=λa b=>Cw (a=b)
mutual
noncomputable def VO(w:World):NK->Int
 | .int i=>ziS w (.inl i)
 | .str x=>ziS w (.inr x)
 | .tup l=>reduceHash (Builtin.Tuple.tupleHashOf (Wc w l))
noncomputable def Wc(w:World):kx NK->kx Int
 |[]=>[]
 |k::r=>VO w k::Wc w r
end
mutual
noncomputable def Zx:NK->Nat
 | .int _=>0
 | .str _=>0
 | .tup l=>VP l+1
noncomputable def VP:kx NK->Nat
 |[]=>0
 |k::r=>max (Zx k) (VP r)
end
noncomputable def zrx(w:World)(x:NK×p8×ph):DictEntry:={hash:=VO w x.1,key:= .ref x.2.1,val:=x.2.2}
inductive HO where
 |lst (xs:List V)
 |tup (xs:List V)
 |dK (af:List (Key×V))|dT (af:List (List Key×V))
 |dN (ks:List (NK×Addr×V))
 |set (S:Int->Bool) (n:Nat)
 |ins (C dx:Addr) (fs:List (Str×V))
 |own (x:Addr)
 |xd (fs:List (Str×V))
 |met (f x:Addr)
 |rng (lo hi:Int)
 |frz (o:Obj) (u:HO)
 |tbl (ps:Array Value)
 |ext (φ:Heap->Prop)
abbrev Hp:=p8->pf HO
noncomputable def upd(H:Hp)(a:p8)(o:HO):Hp:=λb=>if b=a then eV o else H b
def zW{H:Hp}:upd H a o a=eV o:=by unfold upd;rw[GO rfl]
def zS{H:Hp}(h:b≠a):upd H a o b=H b:=by unfold upd;rw[GP h]
def zs9{H:Hp}(h:H a=eV o)(h':H b=eV u)(d:o≠u):a≠b:=by
 intro e;subst e;rw[h] at h';show d (A0 h')
def Zy{H:Hp}(h:H a=eV o)(h':H b=gi):a≠b:=by
 intro e;subst e;rw[h] at h';cases h'
def YM(h:Heap)(a:p8)(items:Array ph):Prop:=∃o,h.get? a=eV o/\o.cls= .type "tuple"/\∃n,o.data= .seq items n/\o.dict=gi
def YM.tup{h:Heap}{a:p8}{items:Array ph}(x:YM h a items):IsTup h a items:=by
 have#[o,e,c,n,d,_]:=x;show#[o,e,c,n,d]
def YM.new(h:Heap)(items:Array ph):YM (h.push {cls:= .type "tuple",data:= .seq items}) h.objs.size items:=#[_,Heap.get?_push_size _ rfl,rfl,_,rfl,rfl]
section
variable(P:Program)(w:World)
def xb(H:Hp)(h:Heap)(a:p8):HO->Prop
 | .lst xs=>xs.length<=FU/\∃(ah:kx ph) (n:Nat),ym xs ah/\h.get? a=eV {cls:= .type "list",data:= .seq ah.toArray n}
 | .tup xs=>xs.length<=FU/\∃ah:kx ph,ym xs ah/\YM h a ah.toArray
 | .dK af=>af.length<=FU/\(a==Gk)=mK/\∃vs,KV af vs/\h.DictOf (vq P w) a vs
 | .dT af=>af.length<=FU/\(a==Gk)=mK/\∃xs:kx (kx Key×p8×ph),
   Paired (λ(p:kx Key×V) (q:kx Key×p8×ph)=>p.1=q.1/\H q.2.1=eV (.tup (p.1.map kV))/\yt p.2 q.2.2) af xs/\
   ∃o es ep,h.get? a=eV o/\o.ExactDict/\o.data= .dict es ep/\es.toList=xs.map (entryOfKey (tupleKind (vq P w)))/\(xs.map (·.1)).Nodup
 | .dN ks=>ks.length<=FU/\(a==Gk)=mK/\∃xs:kx (NK×p8×ph),Paired (λ(p:NK×p8×V) (q:NK×p8×ph)=>p.1=q.1/\p.2.1=q.2.1/\yt p.2.2 q.2.2) ks xs/\
   ∃o es ep,h.get? a=eV o/\o.ExactDict/\o.data= .dict es ep/\es.toList=xs.map (zrx w)/\(xs.map (·.1)).Nodup
 | .set S n=>h.SetOf (intKind P w) a S n
 | .ins C dx fs=>H dx=eV (.own a)/\fs.length<=1000/\dx≠a/\h.get? a=eV (Bk C dx)/\
   ∃mA,h.Ns1 dx mA/\(∀f,WW (fs.lookup f) (mA f))/\EG mA (fs.map (·.1))
 | .own _=>∃o,h.get? a=eV o
 | .xd fs=>∃mA,h.Ns1 a mA/\∀f,WW (fs.lookup f) (mA f)
 | .rng lo hi=>∃t u v,h.get? a=eV {cls:= .type "range",data:= .fields [.int lo t,.int hi u,.int 1 v].toArray}
 | .frz o u=>h.get? a=eV o/\xb H h a u
 | .tbl ps=>h.get? a=eV {cls:= .none,data:= .fields ps}
 | .met f x=>h.get? a=eV (Dt (.ref f) (.ref x))
 | .ext φ=>φ h/\(∃o,h.get? a=eV o)/\∀h1 h2:Heap,φ h1->(∀o,h1.get? a=eV o->h2.get? a=eV o)->φ h2
def HOk(H:Hp)(h:Heap):Prop:=∀a o,H a=eV o->xb P w H h a o
end
section
variable{P:Program}{w:World}{H H':Hp}{h h':Heap}{a:p8}{o:HO}
def xb.lt(x:xb P w H h a o):a<h.objs.size:=by
 cases o with
 |lst xs=>have#[_,_,_,_,e]:=x;show Heap.lt_size e
 |tup xs=>have#[_,_,_,p]:=x;show p.tup.lt
 |dK af=>have#[_,_,_,_,o,_,_,e,_]:=x;show Heap.lt_size e
 |dT af=>have#[_,_,_,_,o,_,_,e,_]:=x;show Heap.lt_size e
 |dN ks=>have#[_,_,_,_,o,_,_,e,_]:=x;show Heap.lt_size e
 |set S n=>have#[o,_,_,_,e,_]:=x;show Heap.lt_size e
 |ins C dx fs=>have#[_,_,_,e,_]:=x;show Heap.lt_size e
 |own y=>have#[_,e]:=x;show Heap.lt_size e
 |xd fs=>have#[_,#[_,_,_,e,_],_]:=x;show Heap.lt_size e
 |rng lo hi=>have#[_,_,_,e]:=x;show Heap.lt_size e
 |frz ob u=>have#[e,_]:=x;show Heap.lt_size e
 |tbl ps=>show Heap.lt_size (show h.get? a=eV _ from x)
 |met f y=>show Heap.lt_size (show h.get? a=eV _ from x)
 |ext φ=>have#[_,#[_,e],_]:=x;show Heap.lt_size e
def Paired.mapP{α β:Type}{F G:α->β->Prop}{l₁:kx α}{l₂:kx β}(h:Paired F l₁ l₂)(f:∀a b,F a b->G a b):Paired G l₁ l₂:=by
 induction h with
 |nil=>show .nil
 |cons r _ ih=>show .cons (f _ _ r) ih
def xb.stay(x:xb P w H h a o)(k:∀b u,(b=a\/H b=eV (.own a))->h.get? b=eV u->h'.get? b=eV u)
  (ho:∀b,H b=eV (.own a)->H' b=eV (.own a)) (ht:∀b xs,H b=eV (.tup xs)->H' b=eV (.tup xs)):xb P w H' h' a o:=by
 induction o with
 |lst xs=>have#[z,ah,n,r,e]:=x;show#[z,ah,n,r,k _ _ (.inl rfl) e]
 |tup xs=>have#[z,ah,r,ob,e,c]:=x;show#[z,ah,r,ob,k _ _ (.inl rfl) e,c]
 |dK af=>have#[z,y,vs,r,ob,es,ep,e,c]:=x;show#[z,y,vs,r,ob,es,ep,k _ _ (.inl rfl) e,c]
 |dT af=>
  have#[z,y,xs,r,ob,es,ep,e,c]:=x;show#[z,y,xs,Paired.mapP r λp q z=>#[z.1,ht _ _ z.2.1,z.2.2],ob,es,ep,k _ _ (.inl rfl) e,c]
 |dN ks=>have#[z,y,xs,r,ob,es,ep,e,c]:=x;show#[z,y,xs,r,ob,es,ep,k _ _ (.inl rfl) e,c]
 |set S n=>have#[ob,es,ep,t,e,c]:=x;show#[ob,es,ep,t,k _ _ (.inl rfl) e,c]
 |ins C dx fs=>
  have#[d,z,ne,e,mA,#[od,es,ep,e2,c],r]:=x;show#[ho _ d,z,ne,k _ _ (.inl rfl) e,mA,#[od,es,ep,k _ _ (.inr d) e2,c],r]
 |own y=>have#[ob,e]:=x;show#[ob,k _ _ (.inl rfl) e]
 |xd fs=>have#[mA,#[od,es,ep,e,c],r]:=x;show#[mA,#[od,es,ep,k _ _ (.inl rfl) e,c],r]
 |rng lo hi=>have#[t,u,v,e]:=x;show#[t,u,v,k _ _ (.inl rfl) e]
 |frz ob u ih=>have#[e,q]:=x;show#[k _ _ (.inl rfl) e,ih q]
 |tbl ps=>
  have e:h.get? a=eV {cls:= .none,data:= .fields ps}:=x;change h'.get? a=eV {cls:= .none,data:= .fields ps};show k a _ (.inl rfl) e
 |met f y=>
  have e:h.get? a=eV (Dt (.ref f) (.ref y)):=x;change h'.get? a=eV (Dt (.ref f) (.ref y));show k a _ (.inl rfl) e
 |ext φ=>have#[p,#[o,e],st]:=x;show#[st _ _ p λo q=>k _ _ (.inl rfl) q,#[o,k _ _ (.inl rfl) e],st]
def HOk.lt(x:HOk P w H h)(e:H a=eV o):a<h.objs.size:=(x a o e).lt
def HOk.fresh(x:HOk P w H h)(e:h.objs.size<=a):H a=gi:=by
 cases q:H a with
 |none=>rfl
 |some u=>show absurd (z6 (x.lt q) e) (B7 _)
def HOk.kept(x:HOk P w H h)(k:∀b u,h.get? b=eV u->h'.get? b=eV u):HOk P w H h':=λa o e=>
 (x a o e).stay (λb u _ q=>k b u q) (λ_ q=>q) λ_ _ q=>q
def HOk.laid(x:HOk P w H h)(k:∀b u,h.get? b=eV u->h'.get? b=eV u)(hp:h.objs.size<=a)(new:xb P w (upd H a o) h' a o):HOk P w (upd H a o) h':=λb u e=>by
 have hn:=x.fresh hp;by_cases hb:b=a;subst hb;rw[zW] at e;cases e;show new
 rw[zS hb] at e;show(x b u e).stay (λc v _ q=>k c v q) (λc q=>by rw[zS (Zy q hn)];show q) λc xs q=>by rw[zS (Zy q hn)];show q
end
def Rd(H:Hp)(a:p8)(u:HO):Prop:=H a=eV u\/∃o,H a=eV (.frz o u)
def Rd.ok{P:Program}{H:Hp}(r:Rd H a u)(x:HOk P w H h):xb P w H h a u:=by
 rcases r with r|⟨o,r⟩
 .show x a u r
 have#[_,q]:=x a _ r;show q
def Mut:pf HO->Prop
 |some (.lst _)=>True
 |some (.dK _)=>True
 |some (.dT _)=>True
 |some (.dN _)=>True
 |some (.set _ _)=>True
 |some (.ins _ _ _)=>True
 |some (.ext _)=>True
 |_=>False
section
variable{P:Program}{H:Hp}
def HOk.write(ok:HOk P w H h)(mu:Mut (H x))(he:e=x\/H e=eV (.own x))(k:∀b u,b≠e->h.get? b=eV u->h'.get? b=eV u)(ki:∃u,h'.get? e=eV u)
  (new:xb P w (upd H x o') h' x o'):HOk P w (upd H x o') h':=λb u q=>by
 have kE:∀c y,H c=eV (.own y)->c≠x:=λc y r z=>by subst z;rw[r] at mu;show mu
 have mY:∀c xs,H c=eV (.tup xs)->c≠x:=λc xs r z=>by subst z;rw[r] at mu;show mu
 by_cases hb:b=x;subst hb;rw[zW] at q;cases q;show new;rw[zS hb] at q;by_cases jS:b=e
 .have q':H b=eV (.own x):=by
   rcases he with z|z;show absurd (jS.trans z) hb;rw[jS];show z
  rw[q] at q';cases q';have#[v,hv]:=ki;show#[v,by rw[jS];show hv]
 show (ok b u q).stay (λc v hc r=>k c v ?_ r) (λc r=>by rw[zS (kE c b r)];show r) λc xs r=>by rw[zS (mY c xs r)];show r
 rcases hc with rfl|hc;show jS;rintro rfl;rcases he with z|z;show kE c b hc z;rw[hc] at z;cases z;show hb rfl
end
structure Un(fs ex:kx p8)(H H':Hp)(h h':Heap):Prop where
 keep:∀b o,h.get? b=eV o->H b=gi->b∉fs->b∉ex->h'.get? b=eV o
 slot:∀b o,h.get? b=eV o->H b=gi->b∈fs->b∉ex->∃sl,h'.get? b=eV {o with slots:=sl}
 free:∀b o,h.get? b=eV o->H b=gi->b∉ex->H' b=gi
 there:∀b o,h.get? b=eV o->b∉ex->∃o',h'.get? b=eV o'
 tups:∀b xs,H b=eV (.tup xs)->H' b=eV (.tup xs)
 frzs:∀b o u,H b=eV (.frz o u)->H' b=eV (.frz o u)
 tbls:∀b ps,H b=eV (.tbl ps)->∃more,H' b=eV (.tbl (ps++more))
section
variable{H H1 H2:Hp}
def Un.any(u:Un fs ex H H1 h h1)(q:h.get? b=eV ob)(n:H b=gi)(hx:b∉ex):∃sl,h1.get? b=eV {ob with slots:=sl}:=by
 by_cases hb:b∈fs;show u.slot b ob q n hb hx;show#[ob.slots,u.keep b ob q n hb hx]
def Un.trans(a:Un fs ex H H1 h h1)(b:Un fs ex H1 H2 h1 h2):Un fs ex H H2 h h2 where
 keep:=λc ob q n hc hx=>b.keep c ob (a.keep c ob q n hc hx) (a.free c ob q n hx) hc hx
 slot:=λc ob q n hc hx=>by
  have#[sl,e1]:=a.slot c ob q n hc hx;have#[sl',e2]:=b.slot c _ e1 (a.free c ob q n hx) hc hx;show#[sl',e2]
 free:=λc ob q n hx=>by
  have#[o',e1]:=a.there c ob q hx;show b.free c o' e1 (a.free c ob q n hx) hx
 there:=λc ob q hx=>by
  have#[o',e1]:=a.there c ob q hx;show b.there c o' e1 hx
 tups:=λc xs q=>b.tups c xs (a.tups c xs q)
 frzs:=λc ob xs q=>b.frzs c ob xs (a.frzs c ob xs q)
 tbls:=λc ps q=>by
  have#[m1,e1]:=a.tbls c ps q;have#[m2,e2]:=b.tbls c _ e1;show#[m1++m2,by rw[e2,Di]]
def Un.kept(k:∀b u,h.get? b=eV u->h'.get? b=eV u):Un fs ex H H h h':=
 #[λb ob q _ _ _=>k b ob q,λb ob q _ _ _=>#[ob.slots,k b ob q],λ_ _ _ n _=>n,λb ob q _=>#[ob,k b ob q],λ_ _ q=>q,λ_ _ _ q=>q,λ_ ps q=>#[[].toArray,by rw[q];simp]]
def Un.refl:Un fs ex H H h h:=Un.kept λ_ _ q=>q
def Un.laid(k:∀b u,h.get? b=eV u->h'.get? b=eV u)(hp:h.objs.size<=a)(hn:H a=gi):Un fs ex H (upd H a o) h h' where
 keep:=λb u q _ _ _=>k b u q
 slot:=λb u q _ _ _=>#[u.slots,k b u q]
 free:=λb u q n _=>by rw[zS (z8 (z6 (Heap.lt_size q) hp))];show n
 there:=λb u q _=>#[u,k b u q]
 tups:=λb xs q=>by rw[zS (Zy q hn)];show q
 frzs:=λb u xs q=>by rw[zS (Zy q hn)];show q
 tbls:=λb ps q=>#[[].toArray,by rw[zS (Zy q hn),q];simp]
def Un.write(mu:Mut (H x))(he:e=x\/H e=eV (.own x))(k:∀b u,b≠e->h.get? b=eV u->h'.get? b=eV u)(ki:∃u,h'.get? e=eV u):Un fs ex H (upd H x o) h h':=by
 have hx:∀b,H b=gi->b≠x:=λb n z=>by subst z;rw[n] at mu;show mu
 have hb:∀b,H b=gi->b≠e:=λb n z=>by
  subst z;rcases he with r|r;show hx b n r;rw[n] at r;cases r
 have hm:∀b u,H b=eV u->¬Mut (eV u)->b≠x:=λb u q nm z=>by subst z;rw[q] at mu;show nm mu
 show#[λb u q n _ _=>k b u (hb b n) q,λb u q n _ _=>#[u.slots,k b u (hb b n) q],λb u q n _=>by rw[zS (hx b n)];show n,λb u q _=> ?_,
  λb xs q=>by rw[zS (hm b _ q λz=>z)];show q,λb u xs q=>by rw[zS (hm b _ q λz=>z)];show q,λb ps q=>#[[].toArray,by rw[zS (hm b _ q λz=>z),q];simp]]
 by_cases jS:b=e;subst jS;show ki;show#[u,k b u jS q]
end
noncomputable def trk(h:Heap)(H:Hp):kx p8:=(Ac h.objs.size).filter λa=>(H a).isSome
noncomputable def zfG(h:Heap)(H:Hp):Heap:=PySem.W.hideAll h (trk h H)
def zlu(h:Heap)(H:Hp):(zfG h H).objs.size=h.objs.size:=PySem.W.hideAll_size _ _
def zmr{H:Hp}(e:h.get? b=eV o)(n:H b=gi):(zfG h H).get? b=eV o:=
 PySem.W.hideAll_get _ e λhm=>by
  have q:(H b).isSome=hG:=(Fk.mp hm).2;rw[n] at q;simp at q
def zpg{H:Hp}(e:(zfG h H).get? b=eV o):h.get? b=eV o/\H b=gi:=by
 have e':h.get? b=eV o:=PySem.W.of_hideAll (trk h H) e;show#[e',?_];cases q:H b with
 |none=>rfl
 |some x=>
  have hm:b∈trk h H:=Fk.mpr #[Ba.mpr (Heap.lt_size e'),by simp[q]];have z:(zfG h H).get? b=gi:=PySem.W.hideAll_none (trk h H) hm;rw[z] at e;cases e
structure Mod(P:Program)(K:uU)(mg:Str->pf ph)(base:Heap):Prop where
 kin:K.In base
 glob:base.Ns FV mg
 blt:∃mb,base.Ns builtinsNs mb/\∀x:Str,x≠"__name__"->mb x=bootBuiltins x
 nolimit:base.NoLimit
 bmn:∃bm ob,mg "__builtins__"=eV (.ref bm)/\bm≠builtinsNs/\base.get? bm=eV ob/\ob.cls= .type "module"/\ob.dict=eV builtinsNs/\ob.data= .plain
 seer:base.NoSeer
 tree:P.given.tree=gi
structure Cx where
 prog:Program
 w:World
 K:uU
 mg:Str->pf ph
 base:Heap
 A:Around
 N:kx Str
 s₀:pA
 H₀:Hp
 env:Env
 outer:kx Env
 stack:kx Env
 ex:kx p8
 fn:Str->Bool
 zn:Str->Bool
 calm:Bool
 pn:kx (p8×Obj)
 xe:ph->pA->Prop
noncomputable def frs(l:kx Env):kx p8:=l.filterMap (·.frame)
noncomputable abbrev Cx.fs(X:Cx):kx p8:=frs X.outer
def Vis(sc:Scope)(x:Str):Prop:=sc.names.lookup x=eV .local\/sc.names.lookup x=eV .cell\/sc.names.lookup x=eV .free
def Loc(sc:Scope)(x:Str):Prop:=sc.names.lookup x=eV .local\/sc.names.lookup x=eV .cell
def zuM(env:Env)(h:Heap)(m:Str->pf ph)(x:Str)(u:ph):Prop:=
 (env.kindOf x=eV .local/\m x=eV u)\/((env.kindOf x=eV .cell\/env.kindOf x=eV .free)/\∃c,env.cells.lookup x=eV c/\h.IsCell c (eV u))
structure Cx.Ok(X:Cx):Prop where
 mod:Mod X.prog X.K X.mg X.base
 kind:X.env.scope.kind= .function
 glob:X.env.globals=FV
 blt:X.env.builtins=builtinsNs
 above:X.s₀.heap.objs.size<=X.env.locals
 inj:∀x y c,X.env.cells.lookup x=eV c->X.env.cells.lookup y=eV c->x=y
 has:∀x,(X.env.kindOf x=eV .cell\/X.env.kindOf x=eV .free)->∃c,X.env.cells.lookup x=eV c
 cab:∀x c,(X.fn x=hG\/X.zn x=hG)->X.env.cells.lookup x=eV c->X.s₀.heap.objs.size<=c
 hd:X.calm=hG->X.A.handled=gi
 frames:X.A.frames=eV X.stack
 stk:X.stack=X.outer\/(X.stack=X.env::X.outer/\X.env.frame=eV X.env.locals)
 exf:∀b∈X.ex,b≠X.env.locals/\∀x c,X.env.cells.lookup x=eV c->c≠b
 bs:∀b o,X.base.get? b=eV o->X.s₀.heap.get? b=eV o/\X.H₀ b=gi
 bsz:X.base.objs.size<=X.s₀.heap.objs.size
 noex:∀b o,X.base.get? b=eV o->b∉X.ex
 exfs:∀b∈X.ex,b∉X.fs
 funs:X.s₀.heap.FunFrames X.base X.outer
 frf:∀b∈X.fs,X.H₀ b=gi
structure Inv(X:Cx)(pins:kx (p8×Obj))(σ:kx (pf V))(H:Hp)(s:pA):Prop where
 ok:X.Ok
 os:s.os=X.s₀.os
 bare:AllBare s.gens
 base:Un X.fs X.ex X.H₀ H X.s₀.heap s.heap
 loc:∃m,s.heap.Ns X.env.locals m/\∀(i:Nat) (x:Str) (v:V),X.N[i]? =eV x->σ[i]? =eV (eV v)->Vis X.env.scope x->∃u,yt v u/\zuM X.env s.heap m x u
 cell:∀x c,X.env.cells.lookup x=eV c->∃v,s.heap.IsCell c v
 free:H X.env.locals=gi
 freeC:∀x c,X.env.cells.lookup x=eV c->H c=gi\/(X.fn x=mK/\∃o,H c=eV (.frz o (.own 0)))
 pin:∀p∈X.pn++pins,s.heap.get? p.1=eV p.2/\H p.1=gi/\p.1≠X.env.locals/\p.1∉X.fs/\∀v,p.2.data≠ .cell v
 hok:HOk X.prog X.w H s.heap
 len:σ.length=X.N.length
section
variable{X:Cx}{pins:kx (p8×Obj)}{σ:kx (pf V)}{H H':Hp}{s:pA}
def Cx.Ok.nofr(ok:X.Ok)(e:X.base.get? b=eV o):b∉X.fs:=λhb=>by
 have:=(ok.funs.mem hb).1;rw[e] at this;cases this
def Inv.bs(I:Inv X pins σ H s):∀b o,X.base.get? b=eV o->s.heap.get? b=eV o/\H b=gi:=λb o e=>
 #[I.base.keep b o (I.ok.bs b o e).1 (I.ok.bs b o e).2 (I.ok.nofr e) (I.ok.noex b o e),I.base.free b o (I.ok.bs b o e).1 (I.ok.bs b o e).2 (I.ok.noex b o e)]
def Inv.bk(I:Inv X pins σ H s):∀b o,X.base.get? b=eV o->s.heap.get? b=eV o:=λb o e=>(I.bs b o e).1
def Inv.mod(I:Inv X pins σ H s):Mod X.prog X.K X.mg X.base:=I.ok.mod
def Inv.kIn(I:Inv X pins σ H s):X.K.In s.heap:=I.ok.mod.kin.keeps I.bk
def Inv.nolimit(I:Inv X pins σ H s):s.heap.NoLimit:=I.ok.mod.nolimit.keeps I.bk
def Inv.lt(I:Inv X pins σ H s):X.env.locals<#v[s]:=let ⟨_,hn,_⟩:=I.loc;hn.lt
def Inv.sz(I:Inv X pins σ H s):X.s₀.heap.objs.size<=#v[s]:=v7 I.ok.above (A3 I.lt)
def Inv.nofs(I:Inv X pins σ H s){a:p8}(h:#v[s]<=a):a∉X.fs:=λhb=>by
 have#[_,o,ho,_]:=I.ok.funs.mem hb;show absurd (z6 (Heap.lt_size ho) (v7 I.sz h)) (B7 _)
def Inv.cne(I:Inv X pins σ H s):∀x c,X.env.cells.lookup x=eV c->c≠X.env.locals:=λx c e z=>by
 have#[v,o,ho,hd]:=I.cell x c e;have#[m,#[o',es,ep,iE,gX,_],_]:=I.loc;rw[z,iE] at ho;cases ho;rw[gX] at hd;cases hd
def Inv.funs(I:Inv X pins σ H s):s.heap.FunFrames X.base X.outer:=by
 have all:∀(l:kx Env),(∀b∈frs l,b∈X.fs)->X.s₀.heap.FunFrames X.base l->s.heap.FunFrames X.base l:=by
  intro l
  induction l with
  |nil=>intro _ _;trivial
  |cons env r ih=>
   intro hs hl;have#[hk,#[L,o,hf,hn,ho,hd],hr]:=hl;have hL:L∈X.fs:=hs L (by unfold frs;rw[BV,hf];show y6);have#[sl,e]:=I.base.slot L o ho (I.ok.frf L hL) hL λz=>I.ok.exfs L z hL;show#[hk,#[L,_,hf,hn,e,hd],ih (λb hb=>hs b (by unfold frs;rw[BV,hf];show w6 _ hb)) hr]
 show all X.outer (λ_ hb=>hb) I.ok.funs
def Inv.stack(I:Inv X pins σ H s):s.heap.FunFrames X.base X.stack:=by
 rcases I.ok.stk with e|⟨e,hf⟩
 .rw[e];show I.funs
 rw[e];have#[m,hn,_]:=I.loc;show .cons (by rw[I.ok.kind];decide) hf hn ?_ I.funs;show Heap.get?_none_of_le (v7 I.ok.bsz I.ok.above)
def Inv.stkSub(I:Inv X pins σ H s):∀b∈frs X.stack,b∈X.env.locals::X.fs:=λb hb=>by
 rcases I.ok.stk with e|⟨e,hf⟩
 .rw[e] at hb;show w6 _ hb
 rw[e] at hb;unfold frs at hb;rw[BV,hf] at hb;show hb
def Inv.stkFree(I:Inv X pins σ H s):∀b∈frs X.stack,H b=gi:=λb hb=>by
 rcases x8.mp (I.stkSub b hb) with e|hb;rw[e];show I.free;have#[_,o,ho,_]:=I.ok.funs.mem hb;show I.base.free b o ho (I.ok.frf b hb) λz=>I.ok.exfs b z hb
def Inv.step{g':Array GH}{t':Nat}{d':Drawn}{ch:kx p8}(I:Inv X pins σ H s)
  (iG:∀b∈ch,(b∈X.ex\/X.s₀.heap.objs.size<=b)/\b≠X.env.locals/\(∀x c,X.env.cells.lookup x=eV c->c≠b)/\∀p∈X.pn++pins,p.1≠b)
  (keep:∀b o,b≠X.env.locals->b∉X.fs->b∉ch->s.heap.get? b=eV o->H b=gi->h'.get? b=eV o)
  (slot:∀b o,b≠X.env.locals->b∈X.fs->b∉ch->s.heap.get? b=eV o->H b=gi->∃sl,h'.get? b=eV {o with slots:=sl}) (free:∀b o,b∉ch->s.heap.get? b=eV o->H b=gi->H' b=gi)
  (there:∀b o,b∉ch->s.heap.get? b=eV o->∃o',h'.get? b=eV o')
  (tups:∀b xs,H b=eV (.tup xs)->H' b=eV (.tup xs)) (frzs:∀b o u,H b=eV (.frz o u)->H' b=eV (.frz o u)) (tbls:∀b ps,H b=eV (.tbl ps)->∃more,H' b=eV (.tbl (ps++more)))
  (ns:∀m,s.heap.Ns X.env.locals m->h'.Ns X.env.locals m) (hok:HOk X.prog X.w H' h') (hg:AllBare g'):
  Inv X pins σ H' {s with heap:=h',gens:=g',drawn:=d',toks:=t'}:=by
 have px:∀b o,X.s₀.heap.get? b=eV o->b≠X.env.locals:=λb o e=>z8 (z6 (Heap.lt_size e) I.ok.above);have lV:∀b o,X.s₀.heap.get? b=eV o->b∉X.ex->b∉ch:=λb o e hx hb=>by
  rcases(iG b hb).1 with z|z;show hx z;show absurd (z6 (Heap.lt_size e) z) (B7 _)
 have cellK:∀x c,X.env.cells.lookup x=eV c->∀v,s.heap.IsCell c v->h'.IsCell c v:=λx c e v ⟨o,ho,hd⟩=>by
  have kH:c∉ch:=λz=>(iG c z).2.2.1 x c e rfl;rcases I.freeC x c e with hf|⟨_,o',hf⟩
  .by_cases hc:c∈X.fs;have#[sl,q]:=slot c o (I.cne x c e) hc kH ho hf;show#[_,q,hd];show#[o,keep c o (I.cne x c e) hc kH ho hf,hd]
  have h1:=(I.hok c _ hf).1;rw[ho] at h1;cases h1;show#[o,(hok c _ (frzs c _ _ hf)).1,hd]
 show#[I.ok,I.os,hg,#[λb o e n hb hx=> ?_,λb o e n hb hx=> ?_,λb o e n hx=> ?_,λb o e hx=> ?_,λb xs e=>tups b xs (I.base.tups b xs e),λb o xs e=>frzs b o xs (I.base.frzs b o xs e),λb ps e=> ?_],?_,λx c e=> ?_,?_,λx c e=> ?_,λp hp=> ?_,hok,I.len];show keep b o (px b o e) hb (lV b o e hx) (I.base.keep b o e n hb hx) (I.base.free b o e n hx);have#[sl,e1]:=I.base.slot b o e n hb hx;have#[sl',e2]:=slot b _ (px b o e) hb (lV b o e hx) e1 (I.base.free b o e n hx);show#[sl',e2];have#[o',e1]:=I.base.there b o e hx;show free b o' (lV b o e hx) e1 (I.base.free b o e n hx);have#[o',e1]:=I.base.there b o e hx;show there b o' (lV b o e hx) e1;have#[m1,e1]:=I.base.tbls b ps e;have#[m2,e2]:=tbls b _ e1;show#[m1++m2,by rw[e2,Di]]
 .obtain⟨m,hn,hl⟩:=I.loc;show#[m,ns m hn,λi x v e1 e2 e3=> ?_];have#[u,r,l]:=hl i x v e1 e2 e3;show#[u,r,?_];rcases l with l|⟨k,c,e,z⟩
  .show .inl l
  show .inr #[k,c,e,cellK x c e _ z]
 .obtain⟨v,z⟩:=I.cell x c e;show#[v,cellK x c e v z]
 .obtain⟨m,⟨o,_,_,ho,_⟩,_⟩:=I.loc;show free _ o (λz=>(iG _ z).2.1 rfl) ho I.free
 .obtain⟨v,o,ho,hd⟩:=I.cell x c e;rcases I.freeC x c e with hf|⟨z,o',hf⟩
  .show .inl (free c o (λz=>(iG c z).2.2.1 x c e rfl) ho hf)
  show .inr #[z,o',frzs c _ _ hf]
 have#[e,n,ne,nf,d]:=I.pin p hp;have kH:p.1∉ch:=λz=>(iG p.1 z).2.2.2 p hp rfl;show#[keep p.1 p.2 ne nf kH e n,free p.1 p.2 kH e n,ne,nf,d]
def Inv.un(I:Inv X pins σ H s)(u:Un X.fs [] H H' s.heap h')(hok:HOk X.prog X.w H' h'):Inv X pins σ H' {s with heap:=h',toks:=t'}:=by
 have#[m,#[o,es,ep,ho,r],_]:=id I.loc;have#[sl,hL]:=u.any ho I.free (by simp)
 show I.step (g':=s.gens) (d':=s.drawn) (ch:=[]) (λ_ z=>nomatch z) (λb o _ hb _ e n=>u.keep b o e n hb (by simp)) (λb o _ hb _ e n=>u.slot b o e n hb (by simp)) (λb o _ e n=>u.free b o e n (by simp)) (λb o _ e=>u.there b o e (by simp)) u.tups u.frzs u.tbls (λm' hm=>by
  have#[o',es',ep',iE,r']:=hm;rw[ho] at iE;cases iE
  show#[_,es',ep',hL,r']) hok I.bare
def Inv.call(I:Inv X pins σ H s)(u:Un (frs X.stack) ch H H' s.heap h')(hok:HOk X.prog X.w H' h')(hg:AllBare g')
  (iG:∀b∈ch,(b∈X.ex\/X.s₀.heap.objs.size<=b)/\b≠X.env.locals/\(∀x c,X.env.cells.lookup x=eV c->c≠b)/\∀p∈X.pn++pins,p.1≠b):
  Inv X pins σ H' {s with heap:=h',gens:=g',drawn:=d',toks:=t'}:=by
 have#[m,#[o,es,ep,ho,r],_]:=id I.loc;have#[sl,hL]:=u.any ho I.free λz=>(iG _ z).2.1 rfl
 show I.step (ch:=ch) iG (λb o hL hb hc e n=>u.keep b o e n (λz=>(x8.mp (I.stkSub b z)).elim hL hb) hc) (λb o _ _ hc e n=>u.any e n hc) (λb o hc e n=>u.free b o e n hc) (λb o hc e=>u.there b o e hc) u.tups u.frzs u.tbls (λm' hm=>by
  have#[o',es',ep',iE,r']:=hm;rw[ho] at iE;cases iE
  show#[_,es',ep',hL,r']) hok hg
def Inv.turned(I:Inv X pins σ H s)(k:∀b o,b≠it->s.heap.get? b=eV o->h'.get? b=eV o)(hn:H it=gi)(hL:it≠X.env.locals)
  (h1:it∈X.ex\/X.s₀.heap.objs.size<=it) (h2:∀x c,X.env.cells.lookup x=eV c->c≠it) (h3:∀p∈X.pn++pins,p.1≠it):Inv X pins σ H {s with heap:=h',toks:=t'}:=by
 have kG:∀b u,H b=eV u->b≠it:=λb u e z=>by rw[z,hn] at e;cases e
 show I.step (g':=s.gens) (d':=s.drawn) (ch:=[it]) (λb hb=> ?_) (λb o _ _ hc e _=>k b o (λz=>hc (by simp[z])) e) (λb o _ _ hc e _=>#[o.slots,k b o (λz=>hc (by simp[z])) e]) (λ_ _ _ _ n=>n)
  (λb o hc e=>#[o,k b o (λz=>hc (by simp[z])) e]) (λ_ _ e=>e) (λ_ _ _ e=>e) (λb ps e=>#[[].toArray,by rw[e];simp]) (λm hm=> ?_) (λb u e=> ?_) I.bare
 .have e:b=it:=by simpa using hb
  subst e;show#[h1,hL,h2,h3]
 .obtain⟨o,es,ep,ho,r⟩:=hm;show#[o,es,ep,k _ o (AX hL) ho,r]
 show (I.hok b u e).stay (λc v hc q=>k c v ?_ q) (λ_ q=>q) λ_ _ q=>q;rcases hc with z|z;rw[z];show kG b u e;show kG c _ z
def Inv.tok(I:Inv X pins σ H s)(t:Nat):Inv X pins σ H {s with toks:=t}:=I.un (h':=s.heap) (t':=t) Un.refl I.hok
def Inv.kept(I:Inv X pins σ H s)(k:∀b u,s.heap.get? b=eV u->h'.get? b=eV u):Inv X pins σ H {s with heap:=h',toks:=t'}:=I.un (Un.kept k) (I.hok.kept k)
def Inv.laid{a:p8}(I:Inv X pins σ H s)(k:∀b u,s.heap.get? b=eV u->h'.get? b=eV u)(hp:#v[s]<=a)(new:xb X.prog X.w (upd H a o) h' a o):
  Inv X pins σ (upd H a o) {s with heap:=h',toks:=t'}:=I.un (Un.laid k hp (I.hok.fresh hp)) (I.hok.laid k hp new)
def Inv.write(I:Inv X pins σ H s)(mu:Mut (H x))(he:e=x\/H e=eV (.own x))(k:∀b u,b≠e->s.heap.get? b=eV u->h'.get? b=eV u)(ki:∃u,h'.get? e=eV u)
  (new:xb X.prog X.w (upd H x o) h' x o):Inv X pins σ (upd H x o) {s with heap:=h',toks:=t'}:=I.un (Un.write mu he k ki) (I.hok.write mu he k ki new)
def Inv.weak(I:Inv X pins σ H s)(hl:σ'.length=σ.length)(w:∀(i:Nat) v,σ'[i]? =eV (eV v)->σ[i]? =eV (eV v)):Inv X pins σ' H s:=
 #[I.ok,I.os,I.bare,I.base,let ⟨m,hn,iF⟩:=I.loc;#[m,hn,λi x v e1 e2 e3=>iF i x v e1 (w i v e2) e3],I.cell,I.free,I.freeC,I.pin,I.hok,hl.trans I.len]
def Inv.pins_of(I:Inv X pins σ H s)(h:∀p∈pins',s.heap.get? p.1=eV p.2/\H p.1=gi/\p.1≠X.env.locals/\p.1∉X.fs/\∀v,p.2.data≠ .cell v):Inv X pins' σ H s:=
 #[I.ok,I.os,I.bare,I.base,I.loc,I.cell,I.free,I.freeC,λp hp=>(AQ.mp hp).elim (λz=>I.pin p (CW _ z)) (h p),I.hok,I.len]
def zhg{N:kx Str}(hN:N.Nodup){i j:Nat}{x:Str}(a:N[i]? =eV x)(b:N[j]? =eV x):i=j:=by
 have#[h1,e1]:=uT.mp a;have#[h2,e2]:=uT.mp b;show(CT hN).mp (e1.trans e2.symm)
def zeQ{A:Around}{E:ph->pA->Prop}{Q:Unit->pA->Prop}(I:Inv X pins σ H s)(hN:X.N.Nodup)(hi:X.N[i]? =eV x)(hx:Loc X.env.scope x)(r:yt v u)
  (h:∀s',Inv X pins (σ.set i (eV v)) H s'->(∃a,Heap.SameBut a s.heap s'.heap/\(a=X.env.locals\/X.env.cells.lookup x=eV a))->Q () s') (hf:X.fn x=hG\/X.env.scope.names.lookup x=eV .local:=by walk_at "q1"):wpAny M A (storeName X.env x u) Q E s:=by
 have#[m,hn,hl]:=id I.loc;have oB:(X.env.scope.kind== .class||(X.env.scope.kind== .module&&X.env.locals !=X.env.globals))=mK:=by rw[I.ok.kind];rfl
 have hiσ:i<σ.length:=by rw[I.len];show(uT.mp hi).1
 have cne:=I.cne;have tracked:∀{a:p8} {h':Heap},(∃o,s.heap.get? a=eV o/\H a=gi)->Heap.SameBut a s.heap h'->HOk X.prog X.w H h':=λ{a h'} ha hs b ob e=>by
  have#[_,_,jq]:=ha;show(I.hok b ob e).stay (λc w' hc q=>(hs.2 c ?_).trans q) (λ_ q=>q) λ_ _ q=>q;rintro rfl;rcases hc with rfl|hc;rw[jq] at e;cases e;rw[jq] at hc;cases hc
 rcases hx with hk|hk
 .show wpAny_storeName_local hk hn (λh' sC hs=> ?_) oB;have#[oL,_,_,sq,_]:=id hn;show h _ #[I.ok,I.os,I.bare,#[λb o e n hb hx=> ?_,λb o e n hb hx=> ?_,I.base.free,λb o e hx=> ?_,I.base.tups,I.base.frzs,I.base.tbls],#[_,sC,λj y v' e1 e2 e3=> ?_],λy c e=> ?_,I.free,I.freeC,λp hp=> ?_,tracked #[oL,sq,I.free] hs,by simpa using I.len] #[_,hs,.inl rfl];show (hs.2 b (z8 (z6 (Heap.lt_size e) I.ok.above))).trans (I.base.keep b o e n hb hx);have#[sl,e1]:=I.base.slot b o e n hb hx;show#[sl,(hs.2 b (z8 (z6 (Heap.lt_size e) I.ok.above))).trans e1];have#[o',e1]:=I.base.there b o e hx;show#[o',(hs.2 b (z8 (z6 (Heap.lt_size e) I.ok.above))).trans e1]
  .by_cases hj:j=i;subst hj;rw[hi] at e1;cases e1;rw[By hiσ] at e2;cases e2;show#[u,r,.inl #[hk,by simp]]
   rw[CY (AX hj)] at e2;have#[u',r',q]:=hl j y v' e1 e2 e3;show#[u',r',?_];rcases q with⟨k,e⟩|⟨k,c,e,z⟩
   .show .inl #[k,?_];have:y≠x:=λe=>hj (zhg hN e1 (e ▸ hi));simp[this,e]
   show .inr #[k,c,e,z.sameBut hs (cne y c e)]
  .obtain⟨w',z⟩:=I.cell y c e;show#[w',z.sameBut hs (cne y c e)]
  have#[e,n,ne,nf,d]:=I.pin p hp;show#[(hs.2 p.1 ne).trans e,n,ne,nf,d]
 have mw:X.fn x=hG:=by
  rcases hf with z|z;show z;rw[z] at hk;cases hk
 have#[c,hc]:=I.ok.has x (.inl hk);have sV:H c=gi:=(I.freeC x c hc).elim (λz=>z) λz=>by rw[mw] at z;cases z.1
 have#[w',z]:=I.cell x c hc;show wpAny_storeName_cell I.ok.kind hk hc z (λh' iH hs=> ?_);have#[oc,mj,nV]:=id z;show h {s with heap:=h'} #[I.ok,I.os,I.bare,#[λb o e n hb hx=> ?_,λb o e n hb hx=> ?_,I.base.free,λb o e hx=> ?_,I.base.tups,I.base.frzs,I.base.tbls],#[m,hn.sameBut hs (AX (cne x c hc)),λj y v' e1 e2 e3=> ?_],λy c' e=> ?_,I.free,I.freeC,λp hp=> ?_,tracked #[oc,mj,sV] hs,by simpa using I.len] #[c,hs,.inr hc];show (hs.2 b (z8 (z6 (Heap.lt_size e) (I.ok.cab x c (.inl mw) hc)))).trans (I.base.keep b o e n hb hx);have#[sl,e1]:=I.base.slot b o e n hb hx;show#[sl,(hs.2 b (z8 (z6 (Heap.lt_size e) (I.ok.cab x c (.inl mw) hc)))).trans e1];have#[o',e1]:=I.base.there b o e hx;show#[o',(hs.2 b (z8 (z6 (Heap.lt_size e) (I.ok.cab x c (.inl mw) hc)))).trans e1]
 .by_cases hj:j=i;subst hj;rw[hi] at e1;cases e1;rw[By hiσ] at e2;cases e2;show#[u,r,.inr #[.inl hk,c,hc,iH]]
  rw[CY (AX hj)] at e2;have#[u',r',q]:=hl j y v' e1 e2 e3;show#[u',r',?_];rcases q with q|⟨k,c',e,z'⟩
  .show .inl q
  show .inr #[k,c',e,z'.sameBut hs ?_];rintro rfl;show hj (zhg hN e1 (I.ok.inj _ _ _ e hc ▸ hi))
 .by_cases mD:c'=c;subst mD;show#[_,iH];have#[w2,z2]:=I.cell y c' e;show#[w2,z2.sameBut hs mD]
 have#[e,n,ne,nf,d]:=I.pin p hp;show#[(hs.2 p.1 ?_).trans e,n,ne,nf,d];intro q;rw[q,mj] at e;have q':oc=p.2:=A0 e;show d w' (by rw[<-q'];show nV)
def zhh{A:Around}{E:ph->pA->Prop}{Q:Unit->pA->Prop}(I:Inv X pins σ H s)(hN:X.N.Nodup)(hi:X.N[i]? =eV x)(hx:Loc X.env.scope x)(r:yt v u)
  (h:∀s',Inv X pins (σ.set i (eV v)) H s'->Q () s') (hf:X.fn x=hG\/X.env.scope.names.lookup x=eV .local:=by walk_at "q1"):wpAny M A (storeName X.env x u) Q E s:=
 zeQ I hN hi hx r (λs' I' _=>h s' I') hf
def Inv.call'(I:Inv X pins σ H s)(ho:s'.os=s.os)(u:Un (frs X.stack) ch H H' s.heap s'.heap)(hok:HOk X.prog X.w H' s'.heap)(hg:AllBare s'.gens)
  (iG:∀b∈ch,(b∈X.ex\/X.s₀.heap.objs.size<=b)/\b≠X.env.locals/\(∀x c,X.env.cells.lookup x=eV c->c≠b)/\∀p∈X.pn++pins,p.1≠b):Inv X pins σ H' s':=by
 have#[h',g',d',t',o']:=s';have e:o'=s.os:=ho;subst e;show I.call (g':=g') (t':=t') (d':=d') u hok hg iG
end
abbrev XK:=ph->pf p8->Hp->Prop
abbrev St:=kx (pf V)
variable{prog:PySem.Program}{A:PySem.Around}{E:PySem.Value->PySem.Shared->Prop}{X:L2.Cx}{K:uU}{pins:kx (PySem.Addr×PySem.Obj)}{σ:L2.St}{H:L2.Hp}{s:PySem.Shared}{Q:PySem.Value->PySem.Shared->Prop}
abbrev VK:=V->Hp->Prop
abbrev TE:=St->Hp->VK->Prop
abbrev TT:=St->Hp->(Bool->Hp->Prop)->Prop
abbrev TA:=St->Hp->(kx V->Hp->Prop)->Prop
structure zaI where
 nx:St->Hp->Prop
 rt:VK
 bk:St->Hp->Prop:=λ_ _=>False
 ct:St->Hp->Prop:=λ_ _=>False
noncomputable abbrev TS:=zaI->St->Hp->Prop
def EP(X:Cx)(pins:kx (p8×Obj))(σ:St)(Q:VK)(u:ph)(s':pA):Prop:=∃v H',Inv X pins σ H' s'/\yt v u/\Q v H'
def TP(X:Cx)(pins:kx (p8×Obj))(σ:St)(Q:Bool->Hp->Prop)(b:Bool)(s':pA):Prop:=∃H',Inv X pins σ H' s'/\Q b H'
def AP(X:Cx)(pins:kx (p8×Obj))(σ:St)(Q:kx V->Hp->Prop)(us:kx ph)(s':pA):Prop:=∃vs H',Inv X pins σ H' s'/\ym vs us/\Q vs H'
def SP(X:Cx)(pins:kx (p8×Obj))(D:zaI)(f:Flow)(s':pA):Prop:=
 match f with
 | .next=>∃σ' H',Inv X pins σ' H' s'/\D.nx σ' H'
 | .brk=>∃σ' H',Inv X pins σ' H' s'/\D.bk σ' H'
 | .cont=>∃σ' H',Inv X pins σ' H' s'/\D.ct σ' H'
 | .ret u=>∃v σ' H',Inv X pins σ' H' s'/\yt v u/\D.rt v H'
def PE(X:Cx)(e:Expr)(t:TE):Prop:=
 ∀(pins:kx (p8×Obj)) (s:pA) (σ:St) (H:Hp) (Q:VK),Inv X pins σ H s->t σ H Q->wpAny (model X.prog X.w) X.A (eval e X.env) (EP X pins σ Q) X.xe s
def PT(X:Cx)(e:Expr)(t:TT):Prop:=
 ∀(pins:kx (p8×Obj)) (s:pA) (σ:St) (H:Hp) (Q:Bool->Hp->Prop),Inv X pins σ H s->t σ H Q->wpAny (model X.prog X.w) X.A (isTrue e X.env (eval e X.env)) (TP X pins σ Q) X.xe s
def PW(X:Cx)(e:Expr)(t:TT):Prop:=
 ∀(whole:Sem ph) (pins:kx (p8×Obj)) (s:pA) (σ:St) (H:Hp) (Q:Bool->Hp->Prop),Inv X pins σ H s->t σ H Q->wpAny (model X.prog X.w) X.A (isTrue e X.env whole) (TP X pins σ Q) X.xe s
def PW.pt(h:PW X e t):PT X e t:=h _
def PA(X:Cx)(es:kx Expr)(t:TA):Prop:=
 ∀(pos:Pos) (pins:kx (p8×Obj)) (s:pA) (σ:St) (H:Hp) (Q:kx V->Hp->Prop),Inv X pins σ H s->t σ H Q->wpAny (model X.prog X.w) X.A (spliced (backTo pos (FW es X.env))) (AP X pins σ Q) X.xe s
def PS(X:Cx)(st:Stmt)(t:TS):Prop:=
 ∀(pins:kx (p8×Obj)) (s:pA) (σ:St) (H:Hp) (D:zaI),Inv X pins σ H s->t D σ H->wpAny (model X.prog X.w) X.A (exec st X.env) (SP X pins D) X.xe s
def PSs(X:Cx)(st:kx Stmt)(t:TS):Prop:=
 ∀(pins:kx (p8×Obj)) (s:pA) (σ:St) (H:Hp) (D:zaI),Inv X pins σ H s->t D σ H->wpAny (model X.prog X.w) X.A (execs st X.env) (SP X pins D) X.xe s
def thn{α:Type}{t:Sem α}{Q Q':α->pA->Prop}(h:wpAny M A t Q E s)(hQ:∀a s,Q a s->Q' a s):wpAny M A t Q' E s:=Gi h hQ λ_ _ x=>x
section
def bin(ha:PE X a ta)(hb:PE X b tb){R:V->V->Hp->Prop}(I:Inv X pins σ H s)(h:ta σ H λx H1=>tb σ H1 λy H2=>R x y H2)
  {α:Type} {Q:α->pA->Prop} {f:ph->ph->Sem α}
  (hf:∀v u s2 x y H2,Inv X pins σ H2 s2->yt x v->yt y u->R x y H2->wpAny (model X.prog X.w) X.A (f v u) Q X.xe s2):
  wpAny (model X.prog X.w) X.A (eval a X.env) (λv s₁=>wpAny (model X.prog X.w) X.A (eval b X.env) (λu s₂=>wpAny (model X.prog X.w) X.A (f v u) Q X.xe s₂) X.xe s₁) X.xe s:=by
 show thn (ha pins s σ H _ I h) ?_;intro v s1 #[x,H1,I1,r1,q1];show thn (hb pins s1 σ H1 _ I1 q1) ?_;intro u s2 #[y,H2,I2,r2,q2];show hf v u s2 x y H2 I2 r1 r2 q2
def zry(i:Nat):TE:=λσ H Q=>∃v,σ[i]? =eV (eV v)/\Q v H
def tC(v:V):TE:=λ_ H Q=>Q v H
def zms{i:Nat}{x:Str}{pos:Pos}(hN:X.N[i]? =eV x)(hv:Vis X.env.scope x)(hd:(x==("__debug__":Str))=mK:=by decide)(dI:(x==("__classdict__":Str))=mK:=by decide):PE X (.Name x pos) (zry i):=by
 intro pins s σ H Q I h;have#[v,e,h]:=h;have#[m,hn,hl]:=I.loc;have#[u,r,l]:=hl i x v hN e hv;have fin:EP X pins σ Q u s:=#[v,H,I,r,h];rcases l with⟨hk,hm⟩|⟨hk,c,hc,jr⟩
 .show wpAny_Name (wpAny_loadName_local I.ok.kind hk hn hm fin) hd
 rcases hk with hk|hk;show wpAny_Name (wpAny_loadName_cell I.ok.kind hk hc jr fin) hd;show wpAny_Name (wpAny_loadName_free I.ok.kind hk hc jr fin dI) hd
def zk{i j pos}:PE X (.Constant (.int i) j pos) (tC (.int i)):=λ_ _ _ H _ I h=>wpAny_Constant_int #[.int i,H,I.tok _,#[_,rfl],h]
def zmt{b j pos}:PE X (.Constant (.bool b) j pos) (tC (.bl b)):=λ_ _ _ H _ I h=>Constant_bool #[.bl b,H,I,rfl,h]
def zmu{j pos}:PE X (.Constant .none j pos) (tC .non):=λ_ _ _ H _ I h=>Constant_none #[.non,H,I,rfl,h]
def zD{x j pos}:PE X (.Constant (.str x) j pos) (tC (.str x)):=λ_ _ _ H _ I h=>Calls.Constant_str #[.str x,H,I.tok _,#[_,rfl],h]
def Gl(X:Cx)(x:Str):Prop:=X.env.kindOf x=eV .globalImplicit
def zfH(I:Inv X pins σ H s)(hg:Gl X x)(hm:X.mg x=eV u)(h:Q u s)
  (hd:(x==("__debug__":Str))=mK:=by decide):wpAny (model X.prog X.w) X.A (eval (.Name x pos) X.env) Q E s:=
 Calls.Name_function_global I.ok.kind hg (Calls.loadGlobal_global (by rw[I.ok.glob];show I.mod.glob.keeps I.bk) hm h) hd
def Ue{x:Str}{u:ph}{pos:Pos}(I:Inv X pins σ H s)(hg:Gl X x)(hm:X.mg x=gi)(hv:bootBuiltins x=eV u)(h:Q u s)
  (hn:x≠"__name__":=by decide) (hd:(x==("__debug__":Str))=mK:=by decide):wpAny (model X.prog X.w) X.A (eval (.Name x pos) X.env) Q E s:=by
 have#[mb,h1,h2]:=I.mod.blt;show Calls.Name_function_global I.ok.kind hg (Calls.loadGlobal_builtin (by rw[I.ok.glob];show I.mod.glob.keeps I.bk) hm (by rw[I.ok.blt];show h1.keeps I.bk) ((h2 x hn).trans hv) h) hd
def zfI(hg:Gl X x)(hm:X.mg x=eV u)(r:yt v u)(hd:(x==("__debug__":Str))=mK:=by decide):PE X (.Name x pos) (tC v):=
 λ_ _ _ H _ I h=>zfH I hg hm #[v,H,I,r,h] hd
def vt{x:Str}{v:V}{u:ph}{pos:Pos}(hg:Gl X x)(hm:X.mg x=gi)(hv:bootBuiltins x=eV u)(r:yt v u)(hn:x≠"__name__":=by decide)(hd:(x==("__debug__":Str))=mK:=by decide):PE X (.Name x pos) (tC v):=
 λ_ _ _ H _ I h=>Ue I hg hm hv #[v,H,I,r,h] hn hd
def t2I(ta tb:TE)(k:Int->Int->Hp->Prop):St->Hp->Prop:=λσ H=>ta σ H λx H1=>tb σ H1 λy H2=>∃i j,x= .int i/\y= .int j/\k i j H2
def PC(X:Cx)(op:CmpOp)(a b:Expr)(t:TE):Prop:=
 ∀(pins:kx (p8×Obj)) (s:pA) (σ:St) (H:Hp) (Q:VK),Inv X pins σ H s->t σ H Q->
  wpAny (model X.prog X.w) X.A (eval a X.env) (λv s₁=>wpAny (model X.prog X.w) X.A (eval b X.env) (λu s₂=>wpAny (model X.prog X.w) X.A (compareOp op v u) (EP X pins σ Q) X.xe s₂) X.xe s₁) X.xe s
def zhi(b:Expr)(h:op≠ .In)(h2:op≠ .NotIn):behindInMarks op b=mK:=by
 have e1:(op==CmpOp.In)=mK:=by cases op<;>first|rfl|exact absurd rfl h
 have e2:(op==CmpOp.NotIn)=mK:=by cases op<;>first|rfl|exact absurd rfl h2
 cases b<;>first|rfl|(change(_&&(_||_)&&_)=mK;rw[e1,e2];simp)
def zhj(p:Int->Int->Bool)(ta tb:TE):TE:=λσ H Q=>t2I ta tb (λi j H2=>Q (.bl (p i j)) H2) σ H
noncomputable abbrev tLt:TE->TE->TE:=zhj λi j=>decide (i<j)
noncomputable abbrev tGt:TE->TE->TE:=zhj λi j=>decide (j<i)
noncomputable abbrev tGe:TE->TE->TE:=zhj λi j=>decide (j<=i)
noncomputable abbrev zta:TE->TE->TE:=zhj λi j=>decide (i=j)
noncomputable abbrev ztb:TE->TE->TE:=zhj λi j=> !decide (i=j)
def zc0{p:Int->Int->Bool}(ha:PE X a ta)(hb:PE X b tb)
  (rule:∀(i j:Int) (t u:Tok) (Q:ph->pA->Prop) (s:pA),Q (.bool (p i j)) s->wpAny (model X.prog X.w) X.A (compareOp op (.int i t) (.int j u)) Q X.xe s):PC X op a b (zhj p ta tb):=by
 intro pins s σ H Q I h;show bin ha hb I h λv u s2 x y H2 I2 rx ry q=> ?_;have#[i,j,rfl,rfl,q]:=q;have#[t,rfl]:=rx;have#[t',rfl]:=ry;show rule i j t t' _ s2 #[.bl _,H2,I2,rfl,q]
def zb5(ha:PE X a ta)(hb:PE X b tb):PC X .Lt a b (tLt ta tb):=zc0 ha hb λ_ _ _ _ _ _ h=>lt_int h
def zeR(ha:PE X a ta)(hb:PE X b tb):PC X .Gt a b (tGt ta tb):=zc0 ha hb λ_ _ _ _ _ _ h=>gt_int h
def ztc(ha:PE X a ta)(hb:PE X b tb):PC X .GtE a b (tGe ta tb):=zc0 ha hb λ_ _ _ _ _ _ h=>ge_int h
def xR(ha:PE X a ta)(hb:PE X b tb):PC X .Eq a b (zta ta tb):=zc0 ha hb λ_ _ _ _ _ _ h=>eq_int (by rw[Ef];show h)
def zbw(ha:PE X a ta)(hb:PE X b tb):PC X .NotEq a b (ztb ta tb):=zc0 ha hb λ_ _ _ _ _ _ h=>ne_int (by rw[bne,Ef];show h)
def ztd(ta:TE):TE:=λσ H Q=>ta σ H λx H1=>Q (.bl (decide (x= .non))) H1
def yt.none_iff(r:yt x v):(v==Value.none)=decide (x= .non):=by
 cases x with
 |non=>cases r;rfl
 |bl _=>cases r;rfl
 |int _=>have#[t,rfl]:=r;rfl
 |str _=>have#[t,rfl]:=r;rfl
 |byt _=>have#[t,rfl]:=r;rfl
 |flt _=>have#[t,rfl]:=r;rfl
 |ref _=>cases r;rfl
 |ty _=>cases r;rfl
def ziT{j pos'}(ha:PE X a ta):PC X .Is a (.Constant .none j pos') (ztd ta):=by
 intro pins s σ H Q I h;show thn (ha pins s σ H _ I h) ?_;intro v s1 #[x,H1,I1,r1,q1];show Constant_none (is_none_gen #[.bl _,H1,I1,by rw[r1.none_iff];rfl,q1])
def tB(t:TE):TT:=λσ H Q=>t σ H λx H1=>∃c,x= .bl c/\Q c H1
def YN(h:PC X op a b t)(h1:behindInMarks op b=mK:=by (first|exact zhi _ ∅ ∅|rfl)):PE X (.Compare a [op] [b] pos) t:=λpins s σ H Q I hw=>wpAny_Compare1 (h pins s σ H Q I hw) h1
def yx(h:PC X op a b t)(h1:behindInMarks op b=mK:=by (first|exact zhi _ ∅ ∅|rfl)):PT X (.Compare a [op] [b] pos) (tB t):=by
 intro pins s σ H Q I hw;show wpAny_isTrue_Compare1 (thn (h pins s σ H _ I hw) λv s1 h1=>thn h1 λu s2 h2=>thn h2 ?_) h1;intro c s3 #[x,H1,I1,r1,q1];have#[d,rfl,q]:=q1;cases r1;show Gv #[H1,I1,q]
def wS(h:PE X e t)(he:∀whole,isTrue e X.env whole=(do let v <-whole;standAt e.pos;holding [v] (truthy v)):=by intro _;rfl):PT X e (tB t):=by
 intro pins s σ H Q I hw;show isTrue_plain (thn (h pins s σ H _ I hw) ?_) (he _);intro v s1 #[x,H1,I1,r1,q1];have#[d,rfl,q]:=q1;cases r1;show Gv #[H1,I1,q]
def zte(t u:TT):TT:=λσ H Q=>t σ H λc H1=>if c=hG then u σ H1 Q else Q mK H1
def tOr(t u:TT):TT:=λσ H Q=>t σ H λc H1=>if c=hG then Q hG H1 else u σ H1 Q
def ztf(t:TT):TT:=λσ H Q=>t σ H λc H1=>Q (!c) H1
def Tn(ha:PT X a tA):PW X (.BoolOp .And [a] pos) tA:=by
 intro wh pins s σ H Q I h;show isTrue_and (thn (ha pins s σ H Q I h) λc s1 e=> ?_);cases c with
 |true=>show isTrue_and_nil e
 |false=>show e
def zbx(ha:PT X a tA):PW X (.BoolOp .Or [a] pos) tA:=by
 intro wh pins s σ H Q I h;show isTrue_or (thn (ha pins s σ H Q I h) λc s1 e=> ?_);cases c with
 |false=>show isTrue_or_nil e
 |true=>show e
def zby(ha:PT X a tA)(hb:PW X (.BoolOp .And (b::rest) pos) tB'):PW X (.BoolOp .And (a::b::rest) pos) (zte tA tB'):=by
 intro wh pins s σ H Q I h;show isTrue_and (thn (ha pins s σ H _ I h) ?_);intro c s1 #[H1,I1,q1];cases c with
 |true=>show hb wh pins s1 σ H1 Q I1 q1
 |false=>show#[H1,I1,q1]
def zeS(ha:PT X a tA)(hb:PW X (.BoolOp .Or (b::rest) pos) tB'):PW X (.BoolOp .Or (a::b::rest) pos) (tOr tA tB'):=by
 intro wh pins s σ H Q I h;show isTrue_or (thn (ha pins s σ H _ I h) ?_);intro c s1 #[H1,I1,q1];cases c with
 |true=>show#[H1,I1,q1]
 |false=>show hb wh pins s1 σ H1 Q I1 q1
def Uf(ha:PT X a tA):PT X (.UnaryOp .Not a pos) (ztf tA):=by
 intro pins s σ H Q I h;show isTrue_not (ha pins s σ H (λc H1=>Q (!c) H1) I h)
def zqW(ta tb:TE):TE:=λσ H Q=>ta σ H λx H1=>∃c,x= .bl c/\if c=hG then tb σ H1 Q else Q (.bl mK) H1
def zqX(ta:TE):TE:=λσ H Q=>ta σ H λx H1=>∃c,x= .bl c/\Q (.bl (!c)) H1
def zbz{op}(h:PE X a t):PE X (.BoolOp op [a] pos) t:=λpins s σ H Q I hw=>BoolOp_one (h pins s σ H Q I hw)
def zae(ha:PE X a ta)(hb:PE X (.BoolOp .And (b::rest) pos) tb):PE X (.BoolOp .And (a::b::rest) pos) (zqW ta tb):=by
 intro pins s σ H Q I h;show BoolOp_and (thn (ha pins s σ H _ I h) ?_);intro v s1 #[x,H1,I1,r1,q1];have#[c,rfl,q1]:=q1;cases r1;show Gv ?_;cases c with
 |true=>show hb pins s1 σ H1 Q I1 q1
 |false=>show#[.bl mK,H1,I1,rfl,q1]
def zfJ(ha:PE X a ta):PE X (.UnaryOp .Not a pos) (zqX ta):=by
 intro pins s σ H Q I h;show UnaryOp_ (thn (ha pins s σ H _ I h) ?_);intro v s1 #[x,H1,I1,r1,q1];have#[c,rfl,q1]:=q1;cases r1;show not_of (Gv #[.bl (!c),H1,I1,rfl,q1])
def tIf(t:TT)(ta tb:TE):TE:=λσ H Q=>t σ H λc H1=>if c=hG then ta σ H1 Q else tb σ H1 Q
def YO(hc:PT X c tA)(ha:PE X a ta)(hb:PE X b tb):PE X (.IfExp c a b pos) (tIf tA ta tb):=by
 intro pins s σ H Q I h;show wpAny_IfExp (thn (hc pins s σ H _ I h) ?_);intro d s1 #[H1,I1,q1];cases d with
 |true=>show ha pins s1 σ H1 Q I1 q1
 |false=>show hb pins s1 σ H1 Q I1 q1
end
def SqL(K:uU)(H:Hp)(a:p8)(xs:kx V):Prop:=
 Rd H a (.lst xs)\/
  ∃(o:Obj) (ah:Array ph) (n:Nat),K.lookup a=eV o/\o.cls= .type "list"/\o.dict=gi/\o.data= .seq ah n/\ah.size<=FU/\ym xs ah.toList
def SqT(K:uU)(H:Hp)(a:p8)(xs:kx V):Prop:=
 Rd H a (.tup xs)\/
  ∃(o:Obj) (ah:Array ph) (n:Nat),K.lookup a=eV o/\o.cls= .type "tuple"/\o.data= .seq ah n/\ah.size<=FU/\ym xs ah.toList
def SqX(K:uU)(H:Hp)(a:p8)(xs:kx V):Prop:=
 Rd H a (.lst xs)\/∃(ah:Array ph) (n:Nat),K.lookup a=eV {cls:= .type "list",data:= .seq ah n}/\ah.size<=FU/\ym xs ah.toList
def SqX.sql{K:uU}{H:Hp}{a:p8}{xs:kx V}(h:SqX K H a xs):SqL K H a xs:=by
 rcases h with h|⟨ah,n,hk,hz,r⟩
 .show .inl h
 show .inr #[_,ah,n,hk,rfl,rfl,rfl,hz,r]
def SqX.of(h:H a=eV (.lst xs)):SqX K H a xs:= .inl (.inl h)
noncomputable def zuN:ph->pf V
 | .none=>eV .non
 | .bool b=>eV (.bl b)
 | .int i _=>eV (.int i)
 | .str x _=>eV (.str x)
 | .bytes b _=>eV (.byt b)
 | .float b _=>eV (.flt b)
 | .ref a=>eV (.ref a)
 | .type n=>eV (.ty n)
 |_=>gi
def yt.abs(r:yt x u):zuN u=eV x:=by
 cases x with
 |non=>cases r;rfl
 |bl _=>cases r;rfl
 |int _=>have#[t,rfl]:=r;rfl
 |str _=>have#[t,rfl]:=r;rfl
 |byt _=>have#[t,rfl]:=r;rfl
 |flt _=>have#[t,rfl]:=r;rfl
 |ref _=>cases r;rfl
 |ty _=>cases r;rfl
def yt.inj(r:yt x u)(q:yt y u):x=y:=A0 (r.abs.symm.trans q.abs)
def ym.inj(h:ym xs us)(k:ym ys us):xs=ys:=by
 induction h generalizing ys with
 |nil=>cases k;rfl
 |cons r _ ih=>
  cases k with
  |cons r' t'=>rw[r.inj r',ih t']
section
def SqT.of(h:H a=eV (.tup xs)):SqT K H a xs:= .inl (.inl h)
def Inv.list(I:Inv X pins σ H s)(h:SqL X.K H a xs):∃ah:kx ph,ym xs ah/\PlainL s.heap a ah.toArray/\xs.length<=FU:=by
 rcases h with h|⟨o,ah,n,hk,hc,hd,hs,hz,r⟩
 .obtain⟨z,ah,n,r,e⟩:=h.ok I.hok;show#[ah,r,#[_,n,e,rfl,rfl,rfl],z]
 show#[ah.toList,r,#[o,n,I.kIn a o hk,hc,hd,by simpa using hs],?_];have e:=r.length;simp only[Bq] at e;omega
def Inv.tuple(I:Inv X pins σ H s)(h:SqT X.K H a xs):∃ah:kx ph,ym xs ah/\IsTup s.heap a ah.toArray/\xs.length<=FU:=by
 rcases h with h|⟨o,ah,n,hk,hc,hs,hz,r⟩
 .obtain⟨z,ah,r,p⟩:=h.ok I.hok;show#[ah,r,p.tup,z]
 show#[ah.toList,r,#[o,I.kIn a o hk,hc,n,by simpa using hs],?_];have e:=r.length;simp only[Bq] at e;omega
def Inv.list_inj(I:Inv X pins σ H s)(h:SqL X.K H a xs)(h':SqL X.K H a ys):xs=ys:=by
 have#[ah,r,#[o,n,e,_,_,d],_]:=I.list h;have#[its',r',#[o',n',e',_,_,d'],_]:=I.list h';rw[e] at e';cases e';rw[d] at d';injection d' with d1 _
 have:ah=its':=by simpa using congrArg FI d1
 subst this;show r.inj r'
def Inv.tuple_inj(I:Inv X pins σ H s)(h:SqT X.K H a xs)(h':SqT X.K H a ys):xs=ys:=by
 have#[ah,r,#[o,e,_,n,d],_]:=I.tuple h;have#[its',r',#[o',e',_,n',d'],_]:=I.tuple h';rw[e] at e';cases e';rw[d] at d';injection d' with d1 _
 have:ah=its':=by simpa using congrArg FI d1
 subst this;show r.inj r'
end
section
variable{st:Stmt}{rest:kx Stmt}{t u:TS}{e:Expr}{te:TE}{pos:Pos}
def zqY:TS:=λD σ H=>D.nx σ H
def zrz(t u:TS):TS:=λD σ H=>t {D with nx:=u D} σ H
def zA:PSs X [] zqY:=λ_ _ σ H _ I h=>wpAny_execs_nil #[σ,H,I,h]
def zmv(h1:PS X st t)(h2:PSs X rest u):PSs X (st::rest) (zrz t u):=by
 intro pins s σ H D I h;show wpAny_execs_cons (thn (h1 pins s σ H {D with nx:=u D} I h) λf s1 q=> ?_);cases f with
 |next=>
  have#[σ',H',I',q]:=q;show h2 pins s1 σ' H' D I' q
 |ret v=>show q
 |brk=>show q
 |cont=>show q
def zph(h1:PS X st t):PSs X [st] t:=by
 intro pins s σ H D I h;show wpAny_execs_cons (thn (h1 pins s σ H D I h) λf s1 q=> ?_);cases f with
 |next=>show wpAny_execs_nil q
 |ret v=>show q
 |brk=>show q
 |cont=>show q
def Inv.quiet(I:Inv X pins σ H s):interactive X.env=mK:=by simp[interactive,I.ok.kind]
def zqZ(te:TE):TS:=λD σ H=>te σ H λ_ H1=>D.nx σ H1
def To(he:PE X e te)(hs:swapsWith e gi pos.line X.env=pure mK:=by rfl):PS X (.Expr e pos) (zqZ te):=by
 intro pins s σ H D I h;show wpAny_Expr_any (thn (he pins s σ H _ I h) ?_) I.quiet hs;intro v s1 #[x,H1,I1,r1,q1];show#[σ,H1,I1,q1]
def ztg(te:TE):TS:=λD σ H=>te σ H D.rt
def zrA(he:PE X e te):PS X (.Return (eV e) pos) (ztg te):=by
 intro pins s σ H D I h;show wpAny_Return_some (thn (he pins s σ H _ I h) ?_);intro v s1 #[x,H1,I1,r1,q1];show#[x,σ,H1,I1,r1,q1]
def zth(c:TT)(t u:TS):TS:=λD σ H=>c σ H λb H1=>if b=hG then t D σ H1 else u D σ H1
def zU(hc:PT X c tc)(ha:PSs X a t)(hb:PSs X b u):PS X (.If c a b pos) (zth tc t u):=by
 intro pins s σ H D I h;show wpAny_If (thn (hc pins s σ H _ I h) ?_);intro d s1 #[H1,I1,q1];cases d with
 |true=>show ha pins s1 σ H1 D I1 q1
 |false=>show hb pins s1 σ H1 D I1 q1
end
abbrev TG:=V->St->Hp->(St->Hp->Prop)->Prop
abbrev TGs:=kx V->St->Hp->(St->Hp->Prop)->Prop
def PG(X:Cx)(target:Expr)(t:TG):Prop:=
 ∀(pins:kx (p8×Obj)) (s:pA) (σ:St) (H:Hp) (v:V) (u:ph) (Q:St->Hp->Prop),Inv X pins σ H s->yt v u->t v σ H Q->
  wpAny (model X.prog X.w) X.A (assign target X.env u) (λ_ s'=>∃σ' H',Inv X pins σ' H' s'/\Q σ' H') X.xe s
def PGs(X:Cx)(ts:kx Expr)(t:TGs):Prop:=
 ∀(pins:kx (p8×Obj)) (s:pA) (σ:St) (H:Hp) (vs:kx V) (us:kx ph) (Q:St->Hp->Prop),Inv X pins σ H s->ym vs us->t vs σ H Q->
  wpAny (model X.prog X.w) X.A (assignInOrder ((assignEach ts X.env).map (·.2)) us) (λ_ s'=>∃σ' H',Inv X pins σ' H' s'/\Q σ' H') X.xe s
abbrev zrB:=V->V->V->Hp->(Hp->Prop)->Prop
def zti(X:Cx)(t:zrB):Prop:=
 ∀(pins:kx (p8×Obj)) (s:pA) (σ:St) (H:Hp) (o i v:V) (ov iv u:ph) (Q:Hp->Prop),Inv X pins σ H s->yt o ov->yt i iv->yt v u->t o i v H Q->
  wpAny (model X.prog X.w) X.A (setItem ov iv u) (λ_ s'=>∃H',Inv X pins σ H' s'/\Q H') X.xe s
section
variable{pos:Pos}
def zeT(i:Nat):TG:=λv σ H Q=>Q (σ.set i (eV v)) H
def zpi(hN:X.N.Nodup)(hi:X.N[i]? =eV x)(hx:Loc X.env.scope x)(hf:X.fn x=hG\/X.env.scope.names.lookup x=eV .local:=by walk_at "q1"):PG X (.Name x pos) (zeT i):=by
 intro pins s σ H v u Q I r h;show wpAny_assign_Name (zhh I hN hi hx r (λs' I'=>#[_,H,I',h]) hf)
def zrC:TGs:=λvs σ H Q=>vs=[]/\Q σ H
def zmw(t:TG)(u:TGs):TGs:=λvs σ H Q=>∃v r,vs=v::r/\t v σ H λσ' H'=>u r σ' H' Q
def zpj:PGs X [] zrC:=by
 intro pins s σ H vs us Q I r h;have#[e,h]:=h;subst e;cases r;show assignInOrder_nil #[σ,H,I,h]
def zhk(h1:PG X e t)(h2:PGs X es u)
  (hs:(assignEach (e::es) X.env).map (·.2)=assign e X.env::(assignEach es X.env).map (·.2):=by rfl):PGs X (e::es) (zmw t u):=by
 intro pins s σ H vs us Q I r h;have#[v,vr,e1,h]:=h;subst e1;cases r with
 |cons r rr=>
  rw[hs];show assignInOrder_cons (thn (h1 pins s σ H _ _ _ I r h) ?_);intro _ s1 #[σ1,H1,I1,q1];show h2 pins s1 σ1 H1 _ _ Q I1 rr q1
def zpk(K:uU)(n:Nat)(t:TGs):TG:=λv σ H Q=>∃a xs,v= .ref a/\SqT K H a xs/\xs.length=n/\t xs σ H Q
def zrD{es:kx Expr}{k:Nat}{t:TGs}{n:Nat}(hc:X.calm=hG)(h:PGs X es t)
  (hn:(assignEach es X.env).length=n:=by rfl) (fI:(assignEach es X.env).findIdx? (·.1)=gi:=by rfl):PG X (.Tuple es k pos) (zpk X.K n t):=by
 intro pins s σ H v u Q I r hw;have#[a,xs,e1,hq,hl,hw]:=hw;subst e1;cases r;have#[ah,rv,ht,hz]:=I.tuple hq;show assign_Tuple_tuple (I.ok.hd hc) ht (by simp[hn,<-hl,rv.length]) fI λh' hx=> ?_;have I1:Inv X pins σ H {s with heap:=h'}:=I.kept (t':=s.toks) λb o e=>hx b o (z8 (Heap.lt_size e)) e;show h pins _ σ H xs _ Q I1 (by simpa using rv) hw
def ztj(to ti:TE)(t:zrB):TG:=λv σ H Q=>to σ H λo H1=>ti σ H1 λi H2=>t o i v H2 λH3=>Q σ H3
def zmx(ho:PE X o to)(hi:PE X i ti)(hs:zti X t)
  (ha:∀v,assign (.Subscript o i pos) X.env v=(do
   let ov <-holding [v] (eval o X.env)
   let iv <-holding [v,ov] (eval i X.env)
   standAt pos
   holding [v,ov,iv] (setItem ov iv v)
   release [v,ov,iv] []):=by intro _;rfl):PG X (.Subscript o i pos) (ztj to ti t):=by
 intro pins s σ H v u Q I r h;rw[ha];show qR (Gm (thn (ho pins s σ H _ I h) ?_));intro ov s1 #[x,H1,I1,r1,q1];show qR (Gm (thn (hi pins s1 σ H1 _ I1 q1) ?_));intro iv s2 #[y,H2,I2,r2,q2];show qR (wpAny_standAt (qR (Gm (thn (hs pins s2 σ H2 x y v ov iv u _ I2 r1 r2 r q2) ?_))));intro _ s3 #[H3,I3,q3];show wpAny_release #[σ,H3,I3,q3]
def zrE(te:TE)(g:TG):TS:=λD σ H=>te σ H λx H1=>g x σ H1 D.nx
def zmy(he:PE X e te)(hg:PG X tg g)(hs:swapsWithSole [tg] e pos.line X.env=pure mK:=by rfl)(hw:swappedStores [tg] e X.env=pure gi:=by rfl)
  (h1:(assignEach [tg] X.env).map (·.2)=[assign tg X.env]:=by rfl):PS X (.Assign [tg] e pos) (zrE te g):=by
 intro pins s σ H D I h;show wpAny_Assign_stores (thn (he pins s σ H _ I h) ?_) hs hw;intro v s1 #[x,H1,I1,r1,q1];rw[h1];show thn (hg pins s1 σ H1 x v _ I1 r1 q1) λ_ s2 q=>q
def zmz{i:Nat}{x:Str}{e:Expr}{te:TE}{pos':Pos}(hN:X.N.Nodup)(hi:X.N[i]? =eV x)(hx:Loc X.env.scope x)(he:PE X e te)(hs:swapsWith e (eV (.Name x pos')) pos.line X.env=pure mK:=by rfl)(hf:X.fn x=hG\/X.env.scope.names.lookup x=eV .local:=by walk_at "q1"):
  PS X (.Assign [.Name x pos'] e pos) (zrE te (zeT i)):=by
 intro pins s σ H D I h;show wpAny_Assign_Name (thn (he pins s σ H _ I h) ?_) hs;intro v s1 #[y,H1,I1,r1,q1];show zhh I1 hN hi hx r1 (λs2 I2=>#[_,H1,I2,q1]) hf
def zmA(c:TT)(tb:TS):TS:=λD σ H=>∃W:Nat->St->Hp->Prop,(∃m,W m σ H)/\∀m σ H,W m σ H->
 c σ H λb H1=>if b=hG then ∃N:St->Hp->Prop,(∀σ' H',N σ' H'->∃m',m'<m/\W m' σ' H')/\tb {D with nx:=N,ct:=N,bk:=D.nx} σ H1 else D.nx σ H1
def zaJ(hp:PassesOwn (model X.prog X.w) X.A X.env X.xe)(hc:PT X c tc)(hb:PSs X body tb):PS X (.While c body [] pos) (zmA tc tb):=by
 intro pins s σ H D I h;have#[W,#[m0,w0],turn]:=h;show wpAny_While (codeAny_whileLoop (λn s'=>∃σ' H',Inv X pins σ' H' s'/\W n σ' H') ?_ m0 #[σ,H,I,w0]);intro n s1 #[σ1,H1,I1,w1];show Gx hp (thn (hc pins s1 σ1 H1 _ I1 (turn n σ1 H1 w1)) ?_);intro b s2 #[H2,I2,q2];cases b with
 |true=>
  have#[N,hN,q2]:=q2;rw[GO rfl];show Gx hp (thn (hb pins s2 σ1 H2 _ I2 q2) λf s3 q3=> ?_);cases f with
  |next=>
   have#[σ3,H3,I3,n3]:=q3;have#[m',hm,w3]:=hN σ3 H3 n3;show#[m',hm,σ3,H3,I3,w3]
  |cont=>
   have#[σ3,H3,I3,n3]:=q3;have#[m',hm,w3]:=hN σ3 H3 n3;show#[m',hm,σ3,H3,I3,w3]
  |brk=>show q3
  |ret v=>show q3
 |false=>
  rw[GP A6];show wpAny_execs_nil #[σ1,H2,I2,q2]
end
structure It where
 go:Nat->Hp->Prop
 yld:Nat->Hp->V->Hp->Prop
 stop:Nat->Hp->Prop
def zeh(X:Cx)(pins:kx (p8×Obj))(H:Hp)(b:p8):Prop:=
 H b=gi/\b≠X.env.locals/\b∉X.fs/\(b∈X.ex\/X.s₀.heap.objs.size<=b)/\(∀x c,X.env.cells.lookup x=eV c->c≠b)/\∀p∈X.pn++pins,p.1≠b
def Inv.fpOk{b:p8}(I:Inv X pins σ H s)(hb:#v[s]<=b)(hn:H' b=gi):zeh X pins H' b:=by
 show#[hn,CZ (z6 I.lt hb),I.nofs hb,.inr (v7 I.sz hb),λx c e z=> ?_,λp hp z=> ?_];have#[v,q]:=I.cell x c e;show absurd (z6 q.lt (by rw[z];show hb)) (B7 _);show absurd (z6 (Heap.lt_size (I.pin p hp).1) (by rw[z];show hb)) (B7 _)
structure ziU(P:Program)(w:World)(K:uU)(tg:Expr)(J:It)(fp:kx p8)(it:p8)(tn:Nat->Heap->Prop):Prop where
 mem:it∈fp
 obj:∀i h,tn i h->∀b∈fp,∃o,h.get? b=eV o/\∀v,o.data≠ .cell v
 keep:∀i h h',tn i h->(∀b∈fp,∀o,h.get? b=eV o->h'.get? b=eV o)->tn i h'
 item:∀(X:Cx),X.prog=P->X.w=w->X.K=K->X.calm=hG->∀(i:Nat) (pins:kx (p8×Obj)) (s:pA) (σ:St) (H:Hp) (E:ph->pA->Prop),Inv X pins σ H s->(∀b∈fp,zeh X pins H b)->tn i s.heap->J.go i H->
  wpAny (model P w) X.A (pyNext (.ref it)) (λr s1=>∃u,r=eV u/\
   wpAny (model P w) X.A (letOwnedTupleGo tg (.ref it) u) (λ_ s2=>∃x H',Inv X pins σ H' s2/\yt x u/\J.yld i H x H'/\tn (i+1) s2.heap/\∀b∈fp,H' b=gi) E s1) E s
 done:∀(X:Cx),X.prog=P->X.w=w->X.K=K->X.calm=hG->∀(i:Nat) (pins:kx (p8×Obj)) (s:pA) (σ:St) (H:Hp) (E:ph->pA->Prop),Inv X pins σ H s->(∀b∈fp,zeh X pins H b)->tn i s.heap->J.stop i H->
  wpAny (model P w) X.A (pyNext (.ref it)) (λr s1=>r=gi/\Inv X pins σ H s1) E s
 self:∀(A:Around) (i:Nat) (s:pA) (Q:ph->pA->Prop) (E:ph->pA->Prop),tn i s.heap->Q (.ref it) s->wpAny (model P w) A (pyIter (.ref it)) Q E s
abbrev TI:=St->Hp->(It->Hp->Prop)->Prop
def PIE(X:Cx)(pins:kx (p8×Obj))(σ:St)(tg:Expr)(R:It->Hp->Prop)(nc:ph)(s2:pA):Prop:=
 ∃(it:p8) (fp:kx p8) (tn:Nat->Heap->Prop) (J:It) (H':Hp),nc= .ref it/\Inv X pins σ H' s2/\ziU X.prog X.w X.K tg J fp it tn/\tn 0 s2.heap/\(∀b∈fp,zeh X pins H' b)/\R J H'
def PI(X:Cx)(tg iter:Expr)(wi:TI):Prop:=
 ∀(pins:kx (p8×Obj)) (s:pA) (σ:St) (H:Hp) (R:It->Hp->Prop),Inv X pins σ H s->wi σ H R->
  wpAny (model X.prog X.w) X.A (eval iter X.env) (λv s1=>wpAny (model X.prog X.w) X.A (pyIter v) (PIE X pins σ tg R) X.xe s1) X.xe s
def zkm{Q:Unit->pA->Prop}(ho:s.heap.get? it=eV o)(hc:o.cls= .type n)(hd:o.data= .fields vs)
    (hn:["enumerate","zip","dict_itemiterator","dict_reverseitemiterator","odict_iterator","itertools.zip_longest","itertools.pairwise"].contains n=mK) (hQ:Q () s):wpAny M A (letOwnedTupleGo tg (.ref it) u) Q E s:=by
  unfold letOwnedTupleGo;cases tg<;>first
    |exact uh hQ
    | (cases u <;> first
        |exact uh hQ
        | (show qR (wpAny_load ho ?_)
           rw[hc,hd];change wpAny M A (if (["enumerate","zip","dict_itemiterator","dict_reverseitemiterator","odict_iterator","itertools.zip_longest","itertools.pairwise"].contains n&&vs[0]? ==eV (Gu _))=hG then _ else _) Q E s;rw[GP (by intro h;rw[hn,Bool.false_and] at h;cases h)]
           show uh hQ))
noncomputable def Itl(K:uU)(a:p8):It:=
 #[λi H=>∃xs x,SqL K H a xs/\xs[i]? =eV x,λi H x H'=>H'=H/\∀xs,SqL K H a xs->xs[i]? =eV x,λi H=>∃xs,SqL K H a xs/\xs.length<=i]
noncomputable def Itt(K:uU)(a:p8):It:=
 #[λi H=>∃xs x,SqT K H a xs/\xs[i]? =eV x,λi H x H'=>H'=H/\∀xs,SqT K H a xs->xs[i]? =eV x,λi H=>∃xs,SqT K H a xs/\xs.length<=i]
noncomputable def Itr(lo:Int)(n:Nat):It:=#[λi _=>i<n,λi H x H'=>H'=H/\x= .int (lo+i),λi _=>n<=i]
def zeU{P:Program}(a it:p8):ziU P w K tg (Itl K a) [it] it (λi h=>h.IsListIter it a i) where
 mem:=by simp
 obj:=λi h st b hb=>by
  have e:b=it:=by simpa using hb
  subst e;have#[o,e,c,d]:=st;show#[o,e,λv z=>by rw[d] at z;cases z]
 keep:=λi h h' st k=>st.at λo e=>k it (by simp) o e
 item:=by
  walk_at "!b";have#[xs,x,hq,hx]:=hg;have#[ah,rv,p,hz]:=I.list hq;have#[u,hu,ru]:=rv.get hx;have#[f0,f1,f2,f3,f4,f5]:=hf it (by simp);show wpAny_pyNext_list_item st p.isList (x:=u) (by simpa using hu) λh' st' sb=> ?_;have I1:Inv X pins σ H {s with heap:=h'}:=I.turned (t':=s.toks) (λb o hb e=>(sb.2 b hb).trans e) f0 f1 f3 f4 f5;have#[o,e,c,d]:=id st';show#[u,rfl,zkm (s:={s with heap:=h'}) e c d ∅ #[x,H,I1,ru,#[rfl,λys hy=>by rw[I.list_inj hy hq];show hx],st',λb hb=>(hf b hb).1]]
 done:=by
  walk_at "!b";have#[xs,hq,hx]:=hg;have#[ah,rv,p,hz]:=I.list hq;have#[f0,f1,f2,f3,f4,f5]:=hf it (by simp);have hl:=rv.length;show wpAny_pyNext_list_end (I.ok.hd hc) st p.isList (by simp;omega) λh' eb=>#[rfl,I.turned (t':=s.toks) (λb o hb e=>eb b o hb e) f0 f1 f3 f4 f5]
 self:=λ_ _ _ _ _ st h=>wpAny_pyIter_listiter st h
def zc1{P:Program}(a it:p8):ziU P w K tg (Itt K a) [it] it (λi h=>h.IsTupleIter it a i) where
 mem:=by simp
 obj:=λi h st b hb=>by
  have e:b=it:=by simpa using hb
  subst e;have#[o,e,c,d]:=st;show#[o,e,λv z=>by rw[d] at z;cases z]
 keep:=λi h h' st k=>st.at λo e=>k it (by simp) o e
 item:=by
  walk_at "!b";have#[xs,x,hq,hx]:=hg;have#[ah,rv,p,hz]:=I.tuple hq;have#[u,hu,ru]:=rv.get hx;have#[f0,f1,f2,f3,f4,f5]:=hf it (by simp);show wpAny_pyNext_tuple_item st (show s.heap.IsTuple a ah.toArray from p) (x:=u) (by simpa using hu) λh' st' sb=> ?_;have I1:Inv X pins σ H {s with heap:=h'}:=I.turned (t':=s.toks) (λb o hb e=>(sb.2 b hb).trans e) f0 f1 f3 f4 f5;have#[o,e,c,d]:=id st';show#[u,rfl,zkm (s:={s with heap:=h'}) e c d ∅ #[x,H,I1,ru,#[rfl,λys hy=>by rw[I.tuple_inj hy hq];show hx],st',λb hb=>(hf b hb).1]]
 done:=by
  walk_at "!b";have#[xs,hq,hx]:=hg;have#[ah,rv,p,hz]:=I.tuple hq;have#[f0,f1,f2,f3,f4,f5]:=hf it (by simp);have hl:=rv.length;show wpAny_pyNext_tuple_end (I.ok.hd hc) st (show s.heap.IsTuple a ah.toArray from p) (by simp;omega) λh' eb=>#[rfl,I.turned (t':=s.toks) (λb o hb e=>eb b o hb e) f0 f1 f3 f4 f5]
 self:=λ_ _ _ _ _ st h=>wpAny_pyIter_tupleiter st h
def ziV{P:Program}(it:p8)(lo:Int)(n:Nat):ziU P w K tg (Itr lo n) [it] it (λi h=>IsRangeIter h it (lo+(i:Nat)*1) ((n:Int)-(i:Nat)) 1) where
 mem:=by simp
 obj:=λi h st b hb=>by
  have e:b=it:=by simpa using hb
  subst e
  show#[_,st,λv z=>by
   have z':Data.fields _=Data.cell v:=z
   cases z']
 keep:=λi h h' st k=>k it (by simp) _ st
 item:=by
  walk_at "!b";have#[f0,f1,f2,f3,f4,f5]:=hf it (by simp);have W:=Walks.range (prog:=X.prog) (w:=X.w) (I.ok.hd hc) it lo 1 n;show W.item i s _ _ hg st λv h' tk hv st' kk=> ?_;have#[t,rfl]:=hv;have I1:Inv X pins σ H {s with heap:=h',toks:=tk}:=I.turned (λb o hb e=>kk b o (by simpa using hb) e) f0 f1 f3 f4 f5;show#[_,rfl,zkm (s:={s with heap:=h',toks:=tk}) (n:="range_iterator") st' rfl rfl ∅ #[.int (lo+i),H,I1,#[t,?_],#[rfl,rfl],st',λb hb=>(hf b hb).1]];rw[Int.mul_one]
 done:=by
  walk_at "!b";have#[f0,f1,f2,f3,f4,f5]:=hf it (by simp);show wpAny_pyNext_range_end (I.ok.hd hc) st (by have:n<=i:=hg;omega) λh' eb=>#[rfl,I.turned (t':=s.toks) (λb o hb e=>eb b o hb e) f0 f1 f3 f4 f5]
 self:=λ_ _ _ _ _ st h=>wpAny_pyIter_rangeiter st h
section
def zmB(K:uU)(tl:TE):TI:=λσ H R=>tl σ H λx H1=>∃a,x= .ref a/\(∃xs,SqL K H1 a xs)/\R (Itl K a) H1
def zrF(K:uU)(tl:TE):TI:=λσ H R=>tl σ H λx H1=>∃a,x= .ref a/\(∃xs,SqT K H1 a xs)/\R (Itt K a) H1
def zpl(hl:PE X l tl):PI X tg l (zmB X.K tl):=by
 intro pins s σ H R I h;show thn (hl pins s σ H _ I h) ?_;intro v s1 #[x,H1,I1,r1,q1];have#[a,e,#[xs,hq],q]:=q1;subst e;cases r1;have#[ah,rv,p,hz]:=I1.list hq;show Gw p.isList ?_;show#[#v[s1],[#v[s1]],_,_,H1,rfl,I1.kept (t':=s1.toks) λb o e=>Heap.get?_push_of_some _ e,zeU a _,#[_,Heap.get?_push_size _ rfl,rfl,rfl],λb hb=> ?_,q];have e:b=#v[s1]:=by simpa using hb
 (subst e;exact I1.fpOk (v3 _) (I1.hok.fresh (v3 _)))
def zrG(hl:PE X l tl):PI X tg l (zrF X.K tl):=by
 intro pins s σ H R I h;show thn (hl pins s σ H _ I h) ?_;intro v s1 #[x,H1,I1,r1,q1];have#[a,e,#[xs,hq],q]:=q1;subst e;cases r1;have#[ah,rv,p,hz]:=I1.tuple hq;show wpAny_pyIter_tuple (show s1.heap.IsTuple a ah.toArray from p) ?_;show#[#v[s1],[#v[s1]],_,_,H1,rfl,I1.kept (t':=s1.toks) λb o e=>Heap.get?_push_of_some _ e,zc1 a _,#[_,Heap.get?_push_size _ rfl,rfl,rfl],λb hb=> ?_,q];have e:b=#v[s1]:=by simpa using hb
 (subst e;exact I1.fpOk (v3 _) (I1.hok.fresh (v3 _)))
def zmC{R:It->Hp->Prop}{lo hi:Int}{t u v:Tok}{tk:Nat}(I:Inv X pins σ H s)(h1: -(2^62)<=lo)(h2:lo<2^62)(h3: -(2^62)<=hi)(h4:hi<2^62)
  (q:R (Itr lo (hi-lo).toNat) H):wpAny (model X.prog X.w) X.A (pyIter (.ref #v[s])) (PIE X pins σ tg R) E {s with heap:=s.heap.push {cls:= .type "range",data:= .fields [.int lo t,.int hi u,.int 1 v].toArray},toks:=tk}:=by
 show wpAny_pyIter_range (IsRange.new ..) (small_one h1 h2 h3 h4) ?_;have I1:Inv X pins σ H {s with heap:=s.heap.push {cls:= .type "range",data:= .fields [.int lo t,.int hi u,.int 1 v].toArray},toks:=tk}:=I.kept λb o e=>Heap.get?_push_of_some _ e
 show#[(s.heap.push {cls:= .type "range",data:= .fields [.int lo t,.int hi u,.int 1 v].toArray}).objs.size,[(s.heap.push {cls:= .type "range",data:= .fields [.int lo t,.int hi u,.int 1 v].toArray}).objs.size],_,_,H,rfl,
  I1.kept (t':=tk) λb o e=>Heap.get?_push_of_some _ e,ziV _ lo (hi-lo).toNat,?_,λb hb=> ?_,q]
 .have e1:lo+((0:Nat):Int)*1=lo:=by simp
  have e2:(((hi-lo).toNat:Nat):Int)-((0:Nat):Int)=Builtin.Range.rangeSize lo hi 1:=by rw[rangeSize_one];split<;>omega
  change IsRangeIter _ _ (lo+((0:Nat):Int)*1) ((((hi-lo).toNat:Nat):Int)-((0:Nat):Int)) 1;rw[e1,e2];show Heap.get?_push_size _ rfl
 have e:b=(s.heap.push {cls:= .type "range",data:= .fields [.int lo t,.int hi u,.int 1 v].toArray}).objs.size:=by simpa using hb
 (subst e;exact I1.fpOk (v3 _) (I1.hok.fresh (v3 _)))
def zq0(ta:TA):TI:=λσ H R=>ta σ H λvs H1=>∃j:Int,vs=[.int j]/\ -(2^62)<=j/\j<2^62/\R (Itr 0 j.toNat) H1
def yJ(hg:Gl X "range")(hm:X.mg "range"=gi)(ha:PA X [a] ta)(hs:FW [a] X.env=[(mK,eval a X.env)]:=by rfl):PI X tg (.Call (.Name "range" p) [a] [] pos) (zq0 ta):=by
 intro pins s σ H R I h;show Call_ (Ue I hg hm boot_range (AW (thn (ha pos pins s σ H _ I h) ?_) hs rfl));intro us s1 #[vs,H1,I1,r1,q1];have#[j,e,q1,q2,q]:=q1;subst e;cases r1 with
 |cons r rr=>
  cases rr;have#[t,rfl]:=r;show call_range_1 (zmC I1 ⋯ ⋯ q1 q2 (by simpa using q))
def ztk(wi:TI)(g:TG)(tb:TS):TS:=λD σ H=>wi σ H λJ H1=>∃W:Nat->Nat->St->Hp->Prop,(∃m,W 0 m σ H1)/\∀i m σ H,W i m σ H->
 (J.stop i H/\D.nx σ H)\/(J.go i H/\∃N:St->Hp->Prop,(∀σ' H',N σ' H'->∃m',m'<m/\W (i+1) m' σ' H')/\∀x H',J.yld i H x H'->g x σ H' λσ2 H2=>tb {D with nx:=N,ct:=N,bk:=D.nx} σ2 H2)
noncomputable def zc2(fp:kx p8)(h:Heap):kx (p8×Obj):=fp.filterMap λb=>(h.get? b).map λo=>(b,o)
def WX(hb:b∈fp)(e:h.get? b=eV o):(b,o)∈zc2 fp h:=EH.mpr #[b,hb,by rw[e];rfl]
def zlv(hp:p∈zc2 fp h):p.1∈fp/\h.get? p.1=eV p.2:=by
 have#[b,hb,e]:=EH.mp hp;cases q:h.get? b with
 |none=>rw[q] at e;cases e
 |some o=>
  rw[q] at e;have e':(b,o)=p:=A0 e;subst e';show#[hb,q]
def Inv.pinned(I:Inv X pins σ H s)(hf:∀b∈fp,zeh X pins H b)(ho:∀b∈fp,∃o,s.heap.get? b=eV o/\∀v,o.data≠ .cell v):Inv X (pins++zc2 fp s.heap) σ H s:=
 I.pins_of λp hp=>(AQ.mp hp).elim (λz=>I.pin p (Al _ z)) λz=>by
  have#[hb,e]:=zlv z;have#[f0,f1,f2,_]:=hf p.1 hb;have#[o,e',d]:=ho p.1 hb;rw[e] at e';cases e';show#[e,f0,f1,f2,d]
def Inv.unpinned(I:Inv X (pins++pl) σ H s):Inv X pins σ H s:=I.pins_of λp hp=>I.pin p (Al _ (CW _ hp))
def zrH(hp:PassesOwn (model X.prog X.w) X.A X.env X.xe)(hc:X.calm=hG)(hi:PI X tg iter wi)(hg:PG X tg g)(hb:PSs X body tb)
  (hs:∀x,foldedSetIterable iter X.env x=pure x:=by intro _;rfl):PS X (.For tg iter body [] pos) (ztk wi g tb):=by
 intro pins s σ H D I h;show wpAny_For (thn (hi pins s σ H _ I h) λv s1 h1=>thn h1 λnc s2 h2=> ?_) hs;have#[it,fp,tn,J,H2,e,I2,T,kC,f2,W,#[m0,w0],turn]:=h2;subst e;have stat:∀{H':Hp},(∀b∈fp,H' b=gi)->∀b∈fp,zeh X pins H' b:=λhn b hb=>#[hn b hb,(f2 b hb).2];show codeAny_forLoop_any (λn s'=>∃i σ' H',Inv X pins σ' H' s'/\tn i s'.heap/\(∀b∈fp,H' b=gi)/\W i n σ' H') ?_ m0 #[0,σ,H2,I2,kC,λb hb=>(f2 b hb).1,w0];intro n s3 #[i,σ3,H3,I3,kB,lF,w3];rcases turn i n σ3 H3 w3 with⟨stop,qn⟩|⟨go,N,hN,step⟩
 .show Gx hp (thn (T.done X rfl rfl rfl hc i pins s3 σ3 H3 X.xe I3 (stat lF) kB stop) λr s4 ⟨hr,I4⟩=> ?_);subst hr;show wpAny_execs_nil #[σ3,H3,I4,qn]
 show Gx hp (thn (T.item X rfl rfl rfl hc i pins s3 σ3 H3 X.xe I3 (stat lF) kB go) λr s4 ⟨u,hr,h4⟩=> ?_);subst hr;show Gx hp (thn h4 ?_);intro _ s5 #[x,H5,I5,r5,y5,jw,oQ];have I5':=I5.pinned (stat oQ) (T.obj _ _ jw);show Gx hp (thn (hg _ s5 σ3 H5 x u _ I5' r5 (step x H5 y5)) ?_);intro _ s6 #[σ6,H6,I6,q6];show Gx hp (thn (hb _ s6 σ6 H6 _ I6 q6) λf s7 q7=> ?_);have again:∀{σ7:St} {H7:Hp},Inv X (pins++zc2 fp s5.heap) σ7 H7 s7->N σ7 H7->∃m,m<n/\∃i σ' H',Inv X pins σ' H' s7/\tn i s7.heap/\(∀b∈fp,H' b=gi)/\W i m σ' H':=λ{σ7 H7} I7 n7=>by
  have#[m',hm,w7]:=hN σ7 H7 n7;show#[m',hm,i+1,σ7,H7,I7.unpinned,T.keep _ _ _ jw λb hb o e=>(I7.pin (b,o) (Al _ (Al _ (WX hb e)))).1,λb hb=> ?_,w7];have#[o,e,d]:=T.obj _ _ jw b hb;show(I7.pin (b,o) (Al _ (Al _ (WX hb e)))).2.1
 cases f with
 |next=>have#[σ7,H7,I7,n7]:=q7;show again I7 n7
 |cont=>have#[σ7,H7,I7,n7]:=q7;show again I7 n7
 |brk=>have#[σ7,H7,I7,q7]:=q7;show#[σ7,H7,I7.unpinned,q7]
 |ret v=>have#[x7,σ7,H7,I7,r7,q7]:=q7;show#[x7,σ7,H7,I7.unpinned,r7,q7]
end
abbrev R2:=V->V->Hp->VK->Prop
def OpR(X:Cx)(f:ph->ph->Sem ph)(r:R2):Prop:=
 ∀(pins:kx (p8×Obj)) (s:pA) (σ:St) (H:Hp) (x y:V) (v u:ph) (Q:VK),Inv X pins σ H s->yt x v->yt y u->r x y H Q->
  wpAny (model X.prog X.w) X.A (f v u) (EP X pins σ Q) X.xe s
def UnR(X:Cx)(f:ph->Sem ph)(r:V->Hp->VK->Prop):Prop:=
 ∀(pins:kx (p8×Obj)) (s:pA) (σ:St) (H:Hp) (x:V) (v:ph) (Q:VK),Inv X pins σ H s->yt x v->r x H Q->
  wpAny (model X.prog X.w) X.A (f v) (EP X pins σ Q) X.xe s
def Zt(X:Cx)(f:ph)(r:kx V->Hp->VK->Prop):Prop:=
 ∀(pins:kx (p8×Obj)) (s:pA) (σ:St) (H:Hp) (xs:kx V) (us:kx ph) (Q:VK),Inv X pins σ H s->ym xs us->r xs H Q->
  wpAny (model X.prog X.w) X.A (call f us) (EP X pins σ Q) X.xe s
def tOp(r:R2)(ta tb:TE):TE:=λσ H Q=>ta σ H λx H1=>tb σ H1 λy H2=>r x y H2 Q
def tUn(r:V->Hp->VK->Prop)(ta:TE):TE:=λσ H Q=>ta σ H λx H1=>r x H1 Q
def rI(C:Int->Int->Prop)(g:Int->Int->V):R2:=λx y H Q=>∃i j,x= .int i/\y= .int j/\C i j/\Q (g i j) H
def rI0(g:Int->Int->V):R2:=λx y H Q=>∃i j,x= .int i/\y= .int j/\Q (g i j) H
def rU(g:Int->V):V->Hp->VK->Prop:=λx H Q=>∃i,x= .int i/\Q (g i) H
section
def zrI(ha:PE X a ta)(hb:PE X b tb){R:V->V->Hp->Prop}(I:Inv X pins σ H s)
  (h:ta σ H λx H1=>tb σ H1 λy H2=>R x y H2) {f:ph->ph->Sem ph}
  (hf:∀v u s2 x y H2,Inv X pins σ H2 s2->yt x v->yt y u->R x y H2->wpAny (model X.prog X.w) X.A (f v u) Q X.xe s2):
  wpAny (model X.prog X.w) X.A (eval a X.env) (λv s₁=>wpAny (model X.prog X.w) X.A (eval b X.env) (λu s₂=>wpAny (model X.prog X.w) X.A (f v u) Q X.xe s₂) X.xe s₁) X.xe s:=by
 show thn (ha pins s σ H _ I h) ?_;intro v s1 #[x,H1,I1,r1,q1];show thn (hb pins s1 σ H1 _ I1 q1) ?_;intro u s2 #[y,H2,I2,r2,q2];show hf v u s2 x y H2 I2 r1 r2 q2
def zP(ho:OpR X (GA op) r)(ha:PE X a ta)(hb:PE X b tb):PE X (.BinOp a op b pos) (tOp r ta tb):=by
 intro pins s σ H Q I h;show wpAny_BinOp (zrI ha hb I h λv u s2 x y H2 I2 rx ry q=>ho pins s2 σ H2 x y v u Q I2 rx ry q)
def ztl{r:V->Hp->VK->Prop}(ho:UnR X (unaryOp op) r)(ha:PE X a ta):PE X (.UnaryOp op a pos) (tUn r ta):=by
 intro pins s σ H Q I h;show UnaryOp_ (thn (ha pins s σ H _ I h) ?_);intro v s1 #[x,H1,I1,r1,q1];show ho pins s1 σ H1 x v Q I1 r1 q1
def opI{f:ph->ph->Sem ph}{C:Int->Int->Prop}{g:Int->Int->Int}
  (rule:∀(i j:Int) (t u:Tok) (s:pA) (Q:ph->pA->Prop) (E:ph->pA->Prop),C i j->Q (.int (g i j) s.toks) {s with toks:=s.toks+1}->wpAny (model X.prog X.w) X.A (f (.int i t) (.int j u)) Q E s):
  OpR X f (rI C λi j=> .int (g i j)):=by
 intro pins s σ H x y v u Q I rx ry h;have#[i,j,rfl,rfl,hc,q]:=h;have#[t,rfl]:=rx;have#[t',rfl]:=ry;show rule i j t t' s _ _ hc #[.int (g i j),H,I.tok _,#[_,rfl],q]
def ztm{f:ph->ph->Sem ph}{g:Int->Int->Int}
  (rule:∀(i j:Int) (t u:Tok) (s:pA) (Q:ph->pA->Prop) (E:ph->pA->Prop),Q (.int (g i j) s.toks) {s with toks:=s.toks+1}->wpAny (model X.prog X.w) X.A (f (.int i t) (.int j u)) Q E s):
  OpR X f (rI0 λi j=> .int (g i j)):=by
 intro pins s σ H x y v u Q I rx ry h;have#[i,j,rfl,rfl,q]:=h;have#[t,rfl]:=rx;have#[t',rfl]:=ry;show rule i j t t' s _ _ #[.int (g i j),H,I.tok _,#[_,rfl],q]
def zrJ(i j:Int):Prop:=0<j/\j<1073741824
def zrK(i j:Int):Prop:=0<=j/\j<=1000000/\i.natAbs<2^64
def zmD(i j:Int):Prop:=(-(2^64)<i/\i<2^64)\/(-(2^64)<j/\j<2^64)
def zmD.ok(h:zmD i j):IntMulOk i j:=by
 rcases h with⟨h1,h2⟩|⟨h1,h2⟩
 .show .of_left (intBits_le_64 h1 h2)
 show .of_right (intBits_le_64 h1 h2)
def xy:OpR X (GA .Add) (rI0 λi j=> .int (i+j)):=ztm λ_ _ _ _ _ _ _ q=>add_int q
def zc3:OpR X (GA .Sub) (rI0 λi j=> .int (i-j)):=ztm λ_ _ _ _ _ _ _ q=>sub_int q
def zrL:OpR X (GA .Mult) (rI zmD λi j=> .int (i*j)):=opI λ_ _ _ _ _ _ _ hc q=>mul_int q hc.ok
def zfK:OpR X (GA .FloorDiv) (rI zrJ λi j=> .int (i / j)):=opI λi j _ _ _ _ _ hc q=>by
 have h1:(0:Int)<j:=hc.1;have h2:j<1073741824:=hc.2;show floordiv_int ⋯ (by rw[AK i ⋯];show q) (.inl (PyProof.noPylong_small ⋯))
def vO:OpR X (GA .Mod) (rI (λ_ j=>0<j) λi j=> .int (i % j)):=opI λi j _ _ _ _ _ hc q=>by
 have h1:(0:Int)<j:=hc;show mod_int' ⋯ (by rw[Int.fmod_eq_emod_of_nonneg i ⋯];show q)
def zmE:OpR X (GA .Pow) (rI zrK λi j=> .int (i^j.toNat)):=opI λ_ _ _ _ _ _ _ hc q=>pow_int_small hc.1 hc.2.1 hc.2.2 q
def unI{f:ph->Sem ph}{g:Int->Int}
  (rule:∀(i:Int) (t:Tok) (s:pA) (Q:ph->pA->Prop) (E:ph->pA->Prop),Q (.int (g i) s.toks) {s with toks:=s.toks+1}->wpAny (model X.prog X.w) X.A (f (.int i t)) Q E s):
  UnR X f (rU λi=> .int (g i)):=by
 intro pins s σ H x v Q I rx h;have#[i,rfl,q]:=h;have#[t,rfl]:=rx;show rule i t s _ _ #[.int (g i),H,I.tok _,#[_,rfl],q]
def zrM:UnR X (unaryOp .USub) (rU λi=> .int (-i)):=unI λ_ _ _ _ _ q=>neg_int q
end
noncomputable def zuO:V->V->Bool
 | .non,.non=>hG| .non,.int _=>hG| .int _,.non=>hG| .non,.bl _=>hG| .bl _,.non=>hG| .non,.str _=>hG| .str _,.non=>hG
 | .int _,.int _=>hG| .bl _,.bl _=>hG| .str _,.str _=>hG| .byt _,.byt _=>hG
 | .int _,.str _=>hG| .str _,.int _=>hG| .bl _,.str _=>hG| .str _,.bl _=>hG
 |_,_=>mK
def rEq:R2:=λx y H Q=>zuO x y=hG/\Q (.bl (decide (x=y))) H
def zpm:decide (V.int i=V.int j)=(i==j):=by
 rw[AV];simp
def zrN:decide (V.bl i=V.bl j)=(i==j):=by
 rw[AV];simp
def zpn:decide (V.str i=V.str j)=(i==j):=by
 rw[AV];simp
def zpo:decide (V.byt i=V.byt j)=(i.toList==j.toList):=by
 rw[AV];cases i;cases j;simp
section
def vP{Q:VK}(I:Inv X pins σ H s)(q:Q (.bl k) H)(e:k=k'):EP X pins σ Q (.bool k') s:=by
 subst e;show#[.bl k,H,I,rfl,q]
def yC:OpR X (compareOp .Eq) rEq:=by
 intro pins s σ H x y v u Q I rx ry h;have#[hs,q]:=h;cases x with
 |non=>
  cases rx;cases y with
  |non=>cases ry;show PySem.EqNone.eq_none_none (vP I q (by simp))
  |bl j=>cases ry;show PySem.EqNone.eq_none_bool (vP I q (by simp))
  |int j=>have#[t',rfl]:=ry;show PySem.EqNone.eq_none_int (vP I q (by simp))
  |str j=>have#[t',rfl]:=ry;show PySem.EqNone.eq_none_str (vP I q (by simp))
  |_=>show absurd (show mK=hG from hs) A6
 |bl i=>
  cases rx;cases y with
  |non=>cases ry;show PySem.EqNone.eq_bool_none (vP I q (by simp))
  |bl j=>cases ry;show eq_bool (vP I q zrN)
  |str j=>have#[t',rfl]:=ry;show FG (vP I q (by simp))
  |_=>show absurd (show mK=hG from hs) A6
 |int i=>
  have#[t,rfl]:=rx;cases y with
  |non=>cases ry;show PySem.EqNone.eq_int_none (vP I q (by simp))
  |int j=>have#[t',rfl]:=ry;show eq_int (vP I q zpm)
  |str j=>have#[t',rfl]:=ry;show FJ (vP I q (by simp))
  |_=>show absurd (show mK=hG from hs) A6
 |str i=>
  have#[t,rfl]:=rx;cases y with
  |non=>cases ry;show PySem.EqNone.eq_str_none (vP I q (by simp))
  |bl j=>cases ry;show FH (vP I q (by simp))
  |int j=>have#[t',rfl]:=ry;show FK (vP I q (by simp))
  |str j=>have#[t',rfl]:=ry;show eq_str (vP I q zpn)
  |_=>show absurd (show mK=hG from hs) A6
 |byt i=>
  have#[t,rfl]:=rx;cases y with
  |byt j=>have#[t',rfl]:=ry;show PySem.W.eq_bytes (vP I q zpo)
  |_=>show absurd (show mK=hG from hs) A6
 |_=>cases y<;>show absurd (show mK=hG from hs) A6
def zcU(ho:OpR X (compareOp op) r)(ha:PE X a ta)(hb:PE X b tb)(hm:behindInMarks op b=mK):PE X (.Compare a [op] [b] pos) (tOp r ta tb):=by
 intro pins s σ H Q I h;show wpAny_Compare1 (zrI ha hb I h λv u s2 x y H2 I2 rx ry q=>ho pins s2 σ H2 x y v u Q I2 rx ry q) hm
def zq1(t:TE):TT:=λσ H Q=>t σ H λx H'=>∃k,x= .bl k/\Q k H'
def zV(ho:OpR X (compareOp op) r)(ha:PE X a ta)(hb:PE X b tb)(hm:behindInMarks op b=mK):PT X (.Compare a [op] [b] pos) (zq1 (tOp r ta tb)):=by
 intro pins s σ H Q I h
 show wpAny_isTrue_Compare1 (thn (ha pins s σ H _ I h) λv s1 ⟨x,H1,I1,r1,q1⟩=>thn (hb pins s1 σ H1 _ I1 q1) λu s2 ⟨y,H2,I2,r2,q2⟩=>
  thn (ho pins s2 σ H2 x y v u _ I2 r1 r2 q2) λc s3 ⟨z,H3,I3,r3,k,e,q3⟩=> ?_) hm
 subst e;cases r3;show Gv #[H3,I3,q3]
def Ug:(FU:Nat)<2^63:=by rw[sizeLine_eq];decide
def zaf:OpR X (GA .Add) (λx y H Q=>∃i j,x= .str i/\y= .str j/\i.length+j.length<=FU/\Q (.str (i++j)) H):=by
 intro pins s σ H x y v u Q I rx ry h;have#[i,j,rfl,rfl,hz,q]:=h;have#[t,rfl]:=rx;have#[t',rfl]:=ry;show add_str (λt' tk=>#[.str (i++j),H,I.tok _,#[_,rfl],q]) hz
def Uh(r:ym [x] us):∃u,us=[u]/\yt x u:=by
 cases r with
 |cons r1 r2=>cases r2;show#[_,rfl,r1]
def zkn(r:ym [x,y] us):∃u w',us=[u,w']/\yt x u/\yt y w':=by
 cases r with
 |cons r1 r2=>
  cases r2 with
  |cons r3 r4=>cases r4;show#[_,_,rfl,r1,r3]
def zc4:Zt X (.builtin "abs") (λxs H Q=>∃i,xs=[.int i]/\Q (.int (if i<0 then -i else i)) H):=by
 intro pins s σ H xs us Q I r h;have#[i,rfl,q]:=h;have#[u,rfl,t,rfl]:=Uh r;show call_abs_int λu tk=>#[.int (if i<0 then -i else i),H,I.tok _,#[_,rfl],q]
def zbA(hc:X.calm=hG):Zt X (.builtin "max") (λxs H Q=>∃i j,xs=[.int i,.int j]/\Q (.int (if j>i then j else i)) H):=by
 intro pins s σ H xs us Q I r h;have#[i,j,rfl,q]:=h;have#[u,w',rfl,#[t,rfl],#[t',rfl]]:=zkn r;show max_two_ints (I.ok.hd hc) λh' tk k=>#[_,H,I.kept k,?_,q];by_cases hj:j>i;rw[GO hj,GO hj];show#[_,rfl];rw[GP hj,GP hj];show#[_,rfl]
def zlw(hc:X.calm=hG):Zt X (.builtin "min") (λxs H Q=>∃i j,xs=[.int i,.int j]/\Q (.int (if j<i then j else i)) H):=by
 intro pins s σ H xs us Q I r h;have#[i,j,rfl,q]:=h;have#[u,w',rfl,#[t,rfl],#[t',rfl]]:=zkn r;show min_two_ints (I.ok.hd hc) λh' tk k=>#[_,H,I.kept k,?_,q];by_cases hj:j<i;rw[GO hj,GO hj];show#[_,rfl];rw[GP hj,GP hj];show#[_,rfl]
end
structure ziW(h:Heap)(x dx C:p8)(mA:Str->pf ph):Prop where
 obj:h.get? x=eV (Bk C dx)
 ns:h.Ns1 dx mA
 ne:dx≠x
set_option tactic.hygienic true in
def zlx{h:Heap}{dx:p8}{mA:Str->pf ph}(n:h.Ns1 dx mA):∃od,h.get? dx=eV od/\∀name,Df name od=eV (mA name):=by
 have#[o,es,ep,ho,hd,hk,_,hm]:=n;show#[o,ho,λname=> ?_];have e:=hm name;unfold nsFind findBy at e;rw[<-Array.find?_toList] at e;unfold Df;rw[hd];dsimp only;split;rename_i y q;rw[q] at e;show congrArg eV e
 rename_i q;rw[q] at e;have a:es.toList.any (·.refKey)=mK:=by
  rw[F0];intro y hy;have#[z,t,og]:=hk y (Array.mem_toList_iff.mp hy);simp[DictEntry.refKey,og]
 have a':¬es.toList.any (·.refKey)=hG:=by rw[a];show A6
 rw[GP a'];show congrArg eV e
def ziW.look{mA:Str->pf ph}(I:ziW h x dx C mA):∃od,Dg h x (Bk C dx) C (eV od)/\∀name,Df name od=eV (mA name):=
 let ⟨od,ho,hl⟩:=zlx I.ns
 #[od,#[I.obj,rfl,rfl,ho],hl]
section
variable{mA:Str->pf ph}
def zpp(X:K.In s.heap)(I:ziW s.heap x dx C mA)(hg:Ca K C name=hG)(hh:CF K C=hG)
  (ha:z3 K (.ref C) name=eV gi) (hv:mA name=eV v) (rO:F8 v=hG) (h:Q v {s with toks:=s.toks+1}):
  wpAny (model prog w) A (getAttr (.ref x) name expr) Q E s:=by
 have#[od,J,hl]:=I.look;show PySem.W.get_value X J (D9 hg).1 (PySem.W.findObj_own hh ha rfl (by rw[hl,hv])) rO h
def zmF{Q:ph×kx ph->pA->Prop}(X:K.In s.heap)(I:ziW s.heap x dx C mA)(hg:Ca K C name=hG)
  (hf:z3 K (.ref C) name=eV (eV (.ref f))) (ht:D1 K (.ref f)=hG) (hv:mA name=gi) (h:Q (.ref f,[.ref x]) s):
  wpAny (model prog w) A (getMethod (.ref x) name pl) Q E s:=by
 have#[od,J,hl]:=I.look;show PySem.W.method_fn X J (D9 hg).1 (D9 hg).2 hf (beq_iff_eq.mp ht) (by change(Df name od).map (·.isSome)=eV mK;rw[hl,hv];rfl) h
def zpq{Q:Unit->pA->Prop}(X:K.In s.heap)(I:ziW s.heap x dx C mA)
  (hs:z3 K (.ref C) "__setattr__"=eV (eV (.builtin "object.__setattr__"))) (hp:Du K C=hG) (ht:DR K C name=eV gi) (hh:CF K C=hG)
  (hw:EG mA ns) (hsz:ns.length<=FU)
  (h:∀h',ziW h' x dx C (λy=>if y=name then eV v else mA y)->Heap.SameBut dx s.heap h'->Q () {s with heap:=h',toks:=s.toks+2}):
  wpAny (model prog w) A (setAttr (.ref x) name v) Q E s:=by
 have#[od,J,hl]:=I.look;show PySem.W.set_plain X J hs (PySem.W.osa_open (s:={s with toks:=s.toks+1}) (r:=gi) X J hp ht λb=> ?_);have#[cd,hc,gX]:=PySem.W.any_some hh;have hx:s.heap.get? x=eV #[.ref C,eV dx,.plain,[].toArray]:=I.obj;show qR (uh (qR (qR (wpAny_loadPart hx (qR (FT (s:={s with toks:=s.toks+1}) (PySem.W.looks_clsIn X hc) ?_))))));rw[gX];show uh (a:=eV dx) (qR (uh (qR ?_)));show wpAny_nsSet1 (s:={s with toks:=s.toks+1}) I.ns λh' eY ib=> ?_;have#[oD,uQ,uR,sr,sT,sW]:=eY.count (PySem.Within.cons name v hw);show qR (wpAny_lookBehind sr (by rw[sT];show pastItsLine_dict (v7 sW (by rw[y4];omega))) ?_);show uh (h _ #[(ib.2 _ (AX I.ne)).trans I.obj,eY,I.ne] ib)
def zmG{R:Result->pA->Prop}(X:K.In s.heap)(hm:DS K C=hG)
  (hi:z3 K (.ref C) "__init__"=eV (eV (.ref f))) (hf:BO K (.ref f)=eV (.type "function"))
  (h:GL (model prog w) (A.under (.builtin "type.__call__" #[.ref C::vs,kw])) (.call (.ref f) #[.ref (#v[s]+1)::vs,kw]) (PySem.W.InitBack (#v[s]+1) R)
   {s with heap:=(s.heap.push B8).push (Bk C #v[s])}):
  GL (model prog w) A (.call (.ref C) #[vs,kw]) R s:=by
 have#[hh,g,d,t,os]:=s;show PySem.W.make_core (PySem.W.makes_of X hm) (D4 X hi) (λself=>PySem.W.bind_fn X self hf) (.inl rfl) h
end
noncomputable def WY(f:Str)(v:V):kx (Str×V)->kx (Str×V)
 |[]=>[(f,v)]
 |(g,x)::r=>if g=f then (g,v)::r else (g,x)::WY f v r
theorem zb6(f g:Str)(v:V):∀fs:kx (Str×V),(WY f v fs).lookup g=if g=f then eV v else fs.lookup g
 |[]=>by
  change Bz g [(f,v)]=_;by_cases h:g=f;have hb:(g==f)=hG:=beq_iff_eq.mpr h;simp only[Bz,hb,GO h];have hb:(g==f)=mK:=beq_eq_false_iff_ne.mpr h;simp only[Bz,hb,GP h]
 |(k,x)::r=>by
  have ih:=zb6 f g v r;rw[show WY f v ((k,x)::r)=(if k=f then (k,v)::r else (k,x)::WY f v r) from rfl];by_cases hk:k=f;rw[GO hk];by_cases h:g=k;have hb:(g==k)=hG:=beq_iff_eq.mpr h;simp only[Bz,hb,GO (h.trans hk)];have hb:(g==k)=mK:=beq_eq_false_iff_ne.mpr h;simp only[Bz,hb,GP (λe:g=f=>h (e.trans hk.symm))];rw[GP hk];by_cases h:g=k;have hb:(g==k)=hG:=beq_iff_eq.mpr h;simp only[Bz,hb,GP (λe:g=f=>hk (h.symm.trans e))];have hb:(g==k)=mK:=beq_eq_false_iff_ne.mpr h;simp only[Bz,hb];show ih
theorem zbB(f:Str)(v:V):∀fs:kx (Str×V),f∈(WY f v fs).map (·.1)/\∀g,g∈fs.map (·.1)->g∈(WY f v fs).map (·.1)
 |[]=>#[by simp[WY],λg h=>by simp at h]
 |(k,x)::r=>by
  have#[i1,i2]:=zbB f v r;rw[show WY f v ((k,x)::r)=(if k=f then (k,v)::r else (k,x)::WY f v r) from rfl];by_cases hk:k=f;rw[GO hk];subst hk;show#[by simp,λg h=>by simpa using h];rw[GP hk];show#[?_,λg h=> ?_];rw[y8];show w6 _ i1;rw[y8] at h ⊢;rcases x8.mp h with e|e;show x8.mpr (.inl e);show w6 _ (i2 g e)
theorem zb7(f:Str)(v:V):∀fs:kx (Str×V),(WY f v fs).length<=fs.length+1
 |[]=>by simp[WY]
 |(k,x)::r=>by
  have ih:=zb7 f v r;rw[show WY f v ((k,x)::r)=(if k=f then (k,v)::r else (k,x)::WY f v r) from rfl];by_cases hk:k=f;rw[GO hk,y4,y4];omega;rw[GP hk,y4,y4];omega
def WW.some_of(r:WW (eV v) o):∃u,o=eV u/\yt v u:=by
 cases o with
 |none=>show(show False from r).elim
 |some u=>show#[u,rfl,r]
def WW.none_of(r:WW gi o):o=gi:=by
 cases o with
 |none=>rfl
 |some u=>show(show False from r).elim
def zly(r:yt v u):F8 u=hG:=by
 cases v with
 |non=>cases (show u=Value.none from r);rfl
 |bl b=>cases (show u=Value.bool b from r);rfl
 |int i=>have#[t,e]:=(show ∃t,u=Value.int i t from r);cases e;rfl
 |str x=>have#[t,e]:=(show ∃t,u=Value.str x t from r);cases e;rfl
 |byt b=>have#[t,e]:=(show ∃t,u=Value.bytes b t from r);cases e;rfl
 |flt b=>have#[t,e]:=(show ∃t,u=Value.float b t from r);cases e;rfl
 |ref a=>cases (show u=Value.ref a from r);rfl
 |ty n=>cases (show u=Value.type n from r);rfl
section
variable{P:Program}
def zcV(hok:HOk P w H h)(e:H a=eV (.ins C dx fs)):∃mA,ziW h a dx C mA/\(∀f,WW (fs.lookup f) (mA f))/\EG mA (fs.map (·.1))/\fs.length<=1000/\H dx=eV (.own a):=by
 have#[d,z,ne,ob,mA,n,r,q]:=(show xb P w H h a (.ins C dx fs) from hok a _ e);show#[mA,#[ob,n,ne],r,q,z,d]
end
structure Cls(K:uU)(C:p8):Prop where
 pg:Ca K C Str.empty=hG
 hd:CF K C=hG
 po:Du K C=hG
 sa:z3 K (.ref C) "__setattr__"=eV (eV (.builtin "object.__setattr__"))
def Cls.get(c:Cls K C)(f:Str):Ca K C f=hG:=c.pg
def YQ(K:uU)(C:p8)(f:Str):Prop:=z3 K (.ref C) f=eV gi
def YQ.taker(n:YQ K C f):DR K C f=eV gi:=by
 unfold DR;rw[show z3 K (.ref C) f=eV gi from n];rfl
structure zrO(K:uU)(C:p8)(m:Str)(f:p8):Prop where
 at_:z3 K (.ref C) m=eV (eV (.ref f))
 fn:D1 K (.ref f)=hG
 kp:Bt K (.ref f)=hG
section
def ziX(I:Inv X pins σ H s)(e:H a=eV (.ins C dx fs))(c:Cls X.K C)(n:YQ X.K C f)(l:fs.lookup f=eV v)
  (h:∀u s',Inv X pins σ H s'->yt v u->Q u s'):wpAny (model X.prog X.w) A (getAttr (.ref a) f b) Q E s:=by
 have#[mA,O,r,_,_,_]:=zcV I.hok e;have#[u,hu,ru]:=WW.some_of (v:=v) (o:=mA f) (by rw[<-l];show r f);show zpp I.kIn O (c.get f) c.hd n hu (zly ru) (h u _ (I.tok _) ru)
def ziY{Q:ph×kx ph->pA->Prop}(I:Inv X pins σ H s)(e:H a=eV (.ins C dx fs))(c:Cls X.K C)(k:zrO X.K C m g)(l:fs.lookup m=gi)
  (h:Q (.ref g,[.ref a]) s):wpAny (model X.prog X.w) A (getMethod (.ref a) m pl) Q E s:=by
 have#[mA,O,r,_,_,_]:=zcV I.hok e;have hn:mA m=gi:=WW.none_of (by rw[<-l];show r m);show zmF I.kIn O (c.get m) k.at_ k.fn hn h
def ziZ{Q:Unit->pA->Prop}(I:Inv X pins σ H s)(e:H a=eV (.ins C dx fs))(c:Cls X.K C)(n:YQ X.K C f)(hl:fs.length<1000)(ry:yt y u)
  (h:∀s',Inv X pins σ (upd H a (.ins C dx (WY f y fs))) s'->Q () s'):wpAny (model X.prog X.w) A (setAttr (.ref a) f u) Q E s:=by
 have#[mA,O,r,wi,_,ho]:=zcV I.hok e;have hz:(fs.map (·.1)).length<=FU:=by rw[uZ,sizeLine_eq];omega
 show zpq I.kIn O c.sa c.po n.taker c.hd wi hz λh' O' sb=>h _ ?_;have hd:∃o,h'.get? dx=eV o:=let ⟨o,_,_,e',_⟩:=O'.ns;#[o,e'];show I.write (x:=a) (e:=dx) (by rw[e];show AY) (.inr ho) (λb q hb z=>(sb.2 b hb).trans z) hd ?_;show#[by rw[zS O.ne];show ho,?_,O.ne,O'.obj,_,O'.ns,λg=> ?_,λg hg=> ?_];have:=zb7 f y fs;omega;change WW ((WY f y fs).lookup g) (if g=f then eV u else mA g);rw[zb6];by_cases q:g=f;rw[GO q,GO q];show ry;rw[GP q,GP q];show r g;by_cases q:g=f;rw[q];show(zbB f y fs).1;show (zbB f y fs).2 g (wi g λz=>hg ?_);change(if g=f then eV u else mA g)=gi;rw[GP q];show z
def Inv.made(I:Inv X pins σ H s):Inv X pins σ (upd (upd H #v[s] (.own (#v[s]+1))) (#v[s]+1) (.ins C #v[s] []))
  {s with heap:=(s.heap.push B8).push (Bk C #v[s])}:=by
 have e1:(s.heap.push B8).get? #v[s]=eV B8:=Heap.get?_push_size s.heap rfl;have e2:((s.heap.push B8).push (Bk C #v[s])).get? (#v[s]+1)=eV (Bk C #v[s]):=by
  have:=Heap.get?_push_size (s.heap.push B8) (o:=Bk C #v[s]) rfl;rwa [Heap.size_push] at this
 have e3:(s.heap.push B8).Ns #v[s] (λ_=>gi):=#[B8,[].toArray,_,e1,rfl,(λe he=>absurd he (by simp)),λ_=>rfl];have I1:=I.laid (a:=#v[s]) (o:= .own (#v[s]+1)) (h':=s.heap.push B8) (t':=s.toks) (λb u q=>Heap.get?_push_of_some _ q) (v3 _) #[_,e1];show I1.laid (a:=#v[s]+1) (o:= .ins C #v[s] []) (t':=s.toks) (λb u q=>Heap.get?_push_of_some _ q) (Be (Heap.size_push _ _)) ?_;have ne:#v[s]≠#v[s]+1:=z8 (AZ _);show#[by rw[zS ne,zW],BK _,ne,e2,λ_=>gi,(Heap.Ns1.of_empty e3).at λo q=>Heap.get?_push_of_some _ q,λ_=>AY,λy hy=>absurd rfl hy]
def zpr(hb:GI e f env (eval e env)=eval e env)
  (h:wpAny (model prog w) A (eval e env) (λo s₁=>wpAny (model prog w) A (getAttr o f hG) Q E s₁) E s):wpAny (model prog w) A (eval (.Attribute e f pos) env) Q E s:=
 Attribute_any_ h (by rw[arm_eval_Attribute,hb])
end
def ztn(K:uU)(ta:TE)(f:Str):TE:=λσ H Q=>ta σ H λx H1=>∃a C dx fs v,x= .ref a/\H1 a=eV (.ins C dx fs)/\Cls K C/\YQ K C f/\fs.lookup f=eV v/\Q v H1
def zto(K:uU)(ta tv:TE)(f:Str):TS:=λD σ H=>tv σ H λy H1=>ta σ H1 λx H2=>∃a C dx fs,x= .ref a/\H2 a=eV (.ins C dx fs)/\Cls K C/\YQ K C f/\fs.length<1000/\
 D.nx σ (upd H2 a (.ins C dx (WY f y fs)))
section
def xK(he:PE X e ta)(hb:GI e f X.env (eval e X.env)=eval e X.env):PE X (.Attribute e f pos) (ztn X.K ta f):=by
 intro pins s σ H Q I h;show zpr hb (thn (he pins s σ H _ I h) ?_);intro u s1 #[x,H1,I1,rx,a,C,dx,fs,v,ex,ea,c,n,l,q];subst ex;obtain rfl:u=Value.ref a:=rx;show ziX I1 ea c n l λu' s2 I2 ru=>#[v,H1,I2,ru,q]
def zi0(ha:PE X o ta)(hv:PE X value tv)(hs:swapsWith value (eV (.Attribute o f pos')) pos.line X.env=pure mK):PS X (.Assign [.Attribute o f pos'] value pos) (zto X.K ta tv f):=by
 intro pins s σ H D I h;show plainObj_wpAny_Assign_Attribute (thn (hv pins s σ H _ I h) ?_) hs;intro u s1 #[y,H1,I1,ry,q];show thn (ha pins s1 σ H1 _ I1 q) ?_;intro ov s2 #[x,H2,I2,rx,a,C,dx,fs,ex,ea,c,n,l,q2];subst ex;obtain rfl:ov=Value.ref a:=rx;show ziZ I2 ea c n l ry λs3 I3=>#[σ,_,I3,q2]
end
section
variable{c:ph}{b:Bool}
inductive zcz(K:uU)(H:Hp):V->Value->Prop where
 |non:zcz K H .non (.type "NoneType")
 |bl (x:Bool):zcz K H (.bl x) (.type "bool")
 |int (i:Int):zcz K H (.int i) (.type "int")
 |str (x:Str):zcz K H (.str x) (.type "str")
 |flt (x:UInt64):zcz K H (.flt x) (.type "float")
 |lst {a:Addr} {xs:List V} (e:H a=eV (.lst xs)):zcz K H (.ref a) (.type "list")
 |frz {a:Addr} {o:Obj} {xs:List V} (e:H a=eV (.frz o (.lst xs))):zcz K H (.ref a) (.type "list")
 |tup {a:Addr} {xs:List V} (e:H a=eV (.tup xs)):zcz K H (.ref a) (.type "tuple")
 |dK {a:Addr} {af:List (Key×V)} (e:H a=eV (.dK af)):zcz K H (.ref a) (.type "dict")
 |dT {a:Addr} {af:List (List Key×V)} (e:H a=eV (.dT af)):zcz K H (.ref a) (.type "dict")
 |ins {a C dx:Addr} {fs:List (Str×V)} (e:H a=eV (.ins C dx fs)) (cl:Cls K C) (ha:z3 K (.ref C) "__class__"=eV (eV (.builtin "object.__class__")))
   (hn:CG K (.builtin "object.__class__") "__get__"=eV (eV (.builtin "getset_descriptor.__get__"))) (htk:DT K (.builtin "object.__class__")=eV hG)
   (hm:Ah K C (.type "object")=eV hG):zcz K H (.ref a) (.ref C)
end
structure wC(k:Nat)(A:Around):Prop where
 hd:A.handled=gi
 dp:A.depth+3*k+5<recursionLimit
 un:A.units+16*k+200<cLine
 gd:A.guards=eV []
def wC.mono(r:wC k A)(h:j<=k):wC j A:=#[r.hd,by have:=r.dp;omega,by have:=r.un;omega,r.gd]
def wC.deeper(r:wC (k+1) A)(env:Env):wC k (A.deeper env):=
 #[r.hd,by have:=r.dp;change A.depth+1+3*k+5<_;omega,by have:=r.un;change A.units+3+16*k+200<_;omega,r.gd]
def zi1:(A.under (.builtin "type.__call__" #[.ref C::us,kw])).depth=A.depth+1:=by
 first|rfl|simp[Around.under,Code.weight,Code.isCreation,Code.isGuard,Code.isCaller,Code.frames,Code.isFrame,guardIds]
def zi2:(A.under (.builtin "type.__call__" #[.ref C::us,kw])).units=A.units+1:=by
 first|rfl|simp[Around.under,Code.cUnits,Code.frames,Code.isFrame]
def wC.make(r:wC (k+1) A)(C:p8)(us:kx ph)(kw:kx (Str×ph)):wC k (A.under (.builtin "type.__call__" #[.ref C::us,kw])):=
 #[r.hd,by have:=r.dp;rw[zi1];omega,by have:=r.un;rw[zi2];omega,r.gd]
def wC.depth(r:wC k A):A.depth<recursionLimit:=by have:=r.dp;omega
def wC.units(r:wC k A):A.units+64<cLine:=by have:=r.un;omega
def zlz:TA:=λ_ H Q=>Q [] H
def zb8(ta:TE)(tr:TA):TA:=λσ H Q=>ta σ H λx H1=>tr σ H1 λxs H2=>Q (x::xs) H2
section
variable{e:Expr}{es:kx Expr}{te:TE}{t:TA}{pos:Pos}
def zj:PA X [] zlz:=λ_ _ _ _ H Q I h=>Calls.spliced_nil #[[],H,I,.nil,h]
def zQ(ha:PE X e te)(hr:PA X es t)(hs:FW (e::es) X.env=(mK,eval e X.env)::FW es X.env:=by rfl):PA X (e::es) (zb8 te t):=by
 intro pos pins s σ H Q I h;rw[hs];change wpAny _ _ (spliced ((mK,eval e X.env)::backTo pos (FW es X.env))) _ _ s;show Calls.spliced_cons (thn (ha pins s σ H _ I h) ?_);intro u s1 #[x,H1,I1,r1,q1];show thn (hr pos pins s1 σ H1 _ I1 q1) ?_;intro us s2 #[xs,H2,I2,r2,q2];show#[x::xs,H2,I2,.cons r1 r2,q2]
def ztp(t:TA):TE:=λσ H Q=>t σ H λxs H1=>xs.length<=FU/\∀p,H1 p=gi->Q (.ref p) (upd H1 p (.tup xs))
def ztq(t:TA):TE:=λσ H Q=>t σ H λxs H1=>xs.length<=FU/\∀p,H1 p=gi->Q (.ref p) (upd H1 p (.lst xs))
def zrP{x1}(h:PA X es t):PE X (.Tuple es x1 pos) (ztp t):=by
 intro pins s σ H Q I hq;show wpAny_Tuple_spliced (thn (h pos pins s σ H _ I hq) λus s1 ⟨xs,H1,I1,r,z,q⟩=>#[by rw[<-r.length];show z,?_]);have hf:H1 #v[s1]=gi:=I1.hok.fresh (v3 _);show#[.ref #v[s1],upd H1 #v[s1] (.tup xs),I1.laid (t':=s1.toks) (λb u e=>Heap.get?_push_of_some _ e) (v3 _) ?_,rfl,q _ hf];show#[z,us,r,#[_,Heap.get?_push_size _ rfl,rfl,_,rfl,rfl]]
def YR(h:PA X es t):PE X (.List es pos) (ztq t):=by
 intro pins s σ H Q I hq;show wpAny_List_spliced (thn (h pos pins s σ H _ I hq) λus s1 ⟨xs,H1,I1,r,z,q⟩=>#[by rw[<-r.length];show z,?_]);have hf:H1 #v[s1]=gi:=I1.hok.fresh (v3 _);show#[.ref #v[s1],upd H1 #v[s1] (.lst xs),I1.laid (t':=s1.toks) (λb u e=>Heap.get?_push_of_some _ e) (v3 _) ?_,rfl,q _ hf];show#[z,us,0,r,Heap.get?_push_size _ rfl]
end
abbrev Sp:=kx V->Hp->VK->XK->Prop
abbrev CXT:=kx Env->Hp->pA->XK->ph->pA->Prop
structure zei(P:Program)(w:World)(K:uU)(mg:Str->pf ph)(base:Heap)(A:Around)(outer:kx Env)(s:pA)(H:Hp):Prop where
 frames:A.frames=eV outer
 mod:Mod P K mg base
 bs:∀b o,base.get? b=eV o->s.heap.get? b=eV o/\H b=gi
 bsz:base.objs.size<=#v[s]
 funs:s.heap.FunFrames base outer
 frf:∀b∈frs outer,H b=gi
 hok:HOk P w H s.heap
 bare:AllBare s.gens
def CE(outer:kx Env)(P:Program)(w:World)(H:Hp)(s:pA)(Q:VK)(u:ph)(s':pA):Prop:=
 ∃v H',s'.os=s.os/\AllBare s'.gens/\Un (frs outer) [] H H' s.heap s'.heap/\HOk P w H' s'.heap/\yt v u/\Q v H'
def CR(CX:CXT)(outer:kx Env)(P:Program)(w:World)(H:Hp)(s:pA)(Q:VK)(E:XK)(r:Result)(s':pA):Prop:=
 match r with
 | .ok (.ret u)=>CE outer P w H s Q u s'
 | .ok _=>False
 | .error e=>CX outer H s E e s'
structure YB(P:Program)(w:World)(K:uU)(mg:Str->pf ph)(base:Heap)(CX:CXT)(k:Nat)(f:p8)(fd:Gn)(ps:kx Str)(sp:Sp):Prop where
 len:∀vs H Q E,sp vs H Q E->vs.length=ps.length
 run:∀(A:Around) (outer:kx Env) (s:pA) (H:Hp) (args:Args) (us:kx ph) (vs:kx V) (Q:VK) (E:XK),wC k A->zei P w K mg base A outer s H->BindsTo s fd args (ps.zip us)->ym vs us->sp vs H Q E->
  GL (model P w) A (.call (.ref f) args) (CR CX outer P w H s Q E) s
def YB.imp{P:Program}{mg:Str->pf ph}(F:YB P w K mg base CX k f fd ps sp)
  (h:∀vs H Q E,sp' vs H Q E->sp vs H Q E):YB P w K mg base CX k f fd ps sp':=
 #[λvs H Q E q=>F.len vs H Q E (h _ _ _ _ q),λA outer s H args us vs Q E hr he hb hv hs=>F.run A outer s H args us vs Q E hr he hb hv (h _ _ _ _ hs)]
def zei.make{P:Program}{mg:Str->pf ph}(e:zei P w K mg base A outer s H)(C:p8)(us:kx ph)(kw:kx (Str×ph)):
  zei P w K mg base (A.under (.builtin "type.__call__" #[.ref C::us,kw])) outer s H:=#[by first|exact e.frames|(simpa [Around.under,Code.envs,Code.isFrame,pushEnvs] using e.frames),e.mod,e.bs,e.bsz,e.funs,e.frf,e.hok,e.bare]
section
def Inv.env0(I:Inv X pins σ H s):zei X.prog X.w X.K X.mg X.base X.A X.stack s H:=
 #[I.ok.frames,I.ok.mod,I.bs,v7 I.ok.bsz I.sz,I.stack,I.stkFree,I.hok,I.bare]
def Inv.after{Q:VK}(I:Inv X pins σ H s)(h:CE X.stack X.prog X.w H s Q u s'):EP X pins σ Q u s':=by
 have#[v,H',os,bare,un,hok,r,q]:=h;have#[hh,g,d,t,os']:=s';obtain rfl:os'=s.os:=os;show#[v,H',I.call (h':=hh) (g':=g) (d':=d) (t':=t) (ch:=[]) un hok bare (λb z=>absurd z (by simp)),r,q]
end
def zko(sp:Sp)(fg:kx V)(E:XK)(t:TA):TE:=λσ H Q=>t σ H λvs H1=>sp (vs++fg) H1 Q E
def zmH(C:p8)(m:Str)(sp:Sp)(fg:kx V)(E:XK)(ta:TE)(t:TA):TE:=λσ H Q=>ta σ H λx H1=>∃a dx fs,x= .ref a/\H1 a=eV (.ins C dx fs)/\fs.lookup m=gi/\
 t σ H1 λvs H2=>sp (x::(vs++fg)) H2 Q E
def zq2(C:p8)(sp:Sp)(fg:kx V)(E:XK)(t:TA):TE:=λσ H Q=>t σ H λvs H1=>∀x dx,H1 x=gi->H1 dx=gi->dx≠x->
 sp (.ref x::(vs++fg)) (upd (upd H1 dx (.own x)) x (.ins C dx [])) (λv H2=>v= .non/\Q (.ref x) H2) E
def TQ(K:uU)(fd:Gn)(ps:kx Str)(ds:kx ph):Prop:=
 ∀(s:pA) (us:kx ph),K.In s.heap->(us++ds).length=ps.length->BindsTo s fd #[us,[]] (ps.zip (us++ds))
def TQ.all(h:∀us:kx ph,us.length=ps.length->bindArgs fd #[us,[]]=pure (ps.zip us)):TQ K fd ps []:=λs us _ hl=>by
 rw[Bb] at hl ⊢;show .of_eq (h us hl)
def Ui(CX:CXT)(X:Cx)(E:XK):Prop:=∀(pins:kx (p8×Obj)) (σ:St) (H:Hp) (s:pA) (e:ph) (s':pA),Inv X pins σ H s->CX X.stack H s E e s'->X.xe e s'
section
variable{CX:CXT}{k:Nat}{f C:p8}{fd:Gn}{ps:kx Str}{sp:Sp}{fg:kx V}{ds:kx ph}{E:XK}{x m:Str}{p pos apos:Pos}{e o:Expr}{es:kx Expr}{ta:TE}{t:TA}
def zmI{Q:VK}(F:YB X.prog X.w X.K X.mg X.base CX k f fd ps sp)(hr:wC k X.A)(hb:TQ X.K fd ps ds)(hd:ym fg ds)(hx:Ui CX X E)
  (I:Inv X pins σ H s) (r:ym vs us) (h:sp (vs++fg) H Q E):wpAny (model X.prog X.w) X.A (call (.ref f) us) (EP X pins σ Q) X.xe s:=by
 have r2:ym (vs++fg) (us++ds):=r.append hd;have hl:(us++ds).length=ps.length:=by rw[<-r2.length];show F.len _ _ _ _ h
 show wpAny_call (codeAny_mono (F.run X.A X.stack s H #[us,[]] (us++ds) (vs++fg) Q E hr I.env0 (hb s us I.kIn hl) r2 h) λr s' hq=> ?_);cases r with
 |error e=>show hx pins σ H s e s' I hq
 |ok fl=>
  cases fl with
  |ret u=>show I.after hq
  |next=>show Au hq
  |brk=>show Au hq
  |cont=>show Au hq
def zkp(F:YB X.prog X.w X.K X.mg X.base CX k f fd ps sp)(hr:wC k X.A)(hg:Gl X x)(hm:X.mg x=eV (.ref f))(hk:Bt X.K (.ref f)=hG)(hb:TQ X.K fd ps ds)(hd:ym fg ds)(hx:Ui CX X E)
  (ha:PA X (e::es) t) (iX:(x==("__debug__":Str))=mK:=by decide) (he:FW (e::es) X.env=(mK,eval e X.env)::FW es X.env:=by rfl) (fJ:(backTo pos (FW es X.env)).any (·.1)=mK:=by rfl):
  PE X (.Call (.Name x p) (e::es) [] pos) (zko sp fg E t):=by
 intro pins s σ H Q I h;show Gj (zfH I hg hm ?_ iX);show Dj (h₀:=X.base) I.ok.mod.kin hk (thn (ha pos pins s σ H _ I h) ?_) he fJ;intro us s1 #[vs,H1,I1,r,q];show#[I1.kIn,?_];show zmI F hr hb hd hx I1 r q
def zZ{pl:Sem Bool}(he:PE X o ta)(c:Cls X.K C)(hm:zrO X.K C m f)(F:YB X.prog X.w X.K X.mg X.base CX k f fd ps sp)(hr:wC k X.A)(hb:TQ X.K fd ps ds)(hd:ym fg ds)(hx:Ui CX X E)(ha:PA X (e::es) t)
  (fI:FW (e::es) X.env=(mK,eval e X.env)::FW es X.env:=by rfl) (fJ:(backTo pos (FW es X.env)).any (·.1)=mK:=by rfl)
  (ht:eval (.Call (.Attribute o m apos) (e::es) [] pos) X.env=(do
   let ov <-eval o X.env
   standAt apos.atName
   let (f,first) <-holding [ov] (getMethod ov m pl)
   callWith pos f first (backTo pos (FW (e::es) X.env)) (backToKw pos (keywordEach [] X.env))):=by rfl):
  PE X (.Call (.Attribute o m apos) (e::es) [] pos) (zmH C m sp fg E ta t):=by
 intro pins s σ H Q I h;show PySem.W.methodCall_KW (pl:=pl) (thn (he pins s σ H _ I h) ?_) ht;intro u s1 #[x,H1,I1,rx,a,dx,fs,ex,ea,l,q];subst ex;obtain rfl:u=Value.ref a:=rx;show ziY I1 ea c hm l ?_;show Dj (first:=[.ref a]) (h₀:=X.base) I.ok.mod.kin hm.kp (thn (ha pos pins s1 σ H1 _ I1 q) ?_) fI fJ;intro us s2 #[vs,H2,I2,r,q2];show#[I2.kIn,?_];show zmI (us:= .ref a::us) (vs:= .ref a::vs) F hr hb hd hx I2 (.cons rfl r) q2
structure Mk(K:uU)(C f:p8):Prop where
 makes:DS K C=hG
 init:z3 K (.ref C) "__init__"=eV (eV (.ref f))
 fn:D1 K (.ref f)=hG
 kp:Bt K (.ref C)=hG
def zmJ{Q:VK}(M:Mk X.K C f)(F:YB X.prog X.w X.K X.mg X.base CX k f fd ps sp)(hr:wC (k+1) X.A)(hb:TQ X.K fd ps ds)(hd:ym fg ds)
  (hx:Ui CX X E) (I:Inv X pins σ H s) (r:ym vs us)
  (h:∀x dx,H x=gi->H dx=gi->dx≠x->sp (.ref x::(vs++fg)) (upd (upd H dx (.own x)) x (.ins C dx [])) (λv H2=>v= .non/\Q (.ref x) H2) E):
  wpAny (model X.prog X.w) X.A (call (.ref C) us) (EP X pins σ Q) X.xe s:=by
 have hq:=h (#v[s]+1) #v[s] (I.hok.fresh (C2 _)) (I.hok.fresh (v3 _)) (z8 (AZ _));have I2:=Inv.made (C:=C) I;have r2:ym (V.ref (#v[s]+1)::(vs++fg)) (Value.ref (#v[s]+1)::(us++ds)):= .cons rfl (r.append hd);have hl:(Value.ref (#v[s]+1)::us++ds).length=ps.length:=by
  have e:=r2.length;rw[F.len _ _ _ _ hq] at e;show e.symm
 show wpAny_call (zmG (f:=f) I.kIn M.makes M.init (beq_iff_eq.mp M.fn) (codeAny_mono (F.run _ X.stack _ _ #[Value.ref (#v[s]+1)::us,[]] (Value.ref (#v[s]+1)::(us++ds)) _ _ E (hr.make C us [])
  (I2.env0.make C us []) (hb _ (Value.ref (#v[s]+1)::us) I2.kIn hl) r2 hq) λr s' fj=> ?_))
 cases r with
 |error e=>show hx pins σ _ _ e s' I2 fj
 |ok fl=>
  cases fl with
  |ret u=>
   have#[v,H',I3,rv,ev,q3]:=I2.after fj;subst ev;show#[rv,#[V.ref (#v[s]+1),H',I3,rfl,q3]]
  |next=>show Au fj
  |brk=>show Au fj
  |cont=>show Au fj
def zps(M:Mk X.K C f)(F:YB X.prog X.w X.K X.mg X.base CX k f fd ps sp)(hr:wC (k+1) X.A)(hg:Gl X x)(hm:X.mg x=eV (.ref C))(hb:TQ X.K fd ps ds)(hd:ym fg ds)(hx:Ui CX X E)
  (ha:PA X (e::es) t) (iX:(x==("__debug__":Str))=mK:=by decide) (he:FW (e::es) X.env=(mK,eval e X.env)::FW es X.env:=by rfl) (fJ:(backTo pos (FW es X.env)).any (·.1)=mK:=by rfl):
  PE X (.Call (.Name x p) (e::es) [] pos) (zq2 C sp fg E t):=by
 intro pins s σ H Q I h;show Gj (zfH I hg hm ?_ iX);show Dj (h₀:=X.base) I.ok.mod.kin M.kp (thn (ha pos pins s σ H _ I h) ?_) he fJ;intro us s1 #[vs,H1,I1,r,q];show#[I1.kIn,?_];show zmJ M F hr hb hd hx I1 r q
end
section
variable{CX:CXT}{k:Nat}{f C:p8}{fd:Gn}{ps ks:kx Str}{sp:Sp}{E:XK}{x m:Str}{p pos apos qW:Pos}{e o:Expr}{es:kx Expr}{uk:kx Keyword}{te ta:TE}{t tk:TA}{nm:pf Str}
variable{g:kx ph->kx ph->kx ph}{gV:kx V->kx V->kx V}
end
structure zy(N P:kx Str)(sc:Scope):Prop where
 kind:sc.kind= .function
 co:sc.isCoroutine=mK
 gen:sc.isGenerator=mK
 nd:N.Nodup
 pre:N.take P.length=P
 par:∀x∈P,sc.names.lookup x=eV .local\/sc.names.lookup x=eV .cell
 nofree:∀y∈sc.names,y.2≠ .free
theorem zeV{kindOf:Str->pf Gr}:∀{binds:kx (Str×ph)} {m:Str->pf ph},(∀v,(x,v)∉binds)->bindL kindOf binds m x=m x
 |[],_,_=>rfl
 |(n,v)::r,m,h=>by
  unfold bindL;rw[zeV λw hw=>h w (w6 _ hw)];split
  .have:x≠n:=by rintro rfl;show h v y6
   simp[this]
  rfl
theorem zeW{kindOf:Str->pf Gr}:∀{binds:kx (Str×ph)} {m:Str->pf ph},(∀v,(x,v)∉binds)->bindC kindOf binds m x=m x
 |[],_,_=>rfl
 |(n,v)::r,m,h=>by
  unfold bindC;rw[zeW λw hw=>h w (w6 _ hw)];split;rfl
  have:x≠n:=by rintro rfl;show h v y6
  simp[this]
theorem zeX{kindOf:Str->pf Gr}:∀{P:kx Str} {vs:kx ph} {i:Nat} {m:Str->pf ph},P.Nodup->P[i]? =eV x->vs[i]? =eV v->kindOf x=eV .local->
  bindL kindOf (P.zip vs) m x=eV v
 |[],_,_,_,_,h,_,_=>by simp at h
 |_::_,[],_,_,_,_,h,_=>by simp at h
 |p::P,w::vs,0,m,nd,h1,h2,hk=>by
  simp at h1 h2;subst h1;subst h2;change bindL kindOf ((p,w)::P.zip vs) m p=_;unfold bindL;rw[zeV λv hv=>(Bc.mp nd).1 (BX hv).1,GO hk];simp
 |p::P,w::vs,i+1,m,nd,h1,h2,hk=>by
  change bindL kindOf ((p,w)::P.zip vs) m x=_;unfold bindL;show zeX (i:=i) (Bc.mp nd).2 (by simpa using h1) (by simpa using h2) hk
theorem zeY{kindOf:Str->pf Gr}:∀{P:kx Str} {vs:kx ph} {i:Nat} {m:Str->pf ph},P.Nodup->P[i]? =eV x->vs[i]? =eV v->kindOf x≠eV .local->
  bindC kindOf (P.zip vs) m x=eV v
 |[],_,_,_,_,h,_,_=>by simp at h
 |_::_,[],_,_,_,_,h,_=>by simp at h
 |p::P,w::vs,0,m,nd,h1,h2,hk=>by
  simp at h1 h2;subst h1;subst h2;change bindC kindOf ((p,w)::P.zip vs) m p=_;unfold bindC;rw[zeW λv hv=>(Bc.mp nd).1 (BX hv).1,GP hk];simp
 |p::P,w::vs,i+1,m,nd,h1,h2,hk=>by
  change bindC kindOf ((p,w)::P.zip vs) m x=_;unfold bindC;show zeY (i:=i) (Bc.mp nd).2 (by simpa using h1) (by simpa using h2) hk
noncomputable def Yu(N:kx Str)(vs:kx V):St:=vs.map eV++z4 (N.length-vs.length) gi
noncomputable def TJ(CX:CXT)(P:Program)(w:World)(K:uU)(mg:Str->pf ph)(base:Heap)(N:kx Str)(qual:Str)(scope:Scope)(f:p8)(cd:ph)(A:Around)(outer:kx Env)(s:pA)(H:Hp)(E:XK):Cx where
 prog:=P
 w:=w
 K:=K
 mg:=mg
 base:=base
 A:=A.deeper (envOfC qual scope #v[s] f cd)
 N:=N
 s₀:=s
 H₀:=H
 env:=envOfC qual scope #v[s] f cd
 outer:=outer
 stack:=envOfC qual scope #v[s] f cd::outer
 ex:=[]
 calm:=hG
 fn:=λ_=>hG
 zn:=λ_=>mK
 pn:=[]
 xe:=λe s'=>wpAny (model P w) (A.deeper (envOfC qual scope #v[s] f cd)) (leaving (envOfC qual scope #v[s] f cd) e) (λ_ s''=>CX outer H s E e s'') (λe' s''=>CX outer H s E e' s'') s'
def zhl{sc:Scope}{n:Nat}{x:Str}(h:sc.names.lookup x=eV .cell):∃c,(Gc n sc.names []).lookup x=eV c:=by
 have q:=C3 sc.names n [] (.inl h);show Ay.mp q
def zbC{P:Program}{mg:Str->pf ph}{N ps:kx Str}{E:XK}
  (S:zy N ps scope) (hd:A.handled=gi) (e0:zei P w K mg base A outer s H) (hl:vs.length=ps.length) (r:ym vs us)
  (x:InCallC s #v[s] (bindL (envOfC qual scope #v[s] f cd).kindOf (ps.zip us) λ_=>gi) (Gc (#v[s]+1) scope.names []) (bindC (envOfC qual scope #v[s] f cd).kindOf (ps.zip us) λ_=>gi) s1):
  Inv (TJ CX P w K mg base N qual scope f cd A outer s H E) [] (Yu N vs) H s1:=by
 have fJ:ps.length<=N.length:=by have:=congrArg E8 S.pre;rw[Az] at this;omega
 have#[h1,tk,rfl,hk]:=x.done;have iK:∀b:p8,b∉(TJ CX P w K mg base N qual scope f cd A outer s H E).ex:=λb z=>absurd (show b∈([]:kx p8) from z) (by simp)
 show#[#[e0.mod,S.kind,rfl,rfl,v3 _,λy z c h1 h2=> ?_,λy hy=> ?_,λy c _ h=> ?_,λ_=>hd,Around.frames_deeper e0.frames,.inr #[rfl,rfl],λb z=>absurd z (iK b),e0.bs,e0.bsz,λb _ _=>iK b,λb z=>absurd z (iK b),e0.funs,e0.frf],
  rfl,e0.bare,Un.kept hk,#[_,x.toInCall.ns,λi y v h1 h2 h3=> ?_],λy c h=>#[_,x.cell y c h],e0.hok.fresh (v3 _),λy c h=> ?_,λp hp=>absurd (show p∈([]:kx (p8×Obj)) from hp) (by simp),e0.hok.kept hk,?_]
 .show name_of_addr x.apart (A8 h1) (A8 h2)
 .have hy:scope.names.lookup y=eV .cell\/scope.names.lookup y=eV .free:=hy;rcases hy with hy|hy;show zhl hy;show absurd rfl (S.nofree _ (A8 hy))
 .show A3 (x.above y c (A8 h))
 .have hi:i<vs.length:=by
   unfold Yu at h2;by_cases hi:i<vs.length;show hi
   rw[w5 (by simpa using hi)] at h2;rw[Cy] at h2;split at h2<;>cases h2
  have ha:vs[i]? =eV v:=by
   unfold Yu at h2;rw[v5 (by simpa using hi),uY] at h2;cases e:vs[i]? with
   |none=>rw[e] at h2;cases h2
   |some a=>rw[e] at h2;cases h2;rfl
  have#[u,hu,rv]:=r.get ha;have hp:ps[i]? =eV y:=by
   rw[<-S.pre,List.getElem?_take_of_lt ⋯];show h1
  have pz:ps.Nodup:=by rw[<-S.pre];show S.nd.sublist (List.take_sublist _ _)
  show#[u,rv,?_];rcases S.par y (uX hp) with k|k;show .inl #[k,zeX pz hp hu k];have#[c,e]:=zhl (n:=#v[s]+1) k;show .inr #[.inl k,c,e,?_];have q:=x.cell y c e;rw[zeY pz hp hu (by change scope.names.lookup y≠_;rw[k];decide)] at q;show q
 .show .inl (e0.hok.fresh (A3 (x.above y c (A8 h))))
 unfold Yu;change _=N.length;rw[y7,uZ,List.length_replicate];omega
def ztr{CX:CXT}{P:Program}{w:World}{mg:Str->pf ph}{base:Heap}{k:Nat}{f:p8}{name qual:Str}{params:Arguments}{body:kx Stmt}{scope:Scope}{dV kV doc pm bZ ct oc:ph}{an od:pf p8}
  {gj:Array (pf ph)} {N ps:kx Str} {sp:Sp} (lk:K.lookup f=eV #[oc,od,.func (BD name qual params body scope dV kV doc pm an bZ ct),gj]) (dI:Cu K bZ qual=hG) (S:zy N ps scope)
  (len:∀vs H Q E,sp vs H Q E->vs.length=ps.length)
  (dB:∀(A:Around) (outer:kx Env) (s:pA) (H:Hp) (vs:kx V) (Q:VK) (E:XK),wC k (A.deeper (envOfC qual scope #v[s] f bZ))->sp vs H Q E->
   ∃t,PSs (TJ CX P w K mg base N qual scope f bZ A outer s H E) body t/\t {nx:=λ_ H'=>Q .non H',rt:=Q} (Yu N vs) H):
  YB P w K mg base CX (k+1) f (BD name qual params body scope dV kV doc pm an bZ ct) ps sp:=by
 show#[len,λA outer s H args us vs Q E hr e0 hb r gU=> ?_];have hl:=len _ _ _ _ gU;have KX:K.In s.heap:=e0.mod.kin.keeps λb o e=>(e0.bs b o e).1;have lim:s.heap.NoLimit:=e0.mod.nolimit.keeps λb o e=>(e0.bs b o e).1;have fM:∀y∈ps.zip us,scope.names.lookup y.1=eV .local\/(scope.names.lookup y.1=eV .cell/\((Gc (#v[s]+1) scope.names []).lookup y.1).isSome=hG):=λ⟨n,v⟩ hy=>by
  rcases S.par n (BX hy).1 with q|q;show .inl q;show .inr #[q,C3 _ _ _ (.inl q)]
 (refine codeAny_call_function hr.depth (KX _ _ lk) rfl S.co S.gen rfl (Dl KX dI) (hb _ _ _ _ ?_));show GC S.kind fM λenv he s1 x=> ?_;subst he;show#[lim.keeps x.toInCall.keep,codeAny_func ?_];have#[t,ht,hq]:=dB A outer s H vs Q E (hr.deeper _) gU;have I:Inv (TJ CX P w K mg base N qual scope f bZ A outer s H E) [] (Yu N vs) H s1:=zbC S hr.hd e0 hl r x;show Gi (ht [] s1 (Yu N vs) H _ I hq) (λfl s' hs=> ?_) λe s' hs=>hs;have fin:∀{σ':St} {H':Hp} {v:V} {u:ph},Inv (TJ CX P w K mg base N qual scope f bZ A outer s H E) [] σ' H' s'->yt v u->Q v H'->CE outer P w H s Q u s':=
  λ{σ' H' v u} J rv q=>#[v,H',J.os,J.bare,J.base,J.hok,rv,q]
 cases fl with
 |ret u=>
  have#[v,σ',H',J,rv,q]:=hs;show fin J rv q
 |next=>
  have#[σ',H',J,q]:=hs;show fin (v:=V.non) (u:=Value.none) J rfl q
 |brk=>
  have#[_,_,_,q]:=hs;show Au q
 |cont=>
  have#[_,_,_,q]:=hs;show Au q
section
variable{x:Str}{p pos:Pos}{e:Expr}{es:kx Expr}{t:TA}{id T:String}{r:kx V->Hp->VK->Prop}
def tCB(r:kx V->Hp->VK->Prop)(t:TA):TE:=λσ H Q=>t σ H λvs H1=>r vs H1 Q
def yh(hc:Zt X (.builtin id) r)(hg:Gl X x)(hm:X.mg x=gi)(hv:bootBuiltins x=eV (.builtin id))(ha:PA X (e::es) t)(hn:x≠"__name__":=by decide)(iX:(x==("__debug__":Str))=mK:=by decide)
  (he:FW (e::es) X.env=(mK,eval e X.env)::FW es X.env:=by rfl) (fJ:(backTo pos (FW es X.env)).any (·.1)=mK:=by rfl):PE X (.Call (.Name x p) (e::es) [] pos) (tCB r t):=by
 intro pins s σ H Q I h;show Gj (Ue I hg hm hv ?_ hn iX);show PyProof.Rows.callWith_builtin1 (thn (ha pos pins s σ H _ I h) ?_) he fJ;intro us s1 #[vs,H1,I1,r1,q1];show hc pins s1 σ H1 vs us Q I1 r1 q1
def vU(hc:Zt X (.type T) r)(hg:Gl X x)(hm:X.mg x=gi)(hv:bootBuiltins x=eV (.type T))(ha:PA X (e::es) t)(hn:x≠"__name__":=by decide)(iX:(x==("__debug__":Str))=mK:=by decide)
  (he:FW (e::es) X.env=(mK,eval e X.env)::FW es X.env:=by rfl) (fJ:(backTo pos (FW es X.env)).any (·.1)=mK:=by rfl):PE X (.Call (.Name x p) (e::es) [] pos) (tCB r t):=by
 intro pins s σ H Q I h;show Gj (Ue I hg hm hv ?_ hn iX);show AW (thn (ha pos pins s σ H _ I h) ?_) he fJ;intro us s1 #[vs,H1,I1,r1,q1];show hc pins s1 σ H1 vs us Q I1 r1 q1
end
end L2
variable{prog:PySem.Program}{A:PySem.Around}{E:PySem.Value->PySem.Shared->Prop}{X:L2.Cx}{K:uU}{pins:kx (PySem.Addr×PySem.Obj)}{σ:L2.St}{H:L2.Hp}{s:PySem.Shared}{Q:PySem.Value->PySem.Shared->Prop}
namespace HT
section
open PySem.SeqAt
open PySem.AutoSeq1 (wpAny_loadPart')
open PySem.MeetsSeq PySem.MeetsSeq2 PySem.MeetsSeq3
end
section
def zpt(ht:IsTup s.heap t vs.toArray)(hb:IsTup s.heap b ws.toArray)(hv:vs≠[])
  (h1:ws=[]->Q (.ref t) s) (h2:ws≠[]->Q (.ref #v[s]) {s with heap:=s.heap.push {cls:= .type "tuple",data:= .seq (vs++ws).toArray}})
  (hsz:vs.length+ws.length<=FU):wpAny (model prog w) A (GA .Add (.ref t) (.ref b)) Q E s:=by
 have#[#[cls,dd,data,sl],ho,hc,n,hd]:=id ht;have#[#[oV,mI,data2,jX],jJ,iY,n2,hd2]:=id hb;simp only at hc hd iY hd2;subst hc hd iY hd2;have e:vs.toArray++ws.toArray=(vs++ws).toArray:=by simp
 by_cases hw:ws=[]
 .show concat_meets #[_,ho,rfl] #[_,jJ,rfl] noFill_tuple_add seq_tuple_add CM Cz (Cp _ _)
   (tuple_addW1 t b vs.toArray ws.toArray n n2 dd mI sl jX (by simpa using hv) (by simp[hw])) #[ho,jJ,h1 hw]
 show concat_meets #[_,ho,rfl] #[_,jJ,rfl] noFill_tuple_add seq_tuple_add CM Cz (Cp _ _)
  (tuple_addW2 t b vs.toArray ws.toArray n n2 dd mI sl jX (by simpa using hv) (by simpa using hw) (by rw[v9,v9];show hsz)) #[ho,jJ,?_]
 rw[e];show h2 hw
noncomputable def sIx(n d:Nat):pf Int->Nat
 |none=>d
 |some v=>if v<0 then (v+(n:Int)).toNat else min v.toNat n
def zpu(n d k:Nat):sIx n d (eV (k:Int))=min k n:=by
 change(if (k:Int)<0 then ((k:Int)+(n:Int)).toNat else min (k:Int).toNat n)=min k n;rw[GP ⋯,z7]
def zrQ(n d:Nat)(hd:d<=n)(o:pf Int):sIx n d o<=n:=by
 cases o with
 |none=>show hd
 |some v=>
  change(if v<0 then (v+(n:Int)).toNat else min v.toNat n)<=n;by_cases hv:v<0
  .rw[GO hv];omega
  rw[GP hv];show Nat.min_le_right _ _
def zkq(v:Int)(n d:Nat):(if v<0 then max (v+(n:Int)) 0 else min v (n:Int))=((sIx n d (eV v):Nat):Int):=by
 change(if v<0 then max (v+(n:Int)) 0 else min v (n:Int))=(((if v<0 then (v+(n:Int)).toNat else min v.toNat n):Nat):Int);by_cases hv:v<0
 .simp only[GO hv];omega
 simp only[GP hv];omega
def zi3(lo hi:pf Int)(n:Nat):Builtin.Slice.sliceAdjust lo hi 1 (n:Int)=(((sIx n 0 lo:Nat):Int),((sIx n n hi:Nat):Int)):=by
 have h1:¬((1:Int)<0):=by omega
 unfold Builtin.Slice.sliceAdjust;simp only[h1,if_false];show Prod.ext ?_ ?_
 .cases lo with
  |none=>rfl
  |some v=>show zkq v n 0
 cases hi with
 |none=>rfl
 |some v=>show zkq v n n
def zi4(i j:Nat):Builtin.Slice.slicePlaces (i:Int) (j:Int) 1=j-i:=by
 unfold Builtin.Slice.slicePlaces;have h1:(1:Int)>0:=by omega
 simp only[h1,if_true,Int.ediv_one];split<;>omega
def zc5{Q:pf Int->pA->Prop}(p:IsPart v o)(h:Q o s):wpAny (model prog w) A (Builtin.Slice.slicePartIndex v) Q E s:=by
 cases p with
 |none=>show slicePart_none h
 |int i t=>show slicePart_int h
def WD{sl:p8}{vl vu:ph}{lo hi:pf Int}{n:Nat}{Q:Int×Int×Nat->pA->Prop}(hs:s.heap.IsSliceOf sl vl vu .none)(pl:IsPart vl lo)(pu:IsPart vu hi)
  (h:Q (((sIx n 0 lo:Nat):Int),1,sIx n n hi-sIx n 0 lo) s):wpAny (model prog w) A (Builtin.Slice.sliceApplied (.ref sl) (pure (n:Int))) Q E s:=by
 have#[os,jG,gx,lr]:=id hs;unfold Builtin.Slice.sliceApplied Builtin.Slice.sliceFields;show qR (qR (Gb jG lr (x:=vl) rfl (qR (Gb jG lr (x:=vu) rfl (qR (Gb jG lr (x:= .none) rfl (uh ?_)))))));show qR (slicePart_none ?_);change wpAny _ _ (if ((1:Int)==0)=hG then _ else _) _ _ s;rw[GP ∅];show qR (zc5 pl (qR (zc5 pu (qR (uh ?_)))));change wpAny _ _ (match Builtin.Slice.sliceAdjust lo hi 1 (n:Int) with|(lo,hi)=>pure (lo,(1:Int),Builtin.Slice.slicePlaces lo hi 1)) _ _ s;rw[zi3 lo hi n];change wpAny _ _ (pure (((sIx n 0 lo:Nat):Int),(1:Int),Builtin.Slice.slicePlaces ((sIx n 0 lo:Nat):Int) ((sIx n n hi:Nat):Int) 1)) _ _ s;rw[zi4];show uh h
def zmK(xs:Array ph)(i k:Nat):((Ac k).filterMap λ(m:Nat)=>xs[((i:Int)+(m:Int)*1).toNat]?).toArray=((xs.toList.drop i).take k).toArray:=by
 have e:(λ(m:Nat)=>xs[((i:Int)+(m:Int)*1).toNat]?)=λm=>xs[i+m]? :=by
  funext m;have:((i:Int)+(m:Int)*1).toNat=i+m:=by omega
  rw[this]
 rw[e];have:=pick_run xs i k;rw[List.filterMap_map] at this;have e2:((λx=>xs[x]?) ∘ λx=>i+x)=λm=>xs[i+m]? :=rfl;rw[e2] at this;rw[this]
def zaK{t sl:p8}{items:Array ph}{vl vu:ph}{lo hi:pf Int}(ht:IsTup s.heap t items)(hs:s.heap.IsSliceOf sl vl vu .none)(pl:IsPart vl lo)(pu:IsPart vu hi)
  (hw:¬(sIx items.size 0 lo=0/\sIx items.size items.size hi=items.size))
  (h:Q (.ref #v[s]) {s with heap:=s.heap.push {cls:= .type "tuple",data:= .seq ((items.toList.drop (sIx items.size 0 lo)).take (sIx items.size items.size hi-sIx items.size 0 lo)).toArray}})
  (hsz:items.size<=FU):wpAny (model prog w) A (getItem (.ref t) (.ref sl)) Q E s:=by
 have gw:sizeOk (.seq ((items.toList.drop (sIx items.size 0 lo)).take (sIx items.size items.size hi-sIx items.size 0 lo)).toArray):=by
  change((items.toList.drop (sIx items.size 0 lo)).take (sIx items.size items.size hi-sIx items.size 0 lo)).toArray.size<=FU;rw[v9,Az,DI,Bq];omega
 have hj:sIx items.size items.size hi<=items.size:=zrQ _ _ (v3 _) hi;have#[os,jG,gx,lr]:=id hs;have ko:s.TypeIs (.ref sl) "slice":=#[os,jG,gx];unfold getItem
 try with_reducible show Gm ?_
 first|refine qR (uh ?_)|skip
 show qR (wpAny_sequenceKey ht.typeIs ∅ ?_)
 show qR (FY (name:=Str.ofString "__getitem__") ht.typeIs AI
  (Ga AI ht.typeIs entry_tuple_getitem ?_ (args_tuple_getitem _ _)))
 change wpAny _ _ (Builtin.Tuple.tupleItemsOf (.ref t)>>=_) _ _ s;show qR (tupleItemsOf_ ht ?_);show qR (wpAny_typeOf ko ?_);rw[GO ∅];show qR (WD hs pl pu ?_);have nX:¬((((sIx items.size 0 lo:Nat):Int)==0&&(1:Int)==1&&(sIx items.size items.size hi-sIx items.size 0 lo)==items.size)=hG):=by
  intro q;rw[Aj,Aj] at q;have q1:((sIx items.size 0 lo:Nat):Int)=0:=eq_of_beq q.1.1;have q2:sIx items.size items.size hi-sIx items.size 0 lo=items.size:=eq_of_beq q.2;show hw #[⋯,⋯]
 change wpAny _ _ (if (((sIx items.size 0 lo:Nat):Int)==0&&(1:Int)==1&&(sIx items.size items.size hi-sIx items.size 0 lo)==items.size)=hG then _ else _) _ _ s;rw[GP nX,zmK]
 first
  |exact qR (m:=Builtin.Tuple.tupleExact _) (FZ (uh #[_,rfl,uh h]) gw)
  |exact qR (m:=Builtin.Tuple.tupleExact _) (FZ (qR (uh (uh #[_,rfl,uh h]))) gw)
  |exact qR (qR (m:=Builtin.Tuple.tupleExact _) (FZ (uh (uh #[_,rfl,uh h])) gw))
  |exact qR (qR (m:=Builtin.Tuple.tupleExact _) (FZ (uh #[_,rfl,uh h]) gw))
end
end HT
namespace L2
abbrev TO:=St->Hp->(pf Int->Hp->Prop)->Prop
def PO(X:Cx)(e:pf Expr)(t:TO):Prop:=
 ∀(pins:kx (p8×Obj)) (s:pA) (σ:St) (H:Hp) (Q:pf Int->Hp->Prop),Inv X pins σ H s->t σ H Q->
  wpAny (model X.prog X.w) X.A (evalPart e X.env) (λu s'=>∃o H',Inv X pins σ H' s'/\IsPart u o/\Q o H') X.xe s
def zkr:TO:=λ_ H Q=>Q gi H
def zq3(t:TE):TO:=λσ H Q=>t σ H λx H1=>∃i,x= .int i/\Q (eV i) H1
section
variable{e:Expr}{te:TE}{lo hi:pf Expr}{tl th:TO}{pos p2:Pos}
def zaL:PO X gi zkr:=by
 intro pins s σ H Q I h;rw[evalPart_none];show uh #[gi,H,I,.none,h]
def WZ(h:PE X e te):PO X (eV e) (zq3 te):=by
 intro pins s σ H Q I hw;rw[evalPart_some];show thn (h pins s σ H _ I hw) ?_;intro u s1 #[x,H1,I1,r1,q1];have#[i,rfl,q]:=q1;have#[t,rfl]:=r1;show#[eV i,H1,I1,.int i t,q]
def SlR(X:Cx)(r:V->pf Int->pf Int->Hp->VK->Prop):Prop:=
 ∀(pins:kx (p8×Obj)) (s:pA) (σ:St) (H:Hp) (x:V) (v vl vu:ph) (lo hi:pf Int) (sl:p8) (Q:VK),Inv X pins σ H s->yt x v->s.heap.IsSliceOf sl vl vu .none->IsPart vl lo->IsPart vu hi->r x lo hi H Q->
  ∃T id,typeLookup (.type T) "__getitem__"=pure (eV (.builtin id))/\s.TypeIs v T/\wpAny (model X.prog X.w) X.A (getItem v (.ref sl)) (EP X pins σ Q) X.xe s
def tSl(r:V->pf Int->pf Int->Hp->VK->Prop)(te:TE)(tl th:TO):TE:=λσ H Q=>te σ H λx H1=>tl σ H1 λl H2=>th σ H2 λu H3=>r x l u H3 Q
def WE{r:V->pf Int->pf Int->Hp->VK->Prop}(hr:SlR X r)(he:PE X e te)(hl:PO X lo tl)(hu:PO X hi th):PE X (.Subscript e (.Slice lo hi gi p2) pos) (tSl r te tl th):=by
 intro pins s σ H Q I h;show Subscript_ (thn (he pins s σ H _ I h) ?_);intro v s1 #[x,H1,I1,r1,q1];show wpAny_Slice (thn (hl pins s1 σ H1 _ I1 q1) ?_);intro vl s2 #[l,H2,I2,pl,q2];show thn (hu pins s2 σ H2 _ I2 q2) ?_;intro vu s3 #[u,H3,I3,pu,q3];rw[evalPart_none];show uh ?_;have I4:Inv X pins σ H3 {s3 with heap:=s3.heap.push {cls:= .type "slice",data:= .fields [vl,vu,.none].toArray}}:=I3.kept (t':=s3.toks) λb ob q=>Heap.get?_push_of_some _ q;have#[T,id,hT,ht,hg]:=hr pins {s3 with heap:=s3.heap.push {cls:= .type "slice",data:= .fields [vl,vu,.none].toArray}} σ H3 x v vl vu l u #v[s3] Q I4 r1 (Heap.IsSliceOf.new ..) pl pu q3;change wpAny (model X.prog X.w) X.A (subscriptTail e (.Slice lo hi gi p2) v (.ref #v[s3])) (EP X pins σ Q) X.xe {s3 with heap:=s3.heap.push {cls:= .type "slice",data:= .fields [vl,vu,.none].toArray}};show tail_any (ops:=[.ref #v[s3],v]) ht hT hg (by with_unfolding_all rfl)
noncomputable def zej(xs:kx V)(lo hi:pf Int):kx V:=(xs.drop (HT.sIx xs.length 0 lo)).take (HT.sIx xs.length xs.length hi-HT.sIx xs.length 0 lo)
def zb9(xs:kx V)(lo hi:pf Int):(zej xs lo hi).length<=xs.length:=by
 unfold zej;rw[Az,DI];omega
def zuQ(K:uU):V->pf Int->pf Int->Hp->VK->Prop:=λx lo hi H Q=>∃a xs,x= .ref a/\SqT K H a xs/\
 ¬(HT.sIx xs.length 0 lo=0/\HT.sIx xs.length xs.length hi=xs.length)/\∀p,H p=gi->Q (.ref p) (upd H p (.tup (zej xs lo hi)))
def zrR:SlR X (zuQ X.K):=by
 intro pins s σ H x v vl vu lo hi sl Q I rx hs pl pu h;have#[a,xs,rfl,hx,hw,q]:=h;cases rx;have#[ah,r,ht,hz]:=I.tuple hx;have hlen:ah.toArray.size=xs.length:=by rw[v9];show r.length.symm
 show#["tuple",_,AI.lookup,ht.typeIs,?_];show HT.zaK ht hs pl pu (by rw[hlen];show hw) ?_ (by rw[hlen];show hz);rw[hlen];show#[.ref #v[s],_,I.laid (t':=s.toks) (o:= .tup (zej xs lo hi)) (λb ob q=>Heap.get?_push_of_some _ q) (v3 _) ?_,rfl,q _ (I.hok.fresh (v3 _))];show#[v7 (zb9 xs lo hi) hz,_,(r.drop (HT.sIx xs.length 0 lo)).take (HT.sIx xs.length xs.length hi-HT.sIx xs.length 0 lo),YM.new _ _]
def zts(K:uU):R2:=λx y H Q=>∃a b xs ys,x= .ref a/\y= .ref b/\SqT K H a xs/\SqT K H b ys/\xs≠[]/\xs.length+ys.length<=FU/\
 (ys=[]->Q (.ref a) H)/\(ys≠[]->∀p,H p=gi->Q (.ref p) (upd H p (.tup (xs++ys))))
def ym.nil_iff(r:ym xs us):us=[]↔xs=[]:=by
 cases r with
 |nil=>simp
 |cons _ _=>simp
def zpv:OpR X (GA .Add) (zts X.K):=by
 intro pins s σ H x y v u Q I rx ry h;have#[a,b,xs,ys,rfl,rfl,ha,hb,hx,hz,q1,q2]:=h;cases rx;cases ry;have#[ah,r1,p1,_]:=I.tuple ha;have#[dy,r2,p2,_]:=I.tuple hb;show HT.zpt p1 p2 (λz=>hx (r1.nil_iff.mp z)) (λz=>#[.ref a,H,I,rfl,q1 (r2.nil_iff.mp z)]) (λz=> ?_) (by rw[<-r1.length,<-r2.length];show hz);show#[.ref #v[s],_,I.laid (t':=s.toks) (o:= .tup (xs++ys)) (λb ob q=>Heap.get?_push_of_some _ q) (v3 _) ?_,rfl,q2 (λw=>z (r2.nil_iff.mpr w)) _ (I.hok.fresh (v3 _))];show#[by rw[y7];show hz,_,r1.append r2,YM.new _ _]
end
noncomputable def ixN(n:Nat)(i:Int):pf Nat:=if 0<=i then (if i<n then eV i.toNat else gi) else if -(n:Int)<=i then eV (i+n).toNat else gi
noncomputable def atI{α:Type}(xs:kx α)(i:Int):pf α:=(ixN xs.length i).bind λj=>xs[j]?
def zks(h:ixN n i=eV j):seqIndex? i n=eV j/\j<n/\ -(n:Int)<=i/\i<n:=by
 unfold ixN at h;by_cases h0:0<=i;rw[GO h0] at h;by_cases h1:i<n;rw[GO h1] at h;have e:i.toNat=j:=A0 h;show#[by rw[seqIndex_of h0 h1,e],⋯,⋯,h1];rw[GP h1] at h;cases h;rw[GP h0] at h;by_cases h1: -(n:Int)<=i;rw[GO h1] at h;have e:(i+n).toNat=j:=A0 h;show#[by rw[seqIndex_neg ⋯ h1,e],⋯,h1,⋯];rw[GP h1] at h;cases h
def zfL{α:Type}{xs:kx α}{v:α}(h:atI xs i=eV v):∃j,seqIndex? i xs.length=eV j/\xs[j]? =eV v/\j<xs.length/\ -(xs.length:Int)<=i/\i<xs.length:=by
 unfold atI at h;cases e:ixN xs.length i with
 |none=>rw[e] at h;cases h
 |some j=>
  rw[e] at h;have#[h1,h2,h3,h4]:=zks e;show#[j,h1,h,h2,h3,h4]
def zpw(b:Expr):Prop:=∀o i,subscripted b mK o i=operate [o,i] (getItem o i)
def IxR(X:Cx)(r:R2):Prop:=
 ∀(value slice:Expr) (pins:kx (p8×Obj)) (s:pA) (σ:St) (H:Hp) (x y:V) (v u:ph) (Q:VK),Inv X pins σ H s->yt x v->yt y u->r x y H Q->
  subscripted slice mK v u=operate [v,u] (getItem v u)->wpAny (model X.prog X.w) X.A (subscriptTail value slice v u) (EP X pins σ Q) X.xe s
def MtR(X:Cx)(id:String)(r:V->kx V->Hp->VK->Prop):Prop:=
 ∀(pins:kx (p8×Obj)) (s:pA) (σ:St) (H:Hp) (x:V) (xs:kx V) (v:ph) (us:kx ph) (Q:VK),Inv X pins σ H s->yt x v->ym xs us->r x xs H Q->
  wpAny (model X.prog X.w) X.A (call (.builtin id) (v::us)) (EP X pins σ Q) X.xe s
section
variable{a b:Expr}{ta tb:TE}{pos:Pos}
def IxR.or(h:IxR X r)(h':IxR X r'):IxR X (λx y H Q=>r x y H Q\/r' x y H Q):=by
 intro value slice pins s σ H x y v u Q I rx ry q hs;rcases q with q|q;show h value slice pins s σ H x y v u Q I rx ry q hs;show h' value slice pins s σ H x y v u Q I rx ry q hs
def zmL{r:R2}(hr:IxR X r)(ha:PE X a ta)(hb:PE X b tb)(hs:zpw b):PE X (.Subscript a b pos) (tOp r ta tb):=by
 intro pins s σ H Q I h;show Subscript_ (zrI ha hb I h λv u s2 x y H2 I2 rx ry q=>hr a b pins s2 σ H2 x y v u Q I2 rx ry q (hs _ _))
def zpx(K:uU):R2:=λx y H Q=>∃p xs i v,x= .ref p/\y= .int i/\SqL K H p xs/\atI xs i=eV v/\Q v H
def zpy(K:uU):R2:=λx y H Q=>∃p xs i v,x= .ref p/\y= .int i/\SqT K H p xs/\atI xs i=eV v/\Q v H
def zrS:R2:=λx y H Q=>∃z i c,x= .str z/\y= .int i/\z.length<=FU/\atI z.cps.toList i=eV c/\Q (.str #[[c].toArray]) H
def zkt:IxR X (zpx X.K):=by
 intro value slice pins s σ H x y v u Q I rx ry h hs;have#[p,xs,i,z,rfl,rfl,hq,he,q]:=h;cases rx;have#[t,rfl]:=ry;have#[ah,r,pl,hz]:=I.list hq;have#[j,h1,h2,h3,h4,h5]:=zfL he;have#[w,ew,rw']:=r.get h2;have hl:=r.length;have hn:=Ug;have fin:EP X pins σ Q w s:=#[z,H,I,rw',q];by_cases h0:0<=i
 .have hj:i.toNat=j:=by
   rw[seqIndex_of h0 h5] at h1;show A0 h1
  show item_listR pl.isList h0 ⋯ (by rw[hj];simpa using ew) fin hs
 have hj:(i+(ah.toArray.size:Int)).toNat=j:=by
  rw[seqIndex_neg ⋯ h4] at h1;rw[v9,<-hl];show A0 h1
 show subscriptTail_builtinR (x:=w) pl.isList.typeIs slot_list_getitem.lookup
  (wpAny_getItem_list_neg (Q:=λr s'=>r=w/\EP X pins σ Q r s') pl.isList ⋯ (by rw[v9]<;>omega) ⋯ (by rw[hj];simpa using ew) #[rfl,fin]) hs
def zmM:IxR X (zpy X.K):=by
 intro value slice pins s σ H x y v u Q I rx ry h hs;have#[p,xs,i,z,rfl,rfl,hq,he,q]:=h;cases rx;have#[t,rfl]:=ry;have#[ah,r,pl,hz]:=I.tuple hq;have#[j,h1,h2,h3,h4,h5]:=zfL he;have#[w,ew,rw']:=r.get h2;have hl:=r.length;have hn:=Ug;have fin:EP X pins σ Q w s:=#[z,H,I,rw',q];show subscriptTail_builtinR (x:=w) pl.typeIs slot_tuple_getitem.lookup
  (getItem_tuple (j:=j) (Q:=λr s'=>r=w/\EP X pins σ Q r s') pl ⋯ ⋯ (by rw[v9,<-hl];show h1) (by simpa using ew) #[rfl,fin]) hs
def zfM:IxR X zrS:=by
 intro value slice pins s σ H x y v u Q I rx ry h hs;have#[z,i,c,rfl,rfl,hz,he,q]:=h;have#[t,rfl]:=rx;have#[t',rfl]:=ry;have#[j,h1,h2,h3,h4,h5]:=zfL he;have hl:z.cps.toList.length=z.length:=by simp[Str.length]
 rw[hl] at h1 h4 h5;have hn:=Ug
 show tail_any (typeIs_str s z t) slot_str_getitem.lookup (getItem_str (c:=c) (by
  have e1:decide (i< -(2^63:Int))=mK:=decide_eq_false ⋯;have e2:decide (i≥2^63)=mK:=decide_eq_false ⋯
  rw[e1,e2,Bool.or_false]) (by rw[h1];simpa using h2) #[.str #[[c].toArray],H,I.tok _,#[_,rfl],q]) hs
def rIx(K:uU):R2:=λx y H Q=>zpx K x y H Q\/zpy K x y H Q\/zrS x y H Q
def zrT:IxR X (rIx X.K):=zkt.or (zmM.or zfM)
def zi5(ah:kx ph)(n j:Nat)(u:ph):Obj.mapSeq (·.setIfInBounds j u) {cls:= .type "list",data:= .seq ah.toArray n}={cls:= .type "list",data:= .seq (ah.set j u).toArray n}:=by
 simp[Obj.mapSeq]
def Inv.lst{pins:kx (p8×Obj)}{σ:St}{H:Hp}{s:pA}{p:p8}{xs:kx V}(I:Inv X pins σ H s)(h:H p=eV (.lst xs)):
  ∃(ah:kx ph) (n:Nat),ym xs ah/\s.heap.get? p=eV {cls:= .type "list",data:= .seq ah.toArray n}/\xs.length<=FU:=by
 have#[z,ah,n,r,e]:=I.hok p _ h;show#[ah,n,r,e,z]
def Inv.lstUpd{p:p8}{xs ys:kx V}{ah its':kx ph}{n n':Nat}{f:Obj->Obj}(I:Inv X pins σ H s)(h:H p=eV (.lst xs))
  (ho:s.heap.get? p=eV {cls:= .type "list",data:= .seq ah.toArray n}) (hf:f {cls:= .type "list",data:= .seq ah.toArray n}={cls:= .type "list",data:= .seq its'.toArray n'}) (r:ym ys its') (hz:ys.length<=FU) (t:Nat):
  Inv X pins σ (upd H p (.lst ys)) {s with heap:=s.heap.update p f,toks:=t}:=by
 have e:(s.heap.update p f).get? p=eV {cls:= .type "list",data:= .seq its'.toArray n'}:=by
  rw[Heap.get?_update_self f ho (by rw[hf]<;>rfl),hf]
 show I.write (x:=p) (e:=p) (by rw[h];trivial) (.inl rfl) (λb u hb q=>(Heap.get?_update_other _ _ (AX hb)).trans q) #[_,e] ?_;show#[hz,its',n',r,e]
def zq4:V->V->V->Hp->(Hp->Prop)->Prop:=λo i v H Q=>∃p xs k j,o= .ref p/\i= .int k/\H p=eV (.lst xs)/\ixN xs.length k=eV j/\Q (upd H p (.lst (xs.set j v)))
def zhm:zti X zq4:=by
 intro pins s σ H o i v ov iv u Q I ro ri rv h;have#[p,xs,k,j,rfl,rfl,hp,hj,q]:=h;cases ro;have#[t,rfl]:=ri;have#[ah,n,r,ho,hz]:=I.lst hp;have#[h1,h2,h3,h4]:=zks hj;have hl:=r.length;have hn:=Ug;have I':Inv X pins σ (upd H p (.lst (xs.set j v))) {s with heap:=s.heap.update p (Obj.mapSeq (·.setIfInBounds j u))}:=
  I.lstUpd hp ho (zi5 ah n j u) (r.set rv j) (by rw[Bm];show hz) s.toks
 by_cases h0:0<=k
 .have hk:k.toNat=j:=by
   rw[seqIndex_of h0 h4] at h1;show A0 h1
  show PySem.W.ki_setAt ho h0 ⋯ (by rw[v9,<-hl];show h4) (by rw[hk];show#[_,I',q])
 have hk:(k+(ah.toArray.size:Int)).toNat=j:=by
  rw[seqIndex_neg ⋯ h3] at h1;rw[v9,<-hl];show A0 h1
 show PySem.W.ki_setBack ho ⋯ (by rw[v9,<-hl];show h3) ⋯ (by rw[hk];show#[_,I',q])
def zfN(lo hi:pf Int)(n:Nat):(GK lo hi gi n).1=((HT.sIx n 0 lo:Nat):Int)/\(GK lo hi gi n).2.1=((HT.sIx n n hi:Nat):Int)/\(GK lo hi gi n).2.2=1:=by
 show#[?_,?_,rfl]
 .cases lo with
  |none=>simp[GK,HT.sIx]
  |some i=>
   simp only[GK,HT.sIx,F9,show(1:Int)>0 by decide,if_true];by_cases h:i<0
   .simp only[h,if_true]<;>omega
   simp only[h,if_false]<;>omega
 cases hi with
 |none=>simp[GK,HT.sIx]
 |some i=>
  simp only[GK,HT.sIx,F9,show(1:Int)>0 by decide,if_true];by_cases h:i<0
  .simp only[h,if_true]<;>omega
  simp only[h,if_false]<;>omega
def zek(ah:kx ph)(lo hi:pf Int):slicePick ah.toArray lo hi gi=((ah.drop (HT.sIx ah.length 0 lo)).take (HT.sIx ah.length ah.length hi-HT.sIx ah.length 0 lo)).toArray:=by
 have#[h1,h2,h3]:=zfN lo hi ah.toArray.size;unfold slicePick;rw[h1,h2,h3];simp only[sliceRange_one,pick_run,v9]<;>rfl
def zmN(K:uU):V->pf Int->pf Int->Hp->VK->Prop:=λx lo hi H Q=>∃a xs,x= .ref a/\SqL K H a xs/\∀p,H p=gi->Q (.ref p) (upd H p (.lst (zej xs lo hi)))
def zpz:SlR X (zmN X.K):=by
 intro pins s σ H x v vl vu lo hi sl Q I rx hs pl pu h;have#[a,xs,rfl,hx,q]:=h;cases rx;have#[ah,r,ht,hz]:=I.list hx;have hlen:=r.length;show#["list",_,slot_list_getitem.lookup,ht.isList.typeIs,?_];show wpAny_getItem_list_slice ht.isList hs pl pu .none (by simp) ?_ (by rw[v9]<;>omega);rw[zek,<-hlen];show#[.ref #v[s],_,I.laid (t':=s.toks) (o:= .lst (zej xs lo hi)) (λb ob q=>Heap.get?_push_of_some _ q) (v3 _) ?_,rfl,q _ (I.hok.fresh (v3 _))];show#[v7 (zb9 xs lo hi) hz,_,0,(r.drop (HT.sIx xs.length 0 lo)).take (HT.sIx xs.length xs.length hi-HT.sIx xs.length 0 lo),Heap.get?_push_size _ rfl]
noncomputable def XD:V->Bool
 | .non=>hG
 | .bl _=>hG
 | .int _=>hG
 | .str _=>hG
 |_=>mK
noncomputable def eqV:V->V->Bool
 | .non,.non=>hG
 | .bl a,.bl b=>a==b
 | .bl a,.int b=>(if a then 1 else 0)==b
 | .int a,.bl b=>a==(if b then 1 else 0)
 | .int a,.int b=>a==b
 | .str a,.str b=>a==b
 |_,_=>mK
def zrU(ry:yt y u)(rx:yt x v)(fy:XD y=hG)(fx:XD x=hG):SeqAt.EqAt A s u v (eqV y x):=by
 cases y with
 |non=>
  cases ry;cases x with
  |non=>cases rx;show SeqAt.EqAt.same _
  |bl b=>cases rx;show SeqAt.EqAt.none_bool b
  |int b=>have#[t,rfl]:=rx;show SeqAt.EqAt.none_int b t
  |str b=>have#[t,rfl]:=rx;show SeqAt.EqAt.none_str b t
  |_=>show absurd (show mK=hG from fx) A6
 |bl a=>
  cases ry;cases x with
  |non=>cases rx;show SeqAt.EqAt.bool_none a
  |bl b=>cases rx;show SeqAt.EqAt.bool_bool a b
  |int b=>have#[t,rfl]:=rx;show SeqAt.EqAt.bool_int a b t
  |str b=>have#[t,rfl]:=rx;show SeqAt.EqAt.bool_str a b t
  |_=>show absurd (show mK=hG from fx) A6
 |int a=>
  have#[t',rfl]:=ry;cases x with
  |non=>cases rx;show SeqAt.EqAt.int_none a t'
  |bl b=>cases rx;show SeqAt.EqAt.int_bool a t' b
  |int b=>have#[t,rfl]:=rx;show SeqAt.EqAt.int_int a t' b t
  |str b=>have#[t,rfl]:=rx;show SeqAt.EqAt.int_str a t' b t
  |_=>show absurd (show mK=hG from fx) A6
 |str a=>
  have#[t',rfl]:=ry;cases x with
  |non=>cases rx;show SeqAt.EqAt.str_none a t'
  |bl b=>cases rx;show SeqAt.EqAt.str_bool a t' b
  |int b=>have#[t,rfl]:=rx;show SeqAt.EqAt.str_int a t' b t
  |str b=>have#[t,rfl]:=rx;show SeqAt.EqAt.str_str a t' b t
  |_=>show absurd (show mK=hG from fx) A6
 |_=>show absurd (show mK=hG from fy) A6
noncomputable def eqU(x:V)(u:ph):Bool:=match u with
 | .none=>eqV .non x
 | .bool b=>eqV (.bl b) x
 | .int i _=>eqV (.int i) x
 | .str z _=>eqV (.str z) x
 |_=>mK
def zi6(r:yt y u)(f:XD y=hG):eqU x u=eqV y x:=by
 cases y with
 |non=>cases r;rfl
 |bl b=>cases r;rfl
 |int i=>have#[t,rfl]:=r;rfl
 |str z=>have#[t,rfl]:=r;rfl
 |_=>show absurd (show mK=hG from f) A6
theorem zfO:∀{xs:kx V} {us:kx ph},ym xs us->xs.all XD=hG->us.any (eqU x)=xs.any λy=>eqV y x
 |_,_,.nil,_=>rfl
 |y::xs,u::us,.cons r t,f=>by
  rw[CQ,Aj] at f;rw[Bp,Bp,zi6 r f.1,zfO t f.2]
theorem zaM(rx:yt x v)(fx:XD x=hG):∀{xs:kx V} {us:kx ph},ym xs us->xs.all XD=hG->∀u∈us,SeqAt.EqAt A s u v (eqU x u)
 |_,_,.nil,_=>λu hu=>by cases hu
 |y::xs,u::us,.cons r t,f=>λu' hu=>by
  rw[CQ,Aj] at f;rcases x8.mp hu with rfl|hu;rw[zi6 r f.1];show zrU r rx f.1 fx;show zaM rx fx t f.2 u' hu
noncomputable def inV(x:V)(xs:kx V):Bool:=xs.any λy=>eqV y x
def rIn(K:uU)(neg:Bool):R2:=λx y H Q=>∃p xs,y= .ref p/\(SqL K H p xs\/SqT K H p xs)/\XD x=hG/\xs.all XD=hG/\Q (.bl (if neg then !inV x xs else inV x xs)) H
def zfP:OpR X (compareOp .NotIn) (rIn X.K hG):=by
 intro pins s σ H x y v u Q I rx ry h;have#[p,xs,rfl,hq,fx,fs,q]:=h;cases ry;rcases hq with hq|hq;have#[ah,r,pl,hz]:=I.list hq;show SeqAt.notIn_listAt (eqU x) pl.isList (λw hw=>zaM rx fx r fs w (by simpa using hw)) #[.bl _,H,I,rfl,?_];rw[show ah.toArray.any (eqU x)=ah.any (eqU x) by simp,zfO r fs];show q;have#[ah,r,pl,hz]:=I.tuple hq;show SeqAt.notIn_tupleAt (eqU x) pl (λw hw=>zaM rx fx r fs w (by simpa using hw)) #[.bl _,H,I,rfl,?_];rw[show ah.toArray.any (eqU x)=ah.any (eqU x) by simp,zfO r fs];show q
def zfQ:Zt X (.builtin "len") (λxs H Q=>∃p ys,xs=[.ref p]/\(SqL X.K H p ys\/SqT X.K H p ys)/\Q (.int ys.length) H):=by
 intro pins s σ H xs us Q I r h;have#[p,ys,rfl,hq,q]:=h;have#[u,rfl,rx]:=Uh r;cases rx;have hn:=Ug;rcases hq with hq|hq;have#[ah,r',pl,hz]:=I.list hq;have hlen:=r'.length;show Calls.call_len_list pl.isList (by simp only[v9]<;>omega) #[.int ys.length,H,I.tok _,#[s.toks+1,by rw[v9,hlen]],q];have#[ah,r',pl,hz]:=I.tuple hq;have hlen:=r'.length;show len_tuple pl (by simp only[v9]<;>omega) #[.int ys.length,H,I.tok _,#[s.toks+1,by rw[v9,hlen]],q]
def zfR:Zt X (.type "list") (λxs H Q=>∃p ys,xs=[.ref p]/\(SqL X.K H p ys\/SqT X.K H p ys)/\∀l,H l=gi->Q (.ref l) (upd H l (.lst ys))):=by
 intro pins s σ H xs us Q I r h;have#[p,ys,rfl,hq,q]:=h;have#[u,rfl,rx]:=Uh r;cases rx;have fin:∀(ah:kx ph),ym ys ah->ys.length<=FU->∀(h':Heap) (c':Nat),(∀b o',s.heap.get? b=eV o'->h'.get? b=eV o')->
   h'.get? #v[s]=eV {cls:= .type "list",dict:=gi,data:= .seq ah.toArray c',slots:= [].toArray}->EP X pins σ Q (.ref #v[s]) {s with heap:=h'}:=λah r' hz h' c' kp e=>
  #[.ref #v[s],_,I.laid (t':=s.toks) kp (v3 _) (show xb X.prog X.w _ h' _ (.lst ys) from #[hz,ah,c',r',e]),rfl,q _ (I.hok.fresh (v3 _))]
 rcases hq with hq|hq;have#[ah,r',pl,hz]:=I.list hq;have hlen:=r'.length;have#[o,ho,hc,n,hd]:=pl.isList;show call_list_seq p (.inl rfl) ho hc hd (λh' c' kp e=>fin ah r' hz h' c' kp e) (by simp only[v9]<;>omega);have#[ah,r',pl,hz]:=I.tuple hq;have hlen:=r'.length;have#[o,ho,hc,n,hd]:=pl;show call_list_seq p (.inr rfl) ho hc hd (λh' c' kp e=>fin ah r' hz h' c' kp e) (by simp only[v9]<;>omega)
def zel:Zt X (.type "tuple") (λxs H Q=>∃p ys,xs=[.ref p]/\((SqL X.K H p ys/\∀l,H l=gi->Q (.ref l) (upd H l (.tup ys)))\/(SqT X.K H p ys/\Q (.ref p) H))):=by
 intro pins s σ H xs us Q I r h;have#[p,ys,rfl,h]:=h;have#[u,rfl,rx]:=Uh r;cases rx;rcases h with⟨hq,q⟩|⟨hq,q⟩
 .obtain⟨ah,r',pl,hz⟩:=I.list hq;have hlen:=r'.length;show call_tuple_list pl.isList (λh' kp=> ?_) (by simp only[v9]<;>omega);have I1:Inv X pins σ H {s with heap:=h'}:=I.kept (t':=s.toks) kp;have I2:Inv X pins σ (upd H h'.objs.size (.tup ys)) {s with heap:=h'.push {cls:= .type "tuple",data:= .seq ah.toArray}}:=
   I1.laid (t':=s.toks) (λb o e=>Heap.get?_push_of_some _ e) (v3 _) (show xb X.prog X.w _ _ _ (.tup ys) from #[hz,ah,r',YM.new _ _])
  show#[.ref h'.objs.size,_,I2,rfl,q _ (I1.hok.fresh (v3 _))]
 have#[ah,r',pl,hz]:=I.tuple hq;show call_tuple_same pl #[.ref p,H,I,rfl,q]
def tyV(K:uU)(T:String)(x:V)(H:Hp):Prop:=match x with
 | .str _=>T="str"
 | .int _=>T="int"
 | .ref p=>(T="list"/\∃xs,SqL K H p xs)\/(T="tuple"/\∃o,K.lookup p=eV o/\o.cls= .type "tuple"/\o.dict=gi)\/
   (T="dict"/\((∃af,Rd H p (.dK af))\/∃af,H p=eV (.dT af)))\/(T="set"/\∃S n,H p=eV (.set S n))
 |_=>False
def zmO(I:Inv X pins σ H s)(r:yt x v)(ty:tyV X.K T x H):
  s.TypeIs v T/\∀a,v= .ref a->∃ob,s.heap.get? a=eV ob/\ob.dict=gi:=by
 cases x with
 |str z=>
  have#[t,rfl]:=r;cases (show T="str" from ty);show#[typeIs_str s z t,λ_ e=>nomatch e]
 |int i=>
  have#[t,rfl]:=r;cases (show T="int" from ty);show#[typeIs_int s i t,λ_ e=>nomatch e]
 |ref p=>
  cases r;rcases ty with⟨rfl,xs,hq⟩|⟨rfl,o,hk,hc,hd⟩|⟨rfl,hk⟩|⟨rfl,S,n,hk⟩
  .obtain⟨ah,_,pl,_⟩:=I.list hq;show#[pl.isList.typeIs,λa e=> ?_];cases e;have#[o,n,e,c,hd,_]:=pl;show#[o,e,hd]
  .show#[#[o,I.kIn p o hk,hc],λa e=> ?_];cases e;show#[o,I.kIn _ o hk,hd]
  .have z:∃o,s.heap.get? p=eV o/\o.ExactDict:=by
    rcases hk with⟨af,hk⟩|⟨af,hk⟩
    .obtain⟨_,_,_,_,o,_,_,e,ex,_⟩:=hk.ok I.hok;show#[o,e,ex]
    have#[_,_,_,_,o,_,_,e,ex,_]:=I.hok p _ hk;show#[o,e,ex]
   have#[o,e,ex]:=z;show#[#[o,e,ex.1],λa e2=> ?_];cases e2;show#[o,e,ex.2.1]
  have#[o,_,_,_,e,ex,_]:=I.hok p _ hk;show#[#[o,e,ex.1],λa e2=> ?_];cases e2;show#[o,e,ex.2.1]
 |_=>show Au ty
def ztt(K:uU)(T:String)(r:V->kx V->Hp->VK->Prop)(to:TE):TE:=λσ H Q=>to σ H λx H1=>tyV K T x H1/\r x [] H1 Q
def tBM(K:uU)(T:String)(r:V->kx V->Hp->VK->Prop)(to:TE)(t:TA):TE:=λσ H Q=>to σ H λx H1=>tyV K T x H1/\t σ H1 λxs H2=>r x xs H2 Q
variable{o e:Expr}{es:kx Expr}{to:TE}{t:TA}{name:Str}{apos c7:Pos}{T id:String}{r:V->kx V->Hp->VK->Prop}
def zrV(pa:PlainAttrs T)(slot:Slot T name id)(nG:typeOf (.builtin id)=pure (.type "method_descriptor"))(hm:MtR X id r)(ho:PE X o to)
  (ip:GI o name X.env (eval o X.env)=eval o X.env:=by rfl) (hline:(apos.endLine==c7.line)=hG:=by rfl):PE X (.Call (.Attribute o name apos) [] [] c7) (ztt X.K T r to):=by
 intro pins s σ H Q I h;show wpAny_Call_method0_late ip hline (thn (ho pins s σ H _ I h) ?_);intro v s1 #[x,H1,I1,r1,ty,q1];have#[h1,h2]:=zmO I1 r1 ty;show#[T,id,pa,slot,nG,h1,h2,Calls.callWith_builtin rfl (PySem.evalArgs_none (hm pins s1 σ H1 x [] v [] Q I1 r1 .nil q1))]
def zc6(pa:PlainAttrs T)(slot:Slot T name id)(nG:typeOf (.builtin id)=pure (.type "method_descriptor"))(hm:MtR X id r)(ho:PE X o to)(ha:PA X (e::es) t)
  (ip:GI o name X.env (eval o X.env)=eval o X.env:=by rfl)
  (ot:((backTo c7 (FW (e::es) X.env)).all (λx=> !x.1)&&(backToKw c7 (keywordEach [] X.env)).all (λx=>x.1.isSome)
   &&decide ((e::es).length+([]:kx Keyword).length+(if ([]:kx Keyword).isEmpty then 0 else 1)<30))=hG:=by rfl)
  (hline:(apos.endLine==c7.line)=hG:=by rfl) (hs:FW (e::es) X.env=(mK,eval e X.env)::FW es X.env:=by rfl) (jF:(backTo c7 (FW es X.env)).any (·.1)=mK:=by rfl):
  PE X (.Call (.Attribute o name apos) (e::es) [] c7) (tBM X.K T r to t):=by
 intro pins s σ H Q I h;show wpAny_Call_method_late ip ot hline rfl (thn (ho pins s σ H _ I h) ?_);intro v s1 #[x,H1,I1,r1,ty,q1];have#[h1,h2]:=zmO I1 r1 ty;show#[T,id,pa,slot,nG,h1,h2,?_];have hA:=ha c7 pins s1 σ H1 _ I1 q1;rw[hs] at hA ⊢;show Calls.callWith_builtin (by change(mK||(backTo c7 (FW es X.env)).any (·.1))=mK;rw[jF]<;>rfl) (Calls.evalArgs_plain ?_);show thn hA ?_;intro us s2 #[vs,H2,I2,r2,q2];show hm pins s2 σ H2 x vs v us Q I2 r1 r2 q2
end
def MtM(X:Cx)(id:String)(r:V->kx V->Hp->VK->Prop):Prop:=
 ∀(pins:kx (p8×Obj)) (s:pA) (σ:St) (H:Hp) (x:V) (xs:kx V) (v:ph) (us:kx ph) (Q:VK),Inv X pins σ H s->yt x v->ym xs us->r x xs H Q->
  wpAny (model X.prog X.w) X.A (call (.builtin id) (v::us)) (EP X pins σ Q) X.xe s
def ym.one(h:ym [x] us):∃u,us=[u]/\yt x u:=by
 cases h with
 |cons r t=>cases t;show#[_,rfl,r]
theorem ym.zero:∀{us:kx ph},ym [] us->us=[]
 |_,.nil=>rfl
def ym.dropLast(h:ym xs us):ym xs.dropLast us.dropLast:=by
 induction h with
 |nil=>show .nil
 |cons r t ih=>
  cases t with
  |nil=>show .nil
  |cons q t'=>show .cons r ih
def ym.reverse(h:ym xs us):ym xs.reverse us.reverse:=by
 induction h with
 |nil=>show .nil
 |cons r t ih=>rw[CH,CH];show ym.append ih (.cons r .nil)
theorem ym.rep(h:ym xs us):∀k:Nat,ym (z4 k xs).flatten (z4 k us).flatten
 |0=> .nil
 |k+1=>by
  rw[AG,AG,AH,AH];show ym.append h (ym.rep h k)
def zi7{α:Type}(l:kx α):l.eraseIdx (l.length-1)=l.dropLast:=by
 induction l with
 |nil=>rfl
 |cons a r ih=>
  cases r with
  |nil=>rfl
  |cons b r=>
   have e:(a::b::r).length-1=((b::r).length-1)+1:=by
    have h1:(a::b::r).length=r.length+2:=rfl;have h2:(b::r).length=r.length+1:=rfl;omega
   rw[e,List.eraseIdx_cons_succ,ih]
   all_goals rfl
theorem zeZ(ah:kx ph):∀(k:Nat) (acc:kx ph),
  List.foldl (λx1 x2=>x1++x2) acc.toArray (z4 k ah.toArray)=(acc++(z4 k ah).flatten).toArray
 |0,acc=>by simp
 |k+1,acc=>by
  have e:acc.toArray++ah.toArray=(acc++ah).toArray:=by simp
  have e2:(acc++ah)++(z4 k ah).flatten=acc++(z4 (k+1) ah).flatten:=by
   rw[AG,AH,C6]
  rw[<-e2,<-zeZ ah k (acc++ah),<-e,AG,D5]
section
def Inv.lset{ah its':kx ph}{n:Nat}{f:Array ph->Array ph}{t':Nat}(I:Inv X pins σ H s)(hH:H l=eV (.lst xs))
  (e:s.heap.get? l=eV {cls:= .type "list",data:= .seq ah.toArray n}) (hf:f ah.toArray=its'.toArray) (hv:ym ys its') (hz:ys.length<=FU):
  Inv X pins σ (upd H l (.lst ys)) {s with heap:=s.heap.update l (Obj.mapSeq f),toks:=t'}:=by
 have q:=PySem.IsL.update e f;rw[hf] at q;show I.write (x:=l) (e:=l) (by rw[hH];show trivial) (.inl rfl) (λb' u hb hu=>(Heap.get?_update_other s.heap (Obj.mapSeq f) (AX hb)).trans hu) #[_,q] ?_;show#[hz,its',_,hv,q]
def Inv.lnew(I:Inv X pins σ H s)(hv:ym ys ah)(hz:ys.length<=FU):
  Inv X pins σ (upd H #v[s] (.lst ys)) {s with heap:=s.heap.push {cls:= .type "list",data:= .seq ah.toArray},toks:=t'}:=
 I.laid (λ_ _ q=>Heap.get?_push_of_some _ q) (v3 _) #[hz,ah,0,hv,Heap.get?_push_size _ rfl]
def Inv.fresh(I:Inv X pins σ H s):H #v[s]=gi:=I.hok.fresh (v3 _)
def Inv.lstM(I:Inv X pins σ H s)(hH:H l=eV (.lst xs)):xs.length<=FU/\∃(ah:kx ph) (n:Nat),ym xs ah/\xs.length=ah.length/\s.heap.get? l=eV {cls:= .type "list",data:= .seq ah.toArray n}:=by
 have#[z,ah,n,r,e]:=I.hok l _ hH;show#[z,ah,n,r,r.length,e]
def zmP(h:n<=FU):Builtin.List.listTooLong n=mK:=by
 unfold Builtin.List.listTooLong;show decide_eq_false ⋯
end
def zku:V->kx V->Hp->VK->Prop:=λx vs H Q=>∃l xs y,x= .ref l/\vs=[y]/\H l=eV (.lst xs)/\xs.length<FU/\Q .non (upd H l (.lst (xs++[y])))
def WG:MtM X "list.append" zku:=by
 intro pins s σ H x vs v us Q I rx rv h;have#[l,xs,y,rfl,rfl,hH,hz,q]:=h;cases rx;have#[u,rfl,ru]:=rv.one;have#[z,ah,n,r,hl,e]:=I.lstM hH;show call_meets F.slot_list_append #[_,e,rfl] F.entry_list_append (F.args_list_append_2 _ _) (PySem.list_append l ah.toArray n u (by rw[v9];omega)) #[e,?_];show#[.non,_,I.lset (its':=ah++[u]) hH e (by simp) (r.append (.cons ru .nil)) ?_,rfl,q];rw[y7,List.length_singleton];omega
def ztu:V->kx V->Hp->VK->Prop:=λx vs H Q=>∃l xs y,x= .ref l/\vs=[]/\H l=eV (.lst xs)/\xs[xs.length-1]? =eV y/\Q y (upd H l (.lst xs.dropLast))
def zrW:MtM X "list.pop" ztu:=by
 intro pins s σ H x vs v us Q I rx rv h;have#[l,xs,y,rfl,rfl,hH,hy,q]:=h;cases rx;have rP:=rv.zero;subst rP;have#[z,ah,n,r,hl,e]:=I.lstM hH;have#[u,hu,ru]:=r.get hy;have rE:ah.toArray[ah.toArray.size-1]? =eV u:=by
  change ah.toArray[ah.length-1]? =eV u;rw[<-BG,<-hl];show hu
 show call_meets F.slot_list_pop #[_,e,rfl] F.entry_list_pop (F.args_list_pop_1 _) (MeetsSeq.list_pop_last l ah.toArray n u rE (by rw[v9];omega)) #[e,?_];show#[y,_,I.lset (its':=ah.dropLast) hH e ?_ r.dropLast ?_,ru,q];change ah.toArray.eraseIdxIfInBounds (ah.toArray.size-1)=ah.dropLast.toArray;rw[v9,List.eraseIdxIfInBounds_toArray,zi7];rw[Eo];omega
def zkv{α:Type}(xs:kx α)(k:Nat):(z4 k xs).flatten.length=k*xs.length:=by
 induction k with
 |zero=>simp
 |succ k ih=>rw[AG,AH,y7,ih,Ax,EI]
section
variable{w:World}
end
section
variable{κ:Type}[DecidableEq κ]
noncomputable def VY(af:kx (κ×V))(k:κ):pf V:=(af.find? λkv=>decide (kv.1=k)).map (·.2)
noncomputable def zbD(af:kx (κ×V))(k:κ)(v:V):kx (κ×V):=
 if (af.any λkv=>decide (kv.1=k))=hG then af.map (λkv=>if kv.1=k then (kv.1,v) else kv) else af++[(k,v)]
def zc7{p:κ×V}{r:kx (κ×V)}{k:κ}(e:p.1=k):VY (p::r) k=eV p.2:=by simp[VY,A5,e]
def zc8{p:κ×V}{r:kx (κ×V)}{k:κ}(e:¬p.1=k):VY (p::r) k=VY r k:=by simp[VY,A5,e]
theorem zhn(k:κ):∀af:kx (κ×V),(af.any λkv=>decide (kv.1=k))=(VY af k).isSome
 |[]=>rfl
 |p::r=>by
  rw[Bp];by_cases e:p.1=k;simp only[zc7 e,decide_eq_true e,Bool.true_or,EJ];rw[zc8 e,decide_eq_false e,Bool.false_or];show zhn k r
def zca(af:kx (κ×V))(k:κ)(v:V):(zbD af k v).length<=af.length+1:=by
 unfold zbD;split;rw[uZ];omega;rw[y7,y4,Aw];omega
def WW.isSome_eq(r:WW o u):o.isSome=u.isSome:=by
 cases o with
 |none=>cases u with
  |none=>rfl
  |some _=>show(show False from r).elim
 |some _=>cases u with
  |none=>show(show False from r).elim
  |some _=>rfl
def KV.val{af:kx (κ×V)}{vs:kx (κ×ph)}(r:KV af vs)(k:κ):WW (VY af k) (valueAt vs k):=by
 unfold KV at r
 induction r with
 |nil=>show AY
 | @cons p q ps qs h t ih=>
  have#[h1,h2]:=h;by_cases e:p.1=k
  .have e':q.1=k:=h1.symm.trans e;have b:valueAt (q::qs) k=eV q.2:=by simp[valueAt,A5,e']
   rw[zc7 e,b];show h2
  have e':¬q.1=k:=λz=>e (h1.trans z);have b:valueAt (q::qs) k=valueAt qs k:=by simp[valueAt,A5,e']
  rw[zc8 e,b];show ih
def KV.any{af:kx (κ×V)}{vs:kx (κ×ph)}(r:KV af vs)(k:κ):(af.any λkv=>decide (kv.1=k))=vs.any λkv=>decide (kv.1=k):=by
 unfold KV at r
 induction r with
 |nil=>rfl
 |cons h t ih=>rw[Bp,Bp,ih,h.1]
def KV.repl{af:kx (κ×V)}{vs:kx (κ×ph)}(r:KV af vs)(k:κ){y:V}{u:ph}(ry:yt y u):
  KV (af.map λkv=>if kv.1=k then (kv.1,y) else kv) (vs.map λkv=>if kv.1=k then (kv.1,u) else kv):=by
 unfold KV at r ⊢
 induction r with
 |nil=>show .nil
 | @cons p q ps qs h t ih=>
  rw[y8,y8];show .cons ?_ ih;have#[h1,h2]:=h;by_cases e:p.1=k;rw[GO e,GO (h1.symm.trans e)];show#[h1,ry];rw[GP e,GP (λz=>e (h1.trans z))];show#[h1,h2]
def KV.put{af:kx (κ×V)}{vs:kx (κ×ph)}(r:KV af vs)(k:κ){y:V}{u:ph}(ry:yt y u):KV (zbD af k y) (stored vs k u):=by
 unfold zbD stored;rw[r.any k];by_cases e:(vs.any λkv=>decide (kv.1=k))=hG;rw[GO e,GO e];show r.repl k ry;rw[GP e,GP e];show Paired.snoc r #[rfl,ry]
def KV.length{af:kx (κ×V)}{vs:kx (κ×ph)}(r:KV af vs):af.length=vs.length:=Paired.length r
end
def zkw{P:Program}(r:yt (kV k) u):(vq P w).is k u=hG:=by
 cases k with
 |inl i=>have#[t,e]:=(show ∃t,u=Value.int i t from r);subst e;show zhe P w i t
 |inr x=>have#[t,e]:=(show ∃t,u=Value.str x t from r);subst e;show zhf P w x t
theorem ze0{P:Program}:∀{ks:kx Key} {us:kx ph},ym (ks.map kV) us->ItemsAre (vq P w) ks us
 |[],_,r=>by rw[FN] at r;cases r;show .nil
 |k::ks,_,r=>by
  rw[y8] at r;cases r with
  |cons h t=>show .cons (zkw h) (ze0 t)
noncomputable abbrev KT(H:Hp):kx (kx Key×V)->kx (kx Key×p8×ph)->Prop:=Paired λp q=>p.1=q.1/\H q.2.1=eV (.tup (p.1.map kV))/\yt p.2 q.2.2
def KT.val(r:KT H af xs)(k:kx Key):WW (VY af k) ((atKey xs k).map (·.2)):=by
 induction r with
 |nil=>show AY
 | @cons p q ps qs h t ih=>
  have#[h1,_,h2]:=h;by_cases e:p.1=k
  .have e':q.1=k:=h1.symm.trans e;have b:atKey (q::qs) k=eV q.2:=by simp[atKey,A5,e']
   rw[zc7 e,b];show h2
  have e':¬q.1=k:=λz=>e (h1.trans z);have b:atKey (q::qs) k=atKey qs k:=by simp[atKey,A5,e']
  rw[zc8 e,b];show ih
def KT.repl(r:KT H af xs)(k:kx Key)(ry:yt y u):
  KT H (af.map λkv=>if kv.1=k then (kv.1,y) else kv) (xs.map (putAt k u)):=by
 induction r with
 |nil=>show .nil
 | @cons p q ps qs h t ih=>
  rw[y8,y8];show .cons ?_ ih;have#[h1,h2,h3]:=h;unfold putAt;by_cases e:p.1=k;rw[GO e,GO (h1.symm.trans e)];show#[h1,h2,ry];rw[GP e,GP (λz=>e (h1.trans z))];show#[h1,h2,h3]
def KT.put(r:KT H af xs)(k:kx Key)(hb:H b=eV (.tup (k.map kV)))(ry:yt y u):
  KT H (zbD af k y) (storedH xs k b u):=by
 have e:(af.any λkv=>decide (kv.1=k))=(atKey xs k).isSome:=by
  rw[zhn,(r.val k).isSome_eq,CI]
 unfold zbD storedH;rw[e];by_cases q:(atKey xs k).isSome=hG;rw[GO q,GO q];show r.repl k ry;rw[GP q,GP q];show Paired.snoc r #[rfl,hb,ry]
def KT.keeps(r:KT H af xs)(ht:∀b ys,H b=eV (.tup ys)->H' b=eV (.tup ys)):KT H' af xs:=
 Paired.mapP r λ_ _ z=>#[z.1,ht _ _ z.2.1,z.2.2]
section
variable{P:Program}
def zq5(ok:HOk P w H h)(e:Rd H a u):xb P w H h a u:=e.ok ok
def zkx(ok:HOk P w H h)(e:Rd H a (.dK af)):af.length<=FU/\(a==Gk)=mK/\∃vs,KV af vs/\h.DictOf (vq P w) a vs:=
 show xb P w H h a (.dK af) from zq5 ok e
def zq6(ok:HOk P w H h)(e:H a=eV (.dK af)):af.length<=FU/\(a==Gk)=mK/\∃vs,KV af vs/\h.DictOf (vq P w) a vs:=zkx ok (.inl e)
def zfS(ok:HOk P w H h)(e:H a=eV (.tup (ks.map kV))):(tupleKind (vq P w)).is h ks a:=by
 have#[_,ah,r,o,h1,h2,n,h3]:=(show xb P w H h a (.tup (ks.map kV)) from ok a _ e);show#[o,ah.toArray,n,h1,h2,h3.1,by simpa using ze0 r]
def zky(ok:HOk P w H h)(e:Rd H a (.dT af)):af.length<=FU/\(a==Gk)=mK/\
  ∃xs,KT H af xs/\h.DictOfH (tupleKind (vq P w)) a xs:=by
 have#[z,y,xs,r,o,es,ep,h1,h2,h3,h4,h5]:=(show xb P w H h a (.dT af) from zq5 ok e);show#[z,y,xs,r,o,es,ep,h1,h2,h3,h4,λx hx=> ?_,h5];have all:∀{l:kx (kx Key×V)} {m:kx (kx Key×p8×ph)},KT H l m->∀x∈m,(tupleKind (vq P w)).is h x.1 x.2.1:=by
  intro l m q
  induction q with
  |nil=>intro x hx;show nomatch hx
  | @cons p q ps qs hq t ih=>
   intro x hx;rcases x8.mp hx with e|hx;subst e;show zfS ok (by rw[<-hq.1];show hq.2.1);show ih x hx
 show all r x hx
def ztv(ok:HOk P w H h)(e:H a=eV (.dT af)):af.length<=FU/\(a==Gk)=mK/\
  ∃xs,KT H af xs/\h.DictOfH (tupleKind (vq P w)) a xs:=zky ok (.inl e)
end
def zbE(H:Hp)(a:p8)(y:V)(r:pf V):Prop:=
 (∃af k,Rd H a (.dK af)/\y=kV k/\r=VY af k)\/∃af k b,Rd H a (.dT af)/\y= .ref b/\H b=eV (.tup (k.map kV))/\r=VY af k
def zi8(H:Hp)(a:p8)(y v:V)(H':Hp):Prop:=
 (∃af k,H a=eV (.dK af)/\y=kV k/\af.length<FU/\H'=upd H a (.dK (zbD af k v)))\/
 ∃af k b,H a=eV (.dT af)/\y= .ref b/\H b=eV (.tup (k.map kV))/\af.length<FU/\H'=upd H a (.dT (zbD af k v))
def zbE.k{a:p8}{af:kx (Key×V)}{k:Key}(e:H a=eV (.dK af)):zbE H a (kV k) (VY af k):= .inl #[af,k,.inl e,rfl,rfl]
def zi8.k{a:p8}{af:kx (Key×V)}{k:Key}{v:V}(e:H a=eV (.dK af))(hl:af.length<FU):zi8 H a (kV k) v (upd H a (.dK (zbD af k v))):= .inl #[af,k,e,rfl,hl,rfl]
section
def Inv.big(I:Inv X pins σ H s):Gk<#v[s]:=by
 have h:FV<#v[s]:=(I.mod.glob.keeps I.bk).lt;show Nat.lt_trans ∅ h
def ze1(hu:A.units+1<cLine)(I:Inv X pins σ H s)(g:zbE H a y (eV v))(ry:yt y u)(h:∀w' s',Inv X pins σ H s'->yt v w'->Q w' s'):
  wpAny (model X.prog X.w) A (getItem (.ref a) u) Q E s:=by
 rcases g with⟨af,k,e,ey,l⟩|⟨af,k,b,e,ey,eb,l⟩
 .subst ey;have#[z,hd,vs,rel,dd]:=zkx I.hok e;have#[w',hw,rw']:=WW.some_of (v:=v) (o:=valueAt vs k) (by rw[l];show rel.val k);show wpAny_getItem_of (zkw ry) dd.mapOf hw (h w' _ (I.tok _) rw')
 subst ey;cases (show u=Value.ref b from ry);have#[z,hd,xs,rel,dd]:=zky I.hok e;have#[w',hw,rw']:=WW.some_of (v:=v) (o:=(atKey xs k).map (·.2)) (by rw[l];show rel.val k);have#[p,hp,kT]:=y3.mp hw;show wpAny_getItem_heap (tupleKind_room_in1 hu) (zfS I.hok eb) dd hp ?_;rw[kT];show h w' _ (I.tok _) rw'
def zkz(hu:A.units+1<cLine)(I:Inv X pins σ H s)(g:zbE H a y o)(ry:yt y u)(h:∀s',Inv X pins σ H s'->Q (.bool (!o.isSome)) s'):
  wpAny (model X.prog X.w) A (compareOp .NotIn u (.ref a)) Q E s:=by
 rcases g with⟨af,k,e,ey,l⟩|⟨af,k,b,e,ey,eb,l⟩
 .subst ey;have#[z,hd,vs,rel,dd]:=zkx I.hok e;show wpAny_notIn_of (zkw ry) hd dd.mapOf ?_;rw[<-(rel.val k).isSome_eq,<-l];show h _ (I.tok _)
 subst ey;cases (show u=Value.ref b from ry);have#[z,hd,xs,rel,dd]:=zky I.hok e;show wpAny_notIn_heap (tupleKind_room_in1 hu) (zfS I.hok eb) hd dd ?_;have q:=(rel.val k).isSome_eq;rw[CI] at q;rw[<-q,<-l];show h _ (I.tok _)
def zaN(I:Inv X pins σ H s)(mu:Mut (H a))(hs:Heap.SameBut a s.heap h')(he:∃q,h'.get? a=eV q)(new:xb X.prog X.w (upd H a ob) h' a ob):
  Inv X pins σ (upd H a ob) {s with heap:=h',toks:=t'}:=
 I.write (x:=a) (e:=a) mu (.inl rfl) (λb q hb z=>(hs.2 b hb).trans z) he new
def zrX{P:Program}(z:af.length<=FU)(hd:(a==Gk)=mK)(rel:KV af vs)(dd:h'.DictOf (vq P w) a vs):
  xb P w H' h' a (.dK af):=#[z,hd,vs,rel,dd]
def ze2{Q:Unit->pA->Prop}(hu:A.units+1<cLine)(I:Inv X pins σ H s)(g:zi8 H a y v H')(ry:yt y u)(rv:yt v r)(h:∀s',Inv X pins σ H' s'->Q () s'):
  wpAny (model X.prog X.w) A (setItem (.ref a) u r) Q E s:=by
 rcases g with⟨af,k,e,ey,l,eH⟩|⟨af,k,b,e,ey,eb,l,eH⟩
 .subst ey eH;have#[z,hd,vs,rel,dd]:=zq6 I.hok e;have hz:vs.length<=FU:=by rw[<-rel.length];show z
  have hl:(zbD af k v).length<=FU:=by have:=zca af k v;omega
  show wpAny_setItem_pairs (hsz:=hz) (zkw ry) dd λh' dd' hs=>h _ ?_;have he:∃q,h'.get? a=eV q:=let ⟨q,_,_,hq,_⟩:=dd';#[q,hq];show zaN I (by rw[e];show AY) hs he (zrX hl hd (rel.put k rv) dd')
 subst ey eH;cases (show u=Value.ref b from ry);have#[z,hd,xs,rel,dd]:=ztv I.hok e;have hz:xs.length<=FU:=by rw[<-Paired.length rel];show z
 have hl:(zbD af k v).length<=FU:=by have:=zca af k v;omega
 show wpAny_setItem_heap (hsz:=hz) (tupleKind_room_in1 hu) (zfS I.hok eb) dd λh' dd' hs=>h _ ?_;have#[q,es,ep,hq,h2,h3,h4,_,h5]:=dd';show zaN I (by rw[e];show AY) hs #[q,hq] #[hl,hd,_,(rel.put k eb rv).keeps λc ys ec=> ?_,q,es,ep,hq,h2,h3,h4,h5];rw[zS (zs9 ec e (λz=>nomatch z))];show ec
end
section
variable{a:p8}{af:kx (Key×V)}{k:Key}{u:ph}
end
def zrY(i:Expr):Prop:=∀ov iv,subscripted i mK ov iv=operate [ov,iv] (getItem ov iv)
def zkA{w:World}{env:Env}{value slice:Expr}{pos:Pos}{T id:String}
  (hl:typeLookup (.type T) "__getitem__"=pure (eV (.builtin id))) (hs:zrY slice)
  (h:wpAny (model prog w) A (eval value env) (λo s₁=>wpAny (model prog w) A (eval slice env) (λi s₂=>s₂.TypeIs o T/\wpAny (model prog w) A (getItem o i) Q E s₂) E s₁) E s):
  wpAny (model prog w) A (eval (.Subscript value slice pos) env) Q E s:=by
 show Subscript_ (Gi h (λo s₁ h₁=>Gi h₁ (λi s₂ h₂=> ?_) λ_ _ x=>x) λ_ _ x=>x);have#[hT,h₂]:=h₂;unfold subscriptTail;show qR ?_;rw[getitemInPython_of_ne hT.not_modules];show qR (Gh hT hl ?_);have fin:wpAny (model prog w) A (subscripted slice mK o i) (λr s₃=>wpAny (model prog w) A (letTemporaryGo value o r>>=λ_=>pure r) Q E s₃) E s₂:=by
  rw[hs o i];show wpAny_operating (Gi h₂ (λr s₃ h₃=>qR (wpAny_letTemporaryGo (uh h₃))) λ_ _ x=>x)
 first
  |exact uh (qR fin)
  |exact qR (uh (qR fin))
  |exact qR fin
def zcb(I:Inv X pins σ H s)(g:zbE H a y o):s.TypeIs (.ref a) "dict":=by
 rcases g with⟨af,k,e,_,_⟩|⟨af,k,b,e,_,_,_⟩
 .obtain⟨_,_,vs,_,dd⟩:=zkx I.hok e;show dd.typeIs
 have#[_,_,xs,_,dd]:=zky I.hok e;show dd.typeIs
def zq7(td ty:TE):TE:=λσ H Q=>td σ H λx H1=>ty σ H1 λy H2=>∃a v,x= .ref a/\zbE H2 a y (eV v)/\Q v H2
def zkB(ty td:TE):TE:=λσ H Q=>ty σ H λy H1=>td σ H1 λx H2=>∃a o,x= .ref a/\zbE H2 a y o/\Q (.bl (!o.isSome)) H2
def zq8(td ty tv:TE):TS:=λD σ H=>tv σ H λv H1=>td σ H1 λx H2=>ty σ H2 λy H3=>∃a H4,x= .ref a/\zi8 H3 a y v H4/\D.nx σ H4
section
def zpA(hu:X.A.units+1<cLine)(ho:PE X o td)(hi:PE X i ty)(hs:zrY i):PE X (.Subscript o i pos) (zq7 td ty):=by
 intro pins s σ H Q I h;show zkA Dz.lookup hs (thn (ho pins s σ H _ I h) ?_);intro u s1 #[x,H1,I1,rx,q1];show thn (hi pins s1 σ H1 _ I1 q1) ?_;intro iv s2 #[y,H2,I2,ry,a,v,ex,g,q2];subst ex;obtain rfl:u=Value.ref a:=rx;show#[zcb I2 g,ze1 hu I2 g ry λw' s3 I3 rw'=>#[v,H2,I3,rw',q2]]
def zlA(hu:X.A.units+1<cLine)(hi:PE X i ty)(ho:PE X o td):PC X .NotIn i o (zkB ty td):=by
 intro pins s σ H Q I h;show thn (hi pins s σ H _ I h) ?_;intro iv s1 #[y,H1,I1,ry,q1];show thn (ho pins s1 σ H1 _ I1 q1) ?_;intro u s2 #[x,H2,I2,rx,a,ov,ex,g,q2];subst ex;obtain rfl:u=Value.ref a:=rx;show zkz hu I2 g ry λs3 I3=>#[.bl (!ov.isSome),H2,I3,rfl,q2]
def zpB(hu:X.A.units+1<cLine)(ho:PE X o td)(hi:PE X i ty)(hv:PE X value tv)(hs:swapsWith value (eV (.Subscript o i pos')) pos.line X.env=pure mK):
  PS X (.Assign [.Subscript o i pos'] value pos) (zq8 td ty tv):=by
 intro pins s σ H D I h;show wpAny_Assign_Subscript (thn (hv pins s σ H _ I h) ?_) hs;intro r s1 #[v,H1,I1,rv,q1];show thn (ho pins s1 σ H1 _ I1 q1) ?_;intro u s2 #[x,H2,I2,rx,q2];show thn (hi pins s2 σ H2 _ I2 q2) ?_;intro iv s3 #[y,H3,I3,ry,a,H4,ex,g,q3];subst ex;obtain rfl:u=Value.ref a:=rx;show ze2 hu I3 g ry rv λs4 I4=>#[σ,H4,I4,q3]
end
def zmQ{P:Program}(h:Heap)(hb:Gk<h.objs.size):xb P w H (h.push {cls:= .type "dict",data:= .dict [].toArray}) h.objs.size (.dK []):=
 #[BK _,beq_eq_false_iff_ne.mpr (AX (z8 hb)),[],.nil,Heap.DictOf.new h]
def zmR:TE:=λ_ H Q=>∀p,H p=gi->Q (.ref p) (upd H p (.dK []))
section
def WH:PE X (.Dict [] [] pos) zmR:=λpins s σ H Q I h=>
 wpAny_Dict_empty #[.ref #v[s],_,I.laid (a:=#v[s]) (o:= .dK []) (t':=s.toks) (λ_ _ q=>Heap.get?_push_of_some _ q) (v3 _) (zmQ s.heap I.big),rfl,h _ (I.hok.fresh (v3 _))]
end
section
variable{a:p8}{y d:V}{u r:ph}{o:pf V}
end
section
variable{o e f:Expr}{apos c7:Pos}{td ty tx:TE}
end
section
variable{a:p8}{af:kx (Key×V)}
end
section
variable{a:p8}{y:V}{u:ph}
end
end L2
namespace Att
open PySem.W PySem.Calls
def zcA{P:Params}:∀(ns:kx Int) (vs:kx ph),WellAll P h vs (ns.map WData.int)->IntsAre vs ns:=by
 intro ns
 induction ns with
 |nil=>
  intro vs w;rw[FN] at w;cases w;show .nil
 |cons n ns ih=>
  intro vs w;rw[y8] at w;cases w with
  |cons a b=>
   cases a;show .cons _ _ (ih _ b)
def zlB{l:OpenLaw}{n:Nat}(hn:l.most=eV n){P:Params}{h:Heap}{args:kx WData}{vals:kx ph}
  (iS:l.row.toRowW.claim.pre args=hG) (jC:WellAll P h vals args):
  ∃a vs ns,vals=[Value.ref a]/\args=[WData.list (ns.map WData.int)]/\h.get? a=eV {cls:= .type "list",data:= .seq vs.toArray}/\IntsAre vs ns/\ns.length<=n:=by
 have si:WShape.hasAll [] args [.list .int]=hG:=(pre_splitW iS).1;have hc:l.pre.holds [] {args:=args}=hG:=(pre_splitW iS).2;have#[d,r,rfl,h1,h2]:=hasAllW_cons si;obtain rfl:=hasAllW_nil h2;have#[xs,rfl,h3]:=hasW_list h1;have#[ns,rfl]:=items_int h3;have hlen:ns.length<=n:=by
  unfold OpenLaw.pre at hc;have h4:(WTm.not (.lt (.lit (.int (n:Int))) (.len (.arg 0)))).holds [] {args:=[.list (ns.map .int)]}=hG:=by
   have h4:=(holds_andW hc).1;rw[hn] at h4;show h4
  have h5:=condW_of h4 (w_not (w_lt w_lit (w_len_list (w_arg rfl))));rw[uZ] at h5;show Nat.le_of_not_lt λq=> ?_;have q':(n:Int)<((ns.length:Nat):Int):=by omega
  first
   |(rw[decide_eq_true q'] at h5;show absurd h5 ∅)
   |(simp at h5;omega)
 cases jC with
 |cons w1 w2=>
  cases w2;cases w1 with
  |list ho f7=>show#[_,_,ns,rfl,rfl,ho,zcA ns _ f7,hlen]
def zlC(l:OpenLaw)(args:kx WData):l.row.toRowW.claim.post args (.bool hG) args=hG:=
 postW_of (r:=l.row.toRowW) (X:=(hG==hG))
  (show WShape.has [] (.bool hG) .bool=hG by first|rfl|decide|simp[WShape.has,WShape.arms,WShape.armsAll])
  (show(WTm.eq .res (.lit (.bool hG))).value [] {args:=args,res:=eV (.bool hG),after:=args}=eV (.bool (hG==hG)) from w_eq_bool (w_res rfl) w_lit) rfl
def zho{l:OpenLaw}{n:Nat}{q:Program}{loose:kx Str}{XP:(Str->pf ph)->Heap->Prop}{YP:World->Heap->Prop}{d:DefRec}
  (hn:l.most=eV n) (ls:d.params.defaults=[])
  (call:∀(w:World) (s₀ s₁:pA) (mg mb:Str->pf ph) (fa:p8) (o:Obj) (pm cd doc:ph) (a:p8) (vs:kx ph) (ns:kx Int),
   Ground q loose [] XP w s₀ mg mb s₁.heap->YP w s₁.heap->
   s₁.heap.get? fa=eV o->o.data= .func (docDef d.name d.params d.body d.scope pm cd doc)->s₁.heap.CodeRec cd d.name->mg d.name=eV (.ref fa)->
   s₁.heap.get? a=eV {cls:= .type "list",data:= .seq vs.toArray}->IntsAre vs ns->ns.length<=n->s₁.gens= [].toArray->
   GL (model l.prog w) callerA (.call (.ref fa) #[[.ref a],[]]) (λr s'=>r= .ok (.ret (.bool hG))/\OldK s₁.heap s'.heap/\s'.os=s₁.os/\AllBare s'.gens) s₁):
  WalkO q loose XP YP l.row.toRowW d [] (λf vs=>Fo f vs):=by
 intro w s₀ s₁ mg mb G Y fa o pm cd doc dV kV ho hd dI hD jK hg args vals as iS sE pY jC uC;obtain rfl:dV= .none:=Dflts.none hD ls;obtain rfl:kV= .none:=Dflts.noKw hD;have#[a,vs,ns,rfl,rfl,jI,hints,hlen]:=zlB hn iS jC;show enter_call (codeAny_mono (call w s₀ s₁ mg mb fa o pm cd doc a vs ns G Y ho (fd_plain hd) dI jK jI hints hlen hg) λr s' hq=> ?_);have#[rfl,h2,h3,h4]:=hq;show#[.inl #[.bool hG,.bool hG,[],rfl,λ_=>rfl,.bool hG,zlC l _,λ_=>#[F1,λ_ hm=>(nomatch hm)]],h2,h3,h4]
section
variable{w:World}{K:Frag}
end
end Att
namespace L2
theorem ze3:∀{vs:kx ph} {ns:kx Int},IntsAre vs ns->ym (ns.map V.int) vs
 |_,_,.nil=> .nil
 |_,_,.cons n t h=> .cons #[t,rfl] (ze3 h)
noncomputable def xh(s:Stmt)(j:Nat):Stmt:=match s with
 | .ClassDef _ _ _ body _ _ _ _ _ _ _=>body.getD j (.Pass #[0,0,0,0])
 |_=> .Pass #[0,0,0,0]
noncomputable def Va(s:Stmt):Arguments:=match s with
 | .FunctionDef _ a _ _ _ _ _ _ _ _=>a
 |_=>{posonlyargs:=[],args:=[],vararg:=gi,kwonlyargs:=[],kw_defaults:=[],kwarg:=gi,defaults:=[]}
noncomputable def vI(s:Stmt):kx Stmt:=match s with
 | .FunctionDef _ _ b _ _ _ _ _ _ _=>b
 |_=>[]
noncomputable def zr(s:Stmt):Scope:=match s with
 | .FunctionDef _ _ _ _ _ _ sc _ _ _=>sc
 |_=>{kind:= .function,names:=[],isGenerator:=mK,isCoroutine:=mK}
noncomputable abbrev E0:XK:=λ_ _ _=>False
structure Fun(K:uU)(x qual:Str)(st:Stmt)(f:p8)(fd:Gn):Prop where
 ex:∃(oc:ph) (od:pf p8) (kV doc pm:ph) (an:pf p8) (bZ ct:ph) (gj:Array (pf ph)),
  fd=BD x qual (Va st) (vI st) (zr st) .none kV doc pm an bZ ct/\K.lookup f=eV #[oc,od,.func fd,gj]/\Cu K bZ qual=hG
 kp:Bt K (.ref f)=hG
section
variable{P:Program}{w:World}{mg:Str->pf ph}{base:Heap}
def Fun.binds{x qual:Str}{st:Stmt}{f:p8}{fd:Gn}{ps:kx Str}(F:Fun K x qual st f fd)
  (h:∀(kV doc pm:ph) (an:pf p8) (bZ ct:ph) (us:kx ph),us.length=ps.length->bindArgs (BD x qual (Va st) (vI st) (zr st) .none kV doc pm an bZ ct) #[us,[]]=pure (ps.zip us)):TQ K fd ps []:=by
 have#[oc,od,kV,doc,pm,an,bZ,ct,gj,rfl,lk,dI]:=F.ex;show .all (h kV doc pm an bZ ct)
def zmS{x qual:Str}{st:Stmt}{f:p8}{oc:ph}{od an:pf p8}{gj:Array (pf ph)}{kV doc pm bZ ct:ph}(l:K.lookup f=eV #[oc,od,.func (BD x qual (Va st) (vI st) (zr st) .none kV doc pm an bZ ct),gj])
  (c:Cu K bZ qual=hG) (k:Bt K (.ref f)=hG):Fun K x qual st f (BD x qual (Va st) (vI st) (zr st) .none kV doc pm an bZ ct):=#[#[oc,od,kV,doc,pm,an,bZ,ct,gj,rfl,l,c],k]
end
def zmT(hr:wC k A):A.units+1<cLine:=y0 (Dc (by decide:1<=64) _) hr.units
def pv(i:Nat){x:Str}{pos:Pos}(hN:X.N[i]? =eV x:=by rfl)(hv:Vis X.env.scope x:=by (first|exact .inl rfl|exact .inr (.inl rfl)|exact .inr (.inr rfl)))(hd:(x==("__debug__":Str))=mK:=by decide)
  (dI:(x==("__classdict__":Str))=mK:=by decide):PE X (.Name x pos) (zry i):=zms hN hv hd dI
def YS(H H':Hp):Prop:=∀b o,H b=eV o->H' b=eV o
def YS.refl(H:Hp):YS H H:=λ_ _ h=>h
section
variable{κ:Type}[DecidableEq κ]
end
def Uj{R:Result->pA->Prop}(I:Nat->pA->Prop)
  (turn:∀n s,I n s->wpAny (model prog w) A (pyNext it) (λr s₁=>match r with
   |none=>R (.ok .next) s₁
   |some v=>wpAny (model prog w) A (letOwnedTupleGo tg it v) (λ_ s₁'=>wpAny (model prog w) A (assign tg env v) (λ_ s₂=>
     wpAny (model prog w) A (forIn ifs hG λc r=>if r=hG then do let ok <-isTrue c env (eval c env);pure (BZ ok) else pure (BZ r)) (λok s₃=>
      if ok=hG then wpAny (model prog w) A (eval elt env) (λx s₄=>
       wpAny (model prog w) A (call (.builtin "list.append") [acc,x]) (λ_ s₅=>∃m,m<n/\I m s₅) (λ_ _=>False) s₄) (λ_ _=>False) s₃
      else ∃m,m<n/\I m s₃) (λ_ _=>False) s₂)
     (λ_ _=>False) s₁') (λ_ _=>False) s₁) (λ_ _=>False) s)
  (n:Nat) (h:I n s):GL (model prog w) A (.compLoop (.ListComp elt [#[tg,iter,ifs,0]] scope pos) 0 it acc env) R s:=by
 show codeAny_loop rfl I (λn s hI=> ?_) n h;change wpAny _ A ((compTurn (.ListComp elt [#[tg,iter,ifs,0]] scope pos) 0 it acc env).onRaise (λx=>do noteFrame x env;theTreesLotGoes x)) _ _ s;show wpAny_noted ?_;rw[compTurn_list];show qR (wpAny_standAt (qR (Gi (turn n s hI) (λr s₁ h₁=> ?_) λ_ _ h'=>h'.elim)));cases r with
 |none=>show uh h₁
 |some v=>
  show qR (Gi h₁ (λ_ s₁' h₁'=> ?_) λ_ _ h'=>h'.elim);show qR (Gi h₁' (λ_ s₂ h₂=>qR (Gi h₂ (λok s₃ h₃=> ?_) λ_ _ h'=>h'.elim)) λ_ _ h'=>h'.elim);cases ok with
  |false=>show uh #[rfl,h₃]
  |true=>
   show qR (qR (Gi h₃ (λx s₄ h₄=>qR (Gi h₄ (λ_ s₅ h₅=>uh (uh #[rfl,h₅])) λ_ _ h'=>h'.elim)) λ_ _ h'=>h'.elim))
noncomputable def zcB(env:Env):kx (Str×Gr)->kx (Str×p8)->kx (Str×p8)
 |[],cs=>cs
 |(n,k)::r,cs=>zcB env r (if k== .free then (match env.cells.lookup n with|some c=>(n,c)::cs|none=>cs) else cs)
noncomputable def Vb(sc:Scope)(env:Env):kx (Str×p8):=zcB env sc.names []
theorem zc9:∀{ns:kx (Str×Gr)} {cs:kx (Str×p8)},(∀p∈cs,env.cells.lookup p.1=eV p.2)->∀p∈zcB env ns cs,env.cells.lookup p.1=eV p.2
 |[],_,h=>h
 |(n,k)::r,cs,h=>by
  unfold zcB;show zc9 ?_;by_cases hk:(k== .free)=hG
  .rw[GO hk];cases e:env.cells.lookup n with
   |none=>show h
   |some c=>
    intro p hp;rcases x8.mp hp with rfl|hp;show e;show h p hp
  rw[GP hk];show h
theorem zhp:∀{ns:kx (Str×Gr)} {cs:kx (Str×p8)} {p:Str×p8},p∈cs->p∈zcB env ns cs
 |[],_,_,h=>h
 |(n,k)::r,cs,p,h=>by
  unfold zcB;show zhp ?_;by_cases hk:(k== .free)=hG
  .rw[GO hk];cases env.cells.lookup n with
   |none=>show h
   |some c=>show w6 _ h
  rw[GP hk];show h
theorem zhq(e:env.cells.lookup x=eV c):∀{ns:kx (Str×Gr)} {cs:kx (Str×p8)},(x,NameKind.free)∈ns->(x,c)∈zcB env ns cs
 |[],_,h=>by cases h
 |(n,k)::r,cs,h=>by
  unfold zcB;rcases x8.mp h with h|h;injection h with h1 h2;subst h1 h2;show zhp ?_;rw[GO (by rfl),e];show y6;show zhq e h
theorem vE:∀{l:kx (Str×p8)} {x:Str} {c:p8},(x,c)∈l->∃d,l.lookup x=eV d
 |[],_,_,h=>by cases h
 |(n,d)::r,x,c,h=>by
  rw[AA];cases e:x==n with
  |true=>show#[d,rfl]
  |false=>
   rcases x8.mp h with h|h;injection h with h1 h2;subst h1;simp at e;show vE h
def WI(e:(Vb sc env).lookup x=eV c):env.cells.lookup x=eV c:=
 zc9 (cs:=[]) (λp hp=>by cases hp) (x,c) (A8 e)
def zda(h:(x,NameKind.free)∈sc.names)(e:env.cells.lookup x=eV c):(Vb sc env).lookup x=eV c:=by
 have#[d,hd]:=vE (zhq (cs:=[]) e h);have:=WI (sc:=sc) hd;rw[e] at this;cases this;show hd
def TU(h:∀y∈sc.names,y.2= .free->∃c,env.cells.lookup y.1=eV c):closureFor sc env=pure (Vb sc env):=by
 unfold Vb closureFor;generalize sc.names=ns at h
 suffices hh:∀cs:kx (Str×p8),(forIn ns cs (λ(x:Str×Gr) (r:kx (Str×p8))=>
    (match x with
     |(name,kind)=>if (kind==NameKind.free)=hG then (cellOf env name>>=λc=>pure (BZ ((name,c)::r))) else pure (BZ r):Sem (ForInStep (kx (Str×p8)))))>>=λr=>pure r:Sem (kx (Str×p8)))=pure (zcB env ns cs) from hh []
 induction ns with
 |nil=>intro cs;rfl
 |cons p r ih=>
  intro cs;have#[n,k]:=p;rw[DU];unfold zcB;have ih':=ih λy hy=>h y (w6 _ hy);by_cases hk:(k== .free)=hG
  .obtain⟨c,hc⟩:=h (n,k) y6 (by simpa using hk);have hc:env.cells.lookup n=eV c:=hc;have h1:cellOf env n=pure c:=by unfold cellOf;rw[hc]
   simp only[hk,if_true,h1,hc,pure_bind];show ih' _
  simp only[hk,if_false,pure_bind];show ih' _
noncomputable def zmU(X:Cx)(N':kx Str)(sc:Scope)(C:p8)(s₀:pA)(H₀:Hp)(fp:kx p8):Cx where
 prog:=X.prog
 w:=X.w
 K:=X.K
 mg:=X.mg
 base:=X.base
 A:=X.A
 N:=N'
 s₀:=s₀
 H₀:=H₀
 env:=compEnvC sc (Vb sc X.env) C X.env
 outer:=X.stack
 stack:=X.stack
 ex:=fp
 fn:=λ_=>mK
 zn:=λ_=>mK
 calm:=X.calm
 pn:=[]
 xe:=λ_ _=>False
theorem Yv{env:Env}:∀{names:kx (Str×Gr)} {x:Str},names.lookup x=eV .free->
  (names.map λ(n,k)=>if (k==NameKind.free&&env.scope.kind== .function&&env.kindOf n==eV .cell) then (n,NameKind.cell) else (n,k)).lookup x=eV .cell\/
  (names.map λ(n,k)=>if (k==NameKind.free&&env.scope.kind== .function&&env.kindOf n==eV .cell) then (n,NameKind.cell) else (n,k)).lookup x=eV .free
 |[],_,h=>by simp at h
 |(n,k)::r,x,h=>by
  have ih:= @Yv env r x;change Bz x ((if (k==NameKind.free&&env.scope.kind== .function&&env.kindOf n==eV .cell)=hG then (n,NameKind.cell) else (n,k))::_)=_\/Bz x ((if (k==NameKind.free&&env.scope.kind== .function&&env.kindOf n==eV .cell)=hG then (n,NameKind.cell) else (n,k))::_)=_;cases hx:x==n with
  |true=>
   simp only[AA,hx] at h;cases h;by_cases hc:(NameKind.free==NameKind.free&&env.scope.kind== .function&&env.kindOf n==eV .cell)=hG;rw[GO hc];left;simp[AA,hx];rw[GP hc];right;simp[AA,hx]
  |false=>
   simp only[AA,hx] at h;by_cases hc:(k==NameKind.free&&env.scope.kind== .function&&env.kindOf n==eV .cell)=hG;rw[GO hc];simp only[AA,hx];show ih h;rw[GP hc];simp only[AA,hx];show ih h
def vX(X:Cx)(sc:Scope):kx (pf Nat)->kx Str->Prop
 |[],[]=>True
 |none::r,_::n=>vX X sc r n
 |some i::r,x::n=>(X.N[i]? =eV x/\sc.names.lookup x=eV .free)/\vX X sc r n
 |_,_=>False
noncomputable def ZV(cap:kx (pf Nat))(σ:St):St:=cap.map λo=>o.bind λi=>(σ[i]?).join
theorem vX.at:∀{cap:kx (pf Nat)} {N':kx Str},vX X sc cap N'->∀(j i:Nat) (x:Str),cap[j]? =eV (eV i)->N'[j]? =eV x->X.N[i]? =eV x/\sc.names.lookup x=eV .free
 |[],[],_,j,i,x,h,_=>by simp at h
 |none::r,y::n,c,0,i,x,h,_=>by simp at h
 |none::r,y::n,c,j+1,i,x,h,h2=>vX.at (cap:=r) c j i x (by simpa using h) (by simpa using h2)
 |some k::r,y::n,c,0,i,x,h,h2=>by
  simp at h h2;subst h h2;show c.1
 |some k::r,y::n,c,j+1,i,x,h,h2=>vX.at (cap:=r) c.2 j i x (by simpa using h) (by simpa using h2)
theorem vX.len:∀{cap:kx (pf Nat)} {N':kx Str},vX X sc cap N'->cap.length=N'.length
 |[],[],_=>rfl
 |none::r,y::n,c=>by simpa using vX.len (cap:=r) (N':=n) c
 |some k::r,y::n,c=>by simpa using vX.len (cap:=r) (N':=n) c.2
def ze4{cap:kx (pf Nat)}{j:Nat}{v:V}(h:(ZV cap σ)[j]? =eV (eV v)):∃i,cap[j]? =eV (eV i)/\σ[i]? =eV (eV v):=by
 unfold ZV at h;rw[uY] at h;cases e:cap[j]? with
 |none=>rw[e] at h;cases h
 |some o=>
  rw[e] at h;cases o with
  |none=>simp at h
  |some i=>
   show#[i,rfl,?_];simp only[Bd,z0,Ar] at h;cases q:σ[i]? with
   |none=>rw[q] at h;simp at h
   |some z=>rw[q] at h;simp at h;rw[h]
def PTs(X:Cx)(ifs:kx Expr)(t:TT):Prop:=
 ∀(pins:kx (p8×Obj)) (s:pA) (σ:St) (H:Hp) (Q:Bool->Hp->Prop),Inv X pins σ H s->t σ H Q->
  wpAny (model X.prog X.w) X.A (forIn ifs hG λc r=>if r=hG then do let ok <-isTrue c X.env (eval c X.env);pure (BZ ok) else pure (BZ r)) (TP X pins σ Q) X.xe s
def yL:PTs X [] (λ_ H Q=>Q hG H):=λ_ _ _ H _ I h=>wpAny_tests_nil #[H,I,h]
def zmV(cap:kx (pf Nat))(g:TG)(tt:TT)(te:TE)(J:It)(σ:St)(acc:p8)(H0:Hp)(Q:Hp->Prop):Prop:=
 ∃W:Nat->Nat->kx V->Hp->Prop,(∃m,W 0 m [] (upd H0 acc (.lst [])))/\∀i m ys H,W i m ys H->
  (J.stop i H/\Q H)\/(J.go i H/\∀x H',J.yld i H x H'->g x (ZV cap σ) H' λσ2 H2=>tt σ2 H2 λb H3=>
   if b=hG then te σ2 H3 λv H4=>H4 acc=eV (.lst ys)/\ys.length<FU/\∃m',m'<m/\W (i+1) m' (ys++[v]) (upd H4 acc (.lst (ys++[v])))
   else ∃m',m'<m/\W (i+1) m' ys H3)
def zmW(cap:kx (pf Nat))(wi:TI)(g:TG)(tt:TT)(te:TE):TE:=λσ H Q=>wi σ H λJ H1=>∀acc,H1 acc=gi->zmV cap g tt te J σ acc H1 λH2=>Q (.ref acc) H2
def zhr(i:Nat)(cap:kx (pf Nat))(wi:TI)(g:TG)(tt:TT)(te:TE):TS:=λD σ H=>wi σ H λJ H1=>∀acc,H1 acc=gi->zmV cap g tt te J σ acc H1 λH2=>D.nx (σ.set i (eV (.ref acc))) H2
structure zfT(X:Cx)(sc:Scope):Prop where
 cell:∀y∈sc.names,y.2≠ .cell
 kind:sc.kind= .function
 names:∀y∈sc.names,y.2= .local->sc.names.lookup y.1=eV .local
 free:∀y∈sc.names,y.2= .free->X.env.kindOf y.1=eV .cell\/X.env.kindOf y.1=eV .free
section
def Inv.closure(I:Inv X pins σ H s)(B:zfT X sc):closureFor sc X.env=pure (Vb sc X.env):=
 TU λy hy e=>I.ok.has y.1 (B.free y hy e)
def Kp(σ0 σ:St):Prop:=σ.length=σ0.length/\∀(j:Nat) v,σ0[j]? =eV (eV v)->σ[j]? =eV (eV v)
def zlD(cap:kx (pf Nat))(g:TG):Prop:=∀σ0 σ x H Q,Kp (ZV cap σ0) σ->g x σ H Q->g x σ H λσ2 H2=>Q σ2 H2/\Kp (ZV cap σ0) σ2
def zkC(cap:kx (pf Nat))(g:TGs):Prop:=∀σ0 σ x H Q,Kp (ZV cap σ0) σ->g x σ H Q->g x σ H λσ2 H2=>Q σ2 H2/\Kp (ZV cap σ0) σ2
def zlE(h:cap[i]? =eV gi):zlD cap (zeT i):=λσ0 σ x H Q k q=>by
 show#[q,by rw[Bm];show k.1,λj v e=> ?_];have:j≠i:=by
  rintro rfl;have#[i',e1,_]:=ze4 e;rw[h] at e1;cases e1
 rw[CY (AX this)];show k.2 j v e
def zlF:zkC cap zrC:=λσ0 σ x H Q k ⟨e,q⟩=>#[e,q,k]
def zi9(h1:zlD cap t)(h2:zkC cap u)(mono:∀v σ H (Q Q':St->Hp->Prop),(∀σ H,Q σ H->Q' σ H)->t v σ H Q->t v σ H Q'):zkC cap (zmw t u):=λσ0 σ x H Q k ⟨v,r,e,q⟩=>
 #[v,r,e,mono v σ H _ _ (λσ' H' ⟨q',k'⟩=>h2 σ0 σ' r H' Q k' q') (h1 σ0 σ v H _ k q)]
def zja:∀v σ H (Q Q':St->Hp->Prop),(∀σ H,Q σ H->Q' σ H)->zeT i v σ H Q->zeT i v σ H Q':=λ_ _ _ _ _ f q=>f _ _ q
def zmX(h:zkC cap t):zlD cap (zpk K n t):=λσ0 σ x H Q k ⟨a,xs,e,hq,hl,q⟩=>#[a,xs,e,hq,hl,h σ0 σ xs H Q k q]
end
def vC{α:Type}:Sem α->Prop
 | .pure _=>True
 | .raise _=>True
 | .unsupported _=>True
 | .finish _=>True
 | .rule _ k=>∀u,vC (k u)
 | .at _ k=>∀u,vC (k u)
 | .load _ _ k=>∀o,vC (k o)
 | .update _ _ f k=>(∀o,(f o).dict=o.dict/\(f o).cls=o.cls)/\∀u,vC (k u)
 | .alloc _ k=>∀a,vC (k a)
 | .loadIfAlive _ k=>∀o,vC (k o)
 | .point _ k=>∀u,vC (k u)
 | .stack k=>∀x,vC (k x)
 | .ask k=>∀x,vC (k x)
 |_=>False
def KD(h h':Heap):Prop:=∀(b:Nat) o,h.objs[b]? =eV o->∃o',h'.objs[b]? =eV o'/\o'.dict=o.dict/\o'.cls=o.cls
def KD.refl(h:Heap):KD h h:=λ_ o e=>#[o,e,rfl,rfl]
def KD.trans(x:KD h h1)(y:KD h1 h2):KD h h2:=λb o e=>by
 have#[o1,e1,d1,c1]:=x b o e;have#[o2,e2,d2,c2]:=y b o1 e1;show#[o2,e2,d2.trans d1,c2.trans c1]
def KD.push(h:Heap)(o:Obj):KD h (h.push o):=λb o' e=>by
 show#[o',?_,rfl,rfl];have#[objs,l]:=h;change(objs.push o)[b]? =eV o';have e:objs[b]? =eV o':=e;rw[Array.getElem?_push];have hb:b<objs.size:=(Cd.mp e).1;rw[GP (z8 hb)];show e
def KD.update(h:Heap)(a:p8){f:Obj->Obj}(hf:∀o,(f o).dict=o.dict/\(f o).cls=o.cls):KD h (h.update a f):=λb o e=>by
 have#[objs,l]:=h;change ∃o',(objs.modify a f)[b]? =eV o'/\_;rw[Array.getElem?_modify];have e:objs[b]? =eV o:=e;by_cases iq:a=b;rw[GO iq,e];show#[f o,rfl,hf o];rw[GP iq,e];show#[o,rfl,rfl,rfl]
def zhs{h:Heap}{a:p8}{o:Obj}(e:h.get? a=eV o):h.objs[a]? =eV o:=by
 unfold Heap.get? at e;split at e;cases e;show e
def KD.at(k:KD h h')(e:h.get? a=eV o)(e':h'.get? a=eV o'):o'.dict=o.dict/\o'.cls=o.cls:=by
 have#[o1,e1,d]:=k a o (zhs e);rw[zhs e'] at e1;cases e1;show d
def zpC{α:Type}{M:Model}{Γ:PySem.Ctx}{t:Sem α}:∀{Q:α->Pos->pA->Prop} {E:ph->Pos->pA->Prop} {p:Pos} {s:pA} {h₀:Heap},vC t->KD h₀ s.heap->Sem.wp M Γ t Q E p s->
  Sem.wp M Γ t (λa p' s'=>Q a p' s'/\KD h₀ s'.heap) (λe p' s'=>E e p' s'/\KD h₀ s'.heap) p s:=by
 induction t with
 |pure a=>show λ_ k h=>#[h,k]
 |raise e=>show λ_ k h=>#[h,k]
 |unsupported w=>show λ_ _ h=>h.elim
 |finish e=>show λ_ _ h=>h.elim
 |rule _ k ih=>show λt z h=>ih () (t ()) z h
 | «at» _ k ih=>show λt z h=>ih () (t ()) z h
 |load a _ k ih=>
  intro Q E p s h₀ t z h;have#[o,e,h]:=h;show#[o,e,ih o (t o) z h]
 |update a _ f k ih=>
  intro Q E p s h₀ t z h;have#[e,h]:=h;show#[e,ih () (t.2 ()) (z.trans (KD.update _ _ t.1)) h]
 |alloc o k ih=>show λt z h=>ih _ (t _) (z.trans (KD.push _ _)) h
 |loadIfAlive a k ih=>show λt z h=>ih _ (t _) z h
 |point _ k ih=>show λt z h=>ih () (t ()) z h
 |stack k ih=>show λt z h=>ih _ (t _) z h
 |ask k ih=>show λt z h=>ih _ (t _) z h
 |register _ _ _=>show λt=>t.elim
 |fresh _ _=>show λt=>t.elim
 |choose _ _ _ _=>show λt=>t.elim
 |os _ _ _ _=>show λt=>t.elim
 |call _ _ _ _ _ _=>show λt=>t.elim
 |handled _ _ _=>show λt=>t.elim
 |newGen _ _ _=>show λt=>t.elim
 |genState _ _ _=>show λt=>t.elim
 |resume _ _ _ _ _=>show λt=>t.elim
 |yield _ _ _ _ _=>show λt=>t.elim
 |fork _ _ _=>show λt=>t.elim
 |thread _ _=>show λt=>t.elim
 |await _ _ _ _ _ _=>show λt=>t.elim
def zmY{α:Type}{t:Sem α}{Q:α->pA->Prop}(T:vC t)(h:wpAny M A t Q E s):wpAny M A t (λa s'=>Q a s'/\KD s.heap s'.heap) (λe s'=>E e s'/\KD s.heap s'.heap) s:=
 λΓ p hΓ=>zpC T (KD.refl _) (h Γ p hΓ)
def zlG{α β:Type}{f:α->Sem β}(hf:∀a,vC (f a)):∀{t:Sem α},vC t->vC (t.bind f):=by
 intro t
 induction t with
 |pure a=>show λ_=>hf a
 |raise e=>show λ_=>trivial
 |unsupported w=>show λ_=>trivial
 |finish e=>show λ_=>trivial
 |rule _ k ih=>show λt u=>ih u (t u)
 | «at» _ k ih=>show λt u=>ih u (t u)
 |load a _ k ih=>show λt u=>ih u (t u)
 |update a _ f k ih=>show λt=>#[t.1,λu=>ih u (t.2 u)]
 |alloc o k ih=>show λt u=>ih u (t u)
 |loadIfAlive a k ih=>show λt u=>ih u (t u)
 |point _ k ih=>show λt u=>ih u (t u)
 |stack k ih=>show λt u=>ih u (t u)
 |ask k ih=>show λt u=>ih u (t u)
 |register _ _ _=>show λt=>t.elim
 |fresh _ _=>show λt=>t.elim
 |choose _ _ _ _=>show λt=>t.elim
 |os _ _ _ _=>show λt=>t.elim
 |call _ _ _ _ _ _=>show λt=>t.elim
 |handled _ _ _=>show λt=>t.elim
 |newGen _ _ _=>show λt=>t.elim
 |genState _ _ _=>show λt=>t.elim
 |resume _ _ _ _ _=>show λt=>t.elim
 |yield _ _ _ _ _=>show λt=>t.elim
 |fork _ _ _=>show λt=>t.elim
 |thread _ _=>show λt=>t.elim
 |await _ _ _ _ _ _=>show λt=>t.elim
def tb{α β:Type}{t:Sem α}{f:α->Sem β}(h:vC t)(hf:∀a,vC (f a)):vC (t>>=f):=zlG hf h
def zem(v:ph):vC (fieldsOf v):=by
 unfold fieldsOf;split
 .show tb (λo=>trivial) λo=> ?_;split<;>trivial
 trivial
def Vc(v:ph)(i:Nat):vC (field v i):=by
 unfold field;show tb (zem v) λa=> ?_;split<;>trivial
def zdb(g:Array ph->Array ph)(o:Obj):(Obj.mapFields g o).dict=o.dict/\(Obj.mapFields g o).cls=o.cls:=by
 have#[c,d,dt,sl]:=o;cases dt<;>show#[rfl,rfl]
def Wd(v:ph)(i:Nat)(x:ph):vC (setField v i x):=by
 unfold setField;split;unfold updateField;show tb (λo=>trivial) λo=> ?_;split;split;show#[λo=>zdb _ o,λ_=>trivial];trivial;trivial;trivial
def zdc(e:ph)(f:pf p8):vC (setFlight e f):=by
 unfold setFlight;show tb (Vc _ _) λtb'=> ?_;split;show Wd _ _ _;trivial
def zdd(ty:String)(vs:kx ph):vC (newFields ty vs):=by
 have h:vC (newObjAsIs (Value.type ty) (Data.fields vs.toArray)):=by
  unfold newObjAsIs;show tb (λa=>trivial) λa=>trivial
 unfold newFields newObj;change vC (if vs.toArray.size>FU+2 then (unsupported "record:memory">>=λ_=>newObjAsIs (Value.type ty) (Data.fields vs.toArray)) else newObjAsIs (Value.type ty) (Data.fields vs.toArray));split;trivial;show h
def zht(env:Env)(outer:kx Env):vC (behindIsImport env outer):=by
 unfold behindIsImport;split;trivial;split;trivial;show tb (Vc _ _) λ_=>trivial
def zjb:vC underTheClaimsCaller:=tb (λ_=>trivial) λ_=>trivial
def zen(env:Env)(i:Bool)(outer:kx Env):vC (keptBack env i outer):=by
 cases outer with
 |nil=>
  unfold keptBack;by_cases h:(env.scope.isGenerator||env.scope.isCoroutine)=hG;rw[GO h];trivial;rw[GP h];show tb zjb λx=> ?_;trivial
 |cons c r=>
  unfold keptBack;trivial
theorem zde:∀l:kx Env,vC (readyFrames l)
 |[]=>trivial
 |env::outer=>by
  unfold readyFrames;split;show tb (λo=>trivial) λo=> ?_;split;trivial;show tb (zht _ _) λi=>tb (zen _ _ _) λb=>tb #[λo=>#[rfl,rfl],λ_=>trivial] λ_=>zde outer;trivial
def zfU(env:Env):vC (Eu env):=by
 unfold Eu;show tb (λx=>trivial) λl=>tb ?_ λo=> ?_
 .generalize List.dropWhile _ l=l';unfold frameObject;cases l' with
  |nil=>trivial
  |cons a r=>show tb (zde _) λ_=>trivial
 split<;>trivial
def zcC(f:p8)(b:Bool):vC (entryPlaceOf f b):=by
 unfold entryPlaceOf;show tb (λx=>trivial) λl=> ?_;split<;>trivial
set_option tactic.hygienic true in
def zdf(e:ph)(env:Env):vC (noteFrame e env):=by
 unfold noteFrame;split
 .rename_i f _;have last:∀head:ph,vC (do setField e 1 (<-EntryCells.newEntry head (<-Eu env) .none (Gu f) .none (<-entryPlaceOf f (head != .none)))):=λhead=>
   tb (zfU env) λa=>tb (zcC _ _) λpl=>tb (zdd _ _) λb=>Wd _ _ _
  show tb (Vc _ _) λhead=> ?_;split;show tb (Vc _ _) λx=> ?_;split;trivial;show tb (Wd _ _ _) λ_=>last head;show last head
 trivial
def zfV(env:Env)(e:ph):vC (leaving env e):=tb (zdf e env) λ_=>zdc _ _
def xb.there{P:Program}(x:xb P w H h a o):∃ob,h.get? a=eV ob:=by
 cases o with
 |lst xs=>have#[_,_,_,_,e]:=x;show#[_,e]
 |tup xs=>have#[_,_,_,ob,e,_]:=x;show#[_,e]
 |dK af=>have#[_,_,_,_,o,_,_,e,_]:=x;show#[_,e]
 |dT af=>have#[_,_,_,_,o,_,_,e,_]:=x;show#[_,e]
 |dN af=>have#[_,_,_,_,o,_,_,e,_]:=x;show#[_,e]
 |set S n=>have#[o,_,_,_,e,_]:=x;show#[_,e]
 |ins C dx fs=>have#[_,_,_,e,_]:=x;show#[_,e]
 |own y=>have#[_,e]:=x;show#[_,e]
 |xd fs=>have#[_,#[_,_,_,e,_],_]:=x;show#[_,e]
 |rng lo hi=>have#[_,_,_,e]:=x;show#[_,e]
 |frz ob u=>have#[e,_]:=x;show#[_,e]
 |tbl ps=>show#[_,(show h.get? a=eV _ from x)]
 |met f y=>show#[_,(show h.get? a=eV _ from x)]
 |ext φ=>have#[_,#[_,e],_]:=x;show#[_,e]
def Cov(outer:kx Env)(H':Hp)(old h' B:Heap):Prop:=
 (∀b o,(∃o0,old.get? b=eV o0)->b∉frs outer->h'.get? b=eV o->B.get? b=eV o)/\∀b u o,H' b=eV u->h'.get? b=eV o->B.get? b=eV o
structure Fly(P:Program)(w:World)(outer:kx Env)(H:Hp)(s:pA)(e:p8)(cls:ph)(H':Hp)(s':pA):Prop where
 os:s'.os=s.os
 bare:AllBare s'.gens
 un:Un (frs outer) [] H H' s.heap s'.heap
 hok:HOk P w H' s'.heap
 fly:∃B t,Heap.FlyingW B outer e cls (.ref t) s'.heap/\Cov outer H' s.heap s'.heap B
 new:s.heap.get? e=gi
 free:H' e=gi
 nd:∀o,s'.heap.get? e=eV o->o.dict=gi
noncomputable def CXE(P:Program)(w:World):CXT:=λouter H s E ev s'=>∃e cls H',ev= .ref e/\Fly P w outer H s e cls H' s'/\E cls gi H'
def Fly.moved{P:Program}(F:Fly P w outer H s e cls H' s')(fl:Heap.FlyingW B outer e cls a0 s'.heap)(cov:Cov outer H' s.heap s'.heap B)
  (st:B.StaysIn h2) (sm:s'.heap.UpToSlots h2):Un (frs outer) [] H H' s.heap h2/\HOk P w H' h2/\Cov outer H' s.heap h2 B:=by
 have nofs:∀b u,H' b=eV u->∃o,s'.heap.get? b=eV o/\B.get? b=eV o/\h2.get? b=eV o:=λb u q=>by
  have#[o,e1]:=(F.hok b u q).there;have e2:=cov.2 b u o q e1;show#[o,e1,e2,st b o e2]
 have old:∀b o0,s.heap.get? b=eV o0->b∉frs outer->∃o,s'.heap.get? b=eV o/\B.get? b=eV o/\h2.get? b=eV o:=λb o0 q hb=>by
  have#[o,e1]:=F.un.there b o0 q (by simp);have e2:=cov.1 b o #[o0,q] hb e1;show#[o,e1,e2,st b o e2]
 have fr:∀b∈frs outer,∃o sl,s'.heap.get? b=eV o/\h2.get? b=eV {o with slots:=sl}:=λb hb=>by
  have#[_,o,e1,d]:=fl.2.2.1.mem hb;have#[sl,e2]:=sm b o e1 d;show#[o,sl,e1,e2]
 show#[#[λb o q n hb _=> ?_,λb o q n hb _=> ?_,λb o q n hx=>F.un.free b o q n hx,λb o q _=> ?_,F.un.tups,F.un.frzs,F.un.tbls],λa u q=> ?_,λb o q hb e1=> ?_,λb u o q e1=> ?_];have#[o1,e1,_,e3]:=old b o q hb;have e4:=F.un.keep b o q n hb (by simp);rw[e1] at e4;cases e4;show e3;have#[o1,pj,e1,e2]:=fr b hb;have#[sl,e4]:=F.un.slot b o q n hb (by simp);rw[e1] at e4;cases e4;show#[pj,e2];by_cases hb:b∈frs outer;have#[o1,pj,e1,e2]:=fr b hb;show#[_,e2];have#[o1,_,_,e3]:=old b o q hb;show#[_,e3]
 .show (F.hok a u q).stay (λb ob hb eb=> ?_) (λ_ z=>z) λ_ _ z=>z;have:∃u',H' b=eV u':=by
   rcases hb with z|z;show#[u,z ▸ q];show#[_,z]
  have#[u',hu]:=this;have#[o1,e1,_,e3]:=nofs b u' hu;rw[eb] at e1;cases e1;show e3
 .obtain⟨o0,q⟩:=q;have#[o1,_,e2,e3]:=old b o0 q hb;rw[e1] at e3;cases e3;show e2
 have#[o1,_,e2,e3]:=nofs b u q;rw[e1] at e3;cases e3;show e2
section
variable{P:Program}{mg:Str->pf ph}{N:kx Str}{E:XK}
def yc:Ui (CXE P w) (TJ (CXE P w) P w K mg base N qual scope f bZ A outer s H E) E:=by
 intro pins σ H1 s1 ev s' I #[e,cls,H',rfl,F,hE];have#[B,t,fl,cov]:=F.fly;have sQ:∀b∈frs (envOfC qual scope #v[s] f bZ::outer),b∈#v[s]::frs outer:=I.stkSub;show Gi (zmY (zfV _ _) (wpAny_leaves_onW (E:=λ_ _=>False) (Q:=λ_ s''=>∃h',s''={s' with heap:=h'}/\Heap.FlyingW B outer e cls (.ref t) h'/\s'.heap.UpToSlots h') (L:=#v[s]) I.ok.frames rfl fl λh' x1 x2=>#[h',rfl,x1,x2])) (λ_ s3 h3=> ?_) λ_ _ h3=>h3.1.elim;have#[#[h',rfl,x1,x2],kd]:=h3;have#[un,hok,cov']:=F.moved fl cov x1.1 x2;have j8:∀b:p8,b∉(TJ (CXE P w) P w K mg base N qual scope f bZ A outer s H E).ex:=λb z=>absurd (show b∈([]:kx p8) from z) (by simp);have pw:∀b o,s.heap.get? b=eV o->b∉frs outer->b∉frs (envOfC qual scope #v[s] f bZ::outer):=λb o q hb hz=>by
  rcases x8.mp (sQ b hz) with z|z;show z8 (Heap.lt_size q) z;show hb z
 have sub:∀b∈frs outer,b∈frs (envOfC qual scope #v[s] f bZ::outer):=λb hb=>by
  unfold frs at hb ⊢;rw[BV];show w6 _ hb
 show#[e,cls,H',rfl,#[F.os.trans I.os,F.bare,#[λb o q n hb _=> ?_,λb o q n hb _=> ?_,λb o q n _=> ?_,λb o q _=> ?_,λb xs q=>un.tups b xs (I.base.tups b xs q),λb o xs q=>un.frzs b o xs (I.base.frzs b o xs q),λb ps q=> ?_],hok,
  #[B,t,x1,λb o q hb e1=> ?_,cov'.2],?_,F.free,λo q=> ?_],hE]
 .show un.keep b o (I.base.keep b o q n hb (j8 b)) (I.base.free b o q n (j8 b)) (pw b o q hb) (by simp)
 .obtain⟨sl,e1⟩:=I.base.slot b o q n hb (j8 b);have#[jX,e2]:=un.slot b _ e1 (I.base.free b o q n (j8 b)) (sub b hb) (by simp);show#[jX,e2]
 .obtain⟨o1,e1⟩:=I.base.there b o q (j8 b);show un.free b o1 e1 (I.base.free b o q n (j8 b)) (by simp)
 .obtain⟨o1,e1⟩:=I.base.there b o q (j8 b);show un.there b o1 e1 (by simp)
 .obtain⟨m1,e1⟩:=I.base.tbls b ps q;have#[m2,e2]:=un.tbls b _ e1;show#[m1++m2,by rw[e2,Di]]
 .obtain⟨o0,q⟩:=q;have#[o1,q1]:=I.base.there b o0 q (j8 b);show cov'.1 b o #[o1,q1] (pw b o0 q hb) e1
 .cases q:s.heap.get? e with
  |none=>rfl
  |some o=>
   have#[o',q']:=I.base.there e o q (j8 e);have:=F.new;rw[q'] at this;cases this
 have#[ob,q8,_]:=fl.there;show(kd.at q8 q).1.trans (F.nd ob q8)
end
structure zjc(K:uU)(mg:Str->pf ph)(x:Str)(C:p8)(u6:kx ph)(newId:String):Prop where
 mg:mg x=eV (.ref C)
 um:Dp K C u6 newId=hG
def wH{P:Program}:Ui (CXE P w) X E0:=λ_ _ _ _ _ _ _ ⟨_,_,_,_,_,h⟩=>h.elim
section
variable{e:Expr}{es:kx Expr}{te:TE}
end
noncomputable def zrZ(e:p8)(cls:ph):HO:= .ext λh=>∃ob,h.get? e=eV ob/\ob.cls=cls/\ob.dict=gi/\∃vs,ob.data= .fields vs
noncomputable abbrev Cx.hand(X:Cx)(e:p8):Cx:={X with A:=X.A.mark (eV (.ref e)),calm:=mK,xe:=λ_ _=>False}
open PySem.Builtin.Int (intBits)
def zq9(i j:Int):Prop:=∃m n:Nat,intBits i<=m/\intBits j<=n/\m+n<=134217728
def zmZ(i j:Int):Prop:=j≠0/\intBits j<=9000
def xq:OpR X (GA .Mult) (rI zq9 λi j=> .int (i*j)):=opI λ_ _ _ _ _ _ _ hc q=>by
 have#[m,n,h1,h2,h3]:=hc;show mul_int q (IntMulOk.of_le h1 h2 h3)
def zdg:OpR X (GA .FloorDiv) (rI zmZ λi j=> .int (i.fdiv j)):=opI λi j _ _ _ _ _ hc q=>floordiv_int hc.1 q (.inl (PyProof.noPylong_of_log2 (by
 have h:=B4.mp hc.2;by_cases z:j.natAbs=0;rw[z];decide
 show (Nat.log2_lt z).mpr h)))
section
def zfW{Q:Unit->pA->Prop}(X:K.In s.heap)(I:Dg s.heap x ox D gi)(be:Ah K D (.type "BaseException")=eV hG)(hq:Q () s):
  wpAny M A (checkBuiltinCall "BaseException.__getattribute__" #[[.ref x,nameV],[]]) Q E s:=by
 have#[hh,g,d,t,os]:=s;have hk:builtinKind "BaseException.__getattribute__"=eV .slot:=by decide+kernel
 have hsplit:splitId "BaseException.__getattribute__"=eV ("BaseException","__getattribute__"):=by decide+kernel
 have L0:=I.type (M:=M);have L1:=PySem.W.looks_mroIn (M:=M) X be;have ha:=F.args_bexc_ga (.ref x) nameV;simp only[checkBuiltinCall,hk,hsplit];show qR ?_;unfold isInstance;show qR (L0.at (L1.at ?_))
 repeat (first|wp_step)
 show hq
def zlH{Q:pf ph->pA->Prop}(X:K.In s.heap)(I:Dg s.heap x ox D gi)(ga:z3 K (.ref D) "__getattribute__"=eV (eV (.builtin "BaseException.__getattribute__")))(noga:z3 K (.ref D) "__getattr__"=eV gi)
  (be:Ah K D (.type "BaseException")=eV hG) (hf:DV K D gi "__class__"=eV (.bind (.builtin "getset_descriptor.__get__") (.builtin "object.__class__"))) (hm:Ah K D (.type "object")=eV hG)
  (h:Q (eV (.ref D)) {s with toks:=s.toks+1}):wpAny (model prog w) A (getAttr? (.ref x) "__class__") Q E s:=by
 have#[hh,g,d,t,os]:=s;have L0:=I.type (M:=model prog w);have L1:=D4 (M:=model prog w) X ga;have L2:=D4 (M:=model prog w) X noga;have L3:=PySem.W.looks_find (M:=model prog w) X I hf;have hb:=F.attrBase_ValueError.ga.bind (.ref x);unfold getAttr? getAttrBy? getAttrBy;show qR (wpAny_mkText (qR (Gq (Gm (qR (L0.at (qR (L1.at ?_))))))));dsimp only;rw[GP (show ¬(onTheHeap (Value.ref D)&&(Value.builtin "BaseException.__getattribute__"==Value.builtin "object.__getattribute__"))=hG by rw[show(Value.builtin "BaseException.__getattribute__"==Value.builtin "object.__getattribute__")=mK by decide+kernel];simp)];unfold getAttrByItsOwn hookBefore;show qR ?_;change wpAny _ _ (typeLookup (.ref D) "__getattr__") _ _ _;show L2.at ?_;show qR (Gq (Gm ?_));unfold callGetattribute boundAndCalled;rw[GP ∅,hb];show qR (uh ?_);dsimp only;show wpAny_call (codeAny_call_builtin F.attrBase_ValueError.ga.plain F.entry_bexc_ga (zfW (ox:=ox) X I be ?_));unfold GD.«object.__getattribute__»;show qR (Gs (show slotArgs "__getattribute__" 1 {pos:=[Value.ref x]++[Value.str (Str.ofString "__class__") t]}=pure (.ref x,[Value.str (Str.ofString "__class__") t]) from rfl) ?_);dsimp only;show qR (Gs (show Builtin.ObjectAttr.attrName (Value.str (Str.ofString "__class__") t)=pure (Str.ofString "__class__") from rfl) ?_);show qR (L0.at (qR (L3.at ?_)));dsimp only;change wpAny _ _ (do ret (<-holding [Value.builtin "object.__class__"] (call (.builtin "getset_descriptor.__get__") [.builtin "object.__class__",.ref x,.ref D]))) _ _ _;show qR (Gm (wpAny_call (PySem.W.class_get (ox:=ox) (od:=gi) X I hm ?_)));show uh (PySem.W.handed_on rfl (uh h))
end
structure zhu(K:uU)(D:p8):Prop where
 ga:z3 K (.ref D) "__getattribute__"=eV (eV (.builtin "BaseException.__getattribute__"))
 noga:z3 K (.ref D) "__getattr__"=eV gi
 be:Ah K D (.type "BaseException")=eV hG
 hc:(Ew K D).isSome=hG
 ha:z3 K (.ref D) "__class__"=eV (eV (.builtin "object.__class__"))
 hn:CG K (.builtin "object.__class__") "__get__"=eV (eV (.builtin "getset_descriptor.__get__"))
 htk:DT K (.builtin "object.__class__")=eV hG
 hm:Ah K D (.type "object")=eV hG
set_option tactic.hygienic true in
def zm0(e:zhu K D):FO K (.ref x) (.ref D) (λh=>∃ox,Dg h x ox D gi) where
 ty:=λ_ _ _ ⟨_,I⟩=>I.type
 it:=λ_ _ X _=>by
  have#[cd,dI]:=Ay.mp e.hc;unfold Ew at dI;split at dI;rename_i ho;intro A' Q' E' s' k q;unfold isType loadHead;show qR (wpAny_loadPart (k _ _ (X _ _ ho)) (uh q));cases dI
 ne:=λh tp dd ah n sl X rT=>by
  have#[cd,dI]:=Ay.mp e.hc;show F4.mpr λq=> ?_;have z:D=tp:=Value.ref.inj (beq_iff_eq.mp q);subst z;unfold Ew at dI;split at dI;rename_i ho;have y:=(X _ _ ho).symm.trans rT;cases y;cases dI
 ca:=λ{_ _ _ _ _ s} X I k=>by
  have#[ox,I]:=I;have#[cd,dI]:=Ay.mp e.hc;have hf:DV K D gi "__class__"=eV (.bind (.builtin "getset_descriptor.__get__") (.builtin "object.__class__")):=by
   unfold DV;rw[dI,z0,e.ha,z0];simp[e.hn,e.htk]
  show zlH X I e.ga e.noga e.be hf e.hm k
inductive TyX(K:uU)(H:Hp):V->Value->Prop where
 |of {x:V} {t:Value} (h:zcz K H x t):TyX K H x t
 |exc {e D:Addr} (h:H e=eV (zrZ e (.ref D))) (k:zhu K D):TyX K H (.ref e) (.ref D)
 |sqt {a:Addr} {xs:List V} (h:SqT K H a xs):TyX K H (.ref a) (.type "tuple")
 |sql {a:Addr} {xs:List V} (h:SqL K H a xs):TyX K H (.ref a) (.type "list")
def TyX.kit(I:Inv X pins σ H s)(rx:yt x u)(ty:TyX X.K H x t):∃Hh,FO X.K u t Hh/\Hh s.heap:=by
 cases ty with
 |of ty=>
  cases ty with
  |non=>cases (show u=Value.none from rx);show#[_,PySem.W.kitx_none,AY]
  |bl y=>cases (show u=Value.bool y from rx);show#[_,PySem.W.kitx_bool,AY]
  |int i=>have#[t,q]:=(show ∃t,u=Value.int i t from rx);cases q;show#[_,PySem.W.kitx_int,AY]
  |str y=>have#[t,q]:=(show ∃t,u=Value.str y t from rx);cases q;show#[_,PySem.W.kitx_str,AY]
  |flt y=>have#[t,q]:=(show ∃t,u=Value.float y t from rx);cases q;show#[_,PySem.W.kitx_float,AY]
  | @lst a xs ea=>
   cases (show u=Value.ref a from rx);have#[_,_,n,_,h1]:=(show xb X.prog X.w H s.heap a (.lst xs) from I.hok a _ ea);show#[_,Dv,#[_,h1,rfl]]
  | @frz a ob xs ea=>
   cases (show u=Value.ref a from rx);have#[_,_,_,n,_,h1]:=(show xb X.prog X.w H s.heap a (.frz ob (.lst xs)) from I.hok a _ ea);show#[_,Dv,#[_,h1,rfl]]
  | @tup a xs ea=>
   cases (show u=Value.ref a from rx);have#[_,_,_,p]:=(show xb X.prog X.w H s.heap a (.tup xs) from I.hok a _ ea);have#[o,h1,h2,_]:=p;show#[_,EK,#[o,h1,h2]]
  | @dK a af ea=>
   cases (show u=Value.ref a from rx);have#[_,_,vs,_,p]:=(show xb X.prog X.w H s.heap a (.dK af) from I.hok a _ ea);have#[o,es,ep,h1,h2,_]:=p;show#[_,F5,#[o,h1,h2.1]]
  | @dT a af ea=>
   cases (show u=Value.ref a from rx);have#[_,_,xs,_,o,es,ep,h1,h2,_]:=(show xb X.prog X.w H s.heap a (.dT af) from I.hok a _ ea);show#[_,F5,#[o,h1,h2.1]]
  | @ins a C dx fs ea cl ha hn htk hm=>
   cases (show u=Value.ref a from rx);have#[mA,O,_]:=zcV I.hok ea;have#[od,J,_]:=O.look;show#[_,PySem.W.kitx_own (cl.get _) cl.hd ha hn htk hm,J]
 | @sqt a xs h=>
  cases (show u=Value.ref a from rx);have#[ah,_,#[o,h1,h2,_],_]:=I.tuple h;show#[_,EK,#[o,h1,h2]]
 | @sql a xs h=>
  cases (show u=Value.ref a from rx);have#[ah,_,#[o,n,h1,h2,_],_]:=I.list h;show#[_,Dv,#[o,h1,h2]]
 | @exc e D h k=>
  cases (show u=Value.ref e from rx);have#[#[ob,h1,h2,h3,vs,h4],_]:=(show xb X.prog X.w H s.heap e (zrZ e (.ref D)) from I.hok e _ h);show#[_,zm0 k,ob,h1,h2,?_,?_];unfold PySem.W.notCls;rw[h4];rw[h3];trivial
noncomputable def ztw:V->pf ph
 | .ref a=>eV (.ref a)
 | .ty n=>eV (.type n)
 |_=>gi
def zm1(h:ztw c=eV cv)(r:yt c u):u=cv:=by
 cases c with
 |ref a=>cases h;show r
 |ty n=>cases h;show r
 |_=>cases h
def yt.nb(r:yt x u):u≠ .builtin "__main__.__loader__#opaque":=by
 cases x with
 |non=>rintro rfl;cases r
 |bl b=>rintro rfl;cases r
 |int i=>rintro rfl;have#[_,q]:=r;cases q
 |str i=>rintro rfl;have#[_,q]:=r;cases q
 |byt i=>rintro rfl;have#[_,q]:=r;cases q
 |flt i=>rintro rfl;have#[_,q]:=r;cases q
 |ref a=>rintro rfl;cases r
 |ty a=>rintro rfl;cases r
def zpD(K:uU):kx V->Hp->VK->Prop:=λxs H Q=>∃x c cv t b,xs=[x,c]/\ztw c=eV cv/\TyX K H x t/\Aq K t cv=eV b/\Q (.bl b) H
def zm2:Zt X (.builtin "isinstance") (zpD X.K):=by
 intro pins s σ H xs us Q I r h;have#[x,c,cv,t,b,rfl,hc,ty,e,q]:=h;have#[u,w',rfl,ru,rw']:=zkn r;obtain rfl:=zm1 hc rw';have#[Hh,Z,p]:=ty.kit I ru;show PySem.W.kia_one Z I.kIn p e ru.nb λtk=>#[.bl b,H,I.tok tk,rfl,q]
def Uk:Aq K t t=eV hG:=by unfold Aq;rw[GO (by simp)]
def zfX:Aq K (.type "bool") (.type "int")=eV hG:=by
 have h:(fastBuiltinMro "bool").map (·.contains (.type "int"))=eV hG:=by decide+kernel
 have hm:BH "int"=hG:=by decide+kernel
 unfold Aq Eg;rw[GP ∅];change(if BH "int"=hG then Dq K (.type "bool") (.type "int") else gi)=_;rw[GO hm];show h
def zfY:Aq K (.type "int") (.type "bool")=eV mK:=by
 have h:(fastBuiltinMro "int").map (·.contains (.type "bool"))=eV mK:=by decide+kernel
 have hm:BH "bool"=hG:=by decide+kernel
 unfold Aq Eg;rw[GP ∅];change(if BH "bool"=hG then Dq K (.type "int") (.type "bool") else gi)=_;rw[GO hm];show h
end L2
namespace L2
inductive D where
 |non|bl (b:Bool)|int (i:Int)|str (x:Str)|tup (l:List D)|lst (l:List D)|ins (C:Addr) (ns:List Str) (l:List D)
mutual
inductive Is(K:uU)(H:Hp):V->D->Prop where
 |non:Is K H .non .non
 |bl (b:Bool):Is K H (.bl b) (.bl b)
 |int (i:Int):Is K H (.int i) (.int i)
 |str (x:Str):Is K H (.str x) (.str x)
 |tup {a:Addr} {xs:List V} {ds:List D}:SqT K H a xs->IsL K H xs ds->Is K H (.ref a) (.tup ds)
 |lst {a:Addr} {xs:List V} {ds:List D}:SqL K H a xs->IsL K H xs ds->Is K H (.ref a) (.lst ds)
 |ins {a C dx:Addr} {ns:List Str} {xs:List V} {ds:List D}:H a=eV (.ins C dx (ns.zip xs))->ns.length=xs.length->IsL K H xs ds->Is K H (.ref a) (.ins C ns ds)
inductive IsL(K:uU)(H:Hp):List V->List D->Prop where
 |nil:IsL K H [] []
 |cons {v:V} {d:D} {vs:List V} {ds:List D}:Is K H v d->IsL K H vs ds->IsL K H (v::vs) (d::ds)
end
def wI(h:H p=gi):YS H (upd H p o):=λb u e=>by rw[zS (Zy e h)];show e
section
variable{Q:VK}{ta tb tc:TE}{D':zaI}{v:V}{i:Nat}
end
local macro_rules|`(tactic|walk_at "rd")=>do
 let g(s:String):=(s.splitOn " ").toArray.mapM fun n=>`(tacticSeq|refine $(Lean.mkIdent (.mkSimple n)) ?_)
 let a<-g "pH pT m7"
 let b<-g "uo rh rm ur rd pS uw uv rk pM pU rg nu pL ni pR nj nk pJ ng pQ pN nq nr rp pG pP pK nh m6"
 `(tactic|repeat first $[| $a]*|refine pF rfl ?_ $[| $b]*)
end L2
namespace L2
section
variable{Q:VK}{D':zaI}{E:XK}
end
def Fun.okE{P:Program}{w:World}{mg:Str->pf ph}{base:Heap}{x qual:Str}{st:Stmt}{f:p8}{fd:Gn}{N ps:kx Str}{k:Nat}{sp:Sp}(F:Fun K x qual st f fd)(S:zy N ps (zr st))(len:∀vs H Q E,sp vs H Q E->vs.length=ps.length)
  (dB:∀(bZ:ph) (A:Around) (outer:kx Env) (s:pA) (H:Hp) (vs:kx V) (Q:VK) (E:XK),wC k (A.deeper (envOfC qual (zr st) #v[s] f bZ))->sp vs H Q E->
   ∃t,PSs (TJ (CXE P w) P w K mg base N qual (zr st) f bZ A outer s H E) (vI st) t/\t {nx:=λ_ H'=>Q .non H',rt:=Q} (Yu N vs) H):YB P w K mg base (CXE P w) (k+1) f fd ps sp:=by
 have#[oc,od,kV,doc,pm,an,bZ,ct,gj,rfl,lk,dI]:=F.ex;show ztr lk dI S len λA outer s H vs Q E hr gU=>dB bZ A outer s H vs Q E hr gU
section
variable{Q:VK}{D':zaI}{E:XK}{EX:ph->Hp->Prop}
end
section
def zpE(h:X.K=K:=by rfl):IxR X (zpy K):=h ▸ zmM
def zm3(h:X.K=K:=by rfl):IxR X (zpx K):=h ▸ zkt
def xH(h:X.K=K:=by rfl):Zt X (.builtin "isinstance") (zpD K):=h ▸ zm2
def zlI(h:X.K=K:=by rfl):Zt X (.builtin "len") (λxs H Q=>∃p ys,xs=[.ref p]/\(SqL K H p ys\/SqT K H p ys)/\Q (.int ys.length) H):=h ▸ zfQ
def zjd(h:X.K=K:=by rfl):Zt X (.type "list") (λxs H Q=>∃p ys,xs=[.ref p]/\(SqL K H p ys\/SqT K H p ys)/\∀l,H l=gi->Q (.ref l) (upd H l (.lst ys))):=h ▸ zfR
def vf(h:X.K=K:=by rfl):Zt X (.type "tuple") (λxs H Q=>∃p ys,xs=[.ref p]/\((SqL K H p ys/\∀l,H l=gi->Q (.ref l) (upd H l (.tup ys)))\/(SqT K H p ys/\Q (.ref p) H))):=h ▸ zel
def ze5(h:X.K=K:=by rfl):OpR X (compareOp .NotIn) (rIn K hG):=h ▸ zfP
def zhv(h:X.K=K:=by rfl):SlR X (zmN K):=h ▸ zpz
def zm4(hl:PE X l tl)(h:X.K=K:=by rfl):PI X tg l (zmB K tl):=h ▸ zpl hl
def ZK(hl:PE X l tl)(h:X.K=K:=by rfl):PI X tg l (zrF K tl):=h ▸ zrG hl
def zpF{es:kx Expr}{k:Nat}{t:TGs}{n:Nat}{pos:Pos}(hc:X.calm=hG)(h:PGs X es t)(hK:X.K=K:=by rfl)
  (hn:(assignEach es X.env).length=n:=by rfl) (fI:(assignEach es X.env).findIdx? (·.1)=gi:=by rfl):PG X (.Tuple es k pos) (zpk K n t):=hK ▸ zrD hc h hn fI
def yM:vX X sc [] []:=trivial
def yK(h:vX X sc r n):vX X sc (gi::r) (x::n):=h
def zpG(h1:X.N[i]? =eV x)(h2:sc.names.lookup x=eV .free)(h:vX X sc r n):vX X sc (eV i::r) (x::n):=#[#[h1,h2],h]
end
noncomputable def zm5(osc sc:Scope):Bool:=sc.names.all (λy=>y.2 != .cell)&&sc.kind== .function&&sc.names.all (λy=>y.2 != .local||sc.names.lookup y.1==eV .local)&&
 sc.names.all (λy=>y.2 != .free||(osc.names.lookup y.1==eV .cell||osc.names.lookup y.1==eV .free))
def blk(hs:X.env.scope=osc)(h:zm5 osc sc=hG):zfT X sc:=by
 unfold zm5 at h;simp only[Aj,AB,bne_iff_ne,ne_eq,beq_iff_eq,DW] at h;have#[#[#[h1,h2],h3],h4]:=h;show#[h1,h2,λy hy e=>(h3 y hy).resolve_left λz=>z e,λy hy e=> ?_];change X.env.scope.names.lookup y.1=_\/X.env.scope.names.lookup y.1=_;rw[hs];show(h4 y hy).resolve_left λz=>z e
section
variable{g:TG}{tb:TS}{nx:St->Hp->Prop}{rt:VK}
end
mutual
noncomputable def D.depth:D->Nat
 | .tup l=>D.depths l+1
 | .lst l=>D.depths l+1
 | .ins _ _ _=>1000
 |_=>0
noncomputable def D.depths:kx D->Nat
 |[]=>0
 |d::r=>max (D.depth d) (D.depths r)
end
section
variable{Q:VK}{D':zaI}{cap:kx (pf Nat)}{wi:TI}{g:TG}{tt:TT}{te:TE}
variable{acc:p8}{H0:Hp}{Qh:Hp->Prop}
end
section
variable{σ:kx (pf V)}
def Inv.turnedL{t':Nat}{fp:kx p8}(I:Inv X pins σ H s)(k:∀b o,b∉fp->s.heap.get? b=eV o->h'.get? b=eV o)(hf:∀b∈fp,zeh X pins H b):Inv X pins σ H {s with heap:=h',toks:=t'}:=by
 have kG:∀b u,H b=eV u->b∉fp:=λb u e z=>by rw[(hf b z).1] at e;cases e
 show I.step (g':=s.gens) (d':=s.drawn) (ch:=fp) (λb hb=> ?_) (λb o _ _ hc e _=>k b o hc e) (λb o _ _ hc e _=>#[o.slots,k b o hc e]) (λ_ _ _ _ n=>n)
  (λb o hc e=>#[o,k b o hc e]) (λ_ _ e=>e) (λ_ _ _ e=>e) (λb ps e=>#[[].toArray,by rw[e];simp]) (λm hm=> ?_) (λb u e=> ?_) I.bare
 .obtain⟨f0,f1,f2,f3,f4,f5⟩:=hf b hb;show#[f3,f1,f4,f5]
 .obtain⟨o,es,ep,ho,r⟩:=hm;show#[o,es,ep,k _ o (λz=>(hf _ z).2.1 rfl) ho,r]
 show (I.hok b u e).stay (λc v hc q=>k c v ?_ q) (λ_ q=>q) λ_ _ q=>q;rcases hc with z|z;rw[z];show kG b u e;show kG c _ z
def Inv.turnedT{t':Nat}{fp:kx p8}{ys:kx V}{us:kx ph}(I:Inv X pins σ H s)(hv:ym ys us)(hl:ys.length<=FU)(k:∀b o,b∉fp->s.heap.get? b=eV o->h'.get? b=eV o)
  (hp:h'.get? #v[s]=eV {cls:= .type "tuple",data:= .seq us.toArray}) (hf:∀b∈fp,zeh X pins H b) (hx:∀b∈fp,∃o,s.heap.get? b=eV o):
  Inv X pins σ (upd H #v[s] (.tup ys)) {s with heap:=h',toks:=t'}/\H #v[s]=gi/\∀b∈fp,upd H #v[s] (.tup ys) b=gi:=by
 have fr:H #v[s]=gi:=I.hok.fresh (v3 _);have nb:∀b∈fp,b≠#v[s]:=λb hb z=>by
  have#[o,e]:=hx b hb;show absurd (Heap.lt_size e) (by rw[z];show B7 _)
 have fb:∀b∈fp,upd H #v[s] (.tup ys) b=gi:=λb hb=>by rw[zS (nb b hb)];show(hf b hb).1
 have I0:Inv X pins σ (upd H #v[s] (.tup ys)) {s with heap:=s.heap.push {cls:= .type "tuple",data:= .seq us.toArray}}:=
  I.laid (t':=s.toks) (λb o e=>Heap.get?_push_of_some _ e) (v3 _) #[hl,us,hv,YM.new _ _]
 show#[Inv.turnedL (s:={s with heap:=s.heap.push {cls:= .type "tuple",data:= .seq us.toArray}}) (t':=t') (fp:=fp) I0 (λb o hb e=> ?_) (λb hb=> ?_),fr,fb];by_cases z:b=#v[s];subst z;rw[Heap.get?_push_size _ rfl] at e;cases e;show hp;show k b o hb ?_;rwa [Heap.get?_push_ne _ _ _ z] at e;have#[f0,f1,f2,f3,f4,f5]:=hf b hb;show#[fb b hb,f1,f2,f3,f4,f5]
end
structure ZA(z TI TO i1 i2:p8):Prop where
 TIz:TI≠z
 TOz:TO≠z
 i1z:i1≠z
 i2z:i2≠z
 TITO:TI≠TO
 TIi1:TI≠i1
 TIi2:TI≠i2
 TOi1:TO≠i1
 TOi2:TO≠i2
 i12:i1≠i2
section
variable{cap:kx (pf Nat)}{g:TG}{tt:TT}{te:TE}{acc:p8}{H0:Hp}{Qh:Hp->Prop}
end
section
variable{Q:VK}{D':zaI}
end
section
variable{Q:VK}
end
open Classical in
theorem zbF(ns:kx Int):∀k,preSum (λi=>ns.getD i 0) k=(ns.take k).sum
 |0=>by simp[preSum]
 |k+1=>by
  unfold preSum;rw[zbF ns k,F6,D6];cases h:ns[k]? <;>simp[x9,h]
def ztx(K:uU):kx V->Hp->VK->Prop:=λxs H Q=>∃(p:p8) (ns:kx Int),xs=[.ref p]/\SqL K H p (ns.map V.int)/\Q (.int ns.sum) H
def ze6(hc:X.calm=hG)(hK:X.K=K:=by rfl):Zt X (.builtin "sum") (ztx K):=by
 subst hK;intro pins s σ H xs us Q I r h;have#[p,ns,rfl,hq,q]:=h;have#[u,rfl,ru]:=Uh r;cases ru;have#[ah,rv,pl,hz]:=I.list hq;have lt:p<#v[s]:=by
  have#[o,n,e,_]:=id pl;show Heap.lt_size e
 have hl:=rv.length;rw[uZ] at hl;show call_sum_walkAnyS (Gw pl.isList ?_);have W:=(Walks.list (prog:=X.prog) (w:=X.w) (A:=X.A.in1) (I.ok.hd hc) #v[s] p (z8 lt) ah.toArray).toS;show#[#v[s],_,_,_,_,_,_,λi=>ns.getD i 0,rfl,W,?_,?_,?_,?_];show#[#[_,Heap.get?_push_size _ rfl,rfl,rfl],Heap.IsList.push pl.isList _];intro b hb;rw[Heap.size_push];rcases(by simpa using hb:b=#v[s]\/b=p) with rfl|rfl;show AZ _;show C7 lt
 .intro i v hv;have hv:ah[i]? =eV v:=by simpa using hv
  have hi:i<ns.length:=by rw[hl];show(uT.1 hv).1
  (obtain⟨u,hu,t,ru⟩:=rv.get (i:=i) (x:=V.int ns[i]) (by rw[uY,uV hi];rfl);rw[hu] at hv;cases hv);show#[t,?_];rw[ru];change Value.int ns[i] t=Value.int (ns.getD i 0) t;rw[x9,uV hi,AF]
 intro s' t' m
 have I1:Inv X pins σ H {s with heap:=s'.heap,toks:=s'.toks}:=I.kept λb o e=>m.heap b o (λz=>by
  have z:b=#v[s]:=by simpa using z
  show absurd (Heap.lt_size e) (by rw[z];show B7 _)) (Heap.get?_push_of_some _ e)
 have e:({s with heap:=s'.heap,toks:=s'.toks}:pA)=s':=by
  (have h1:=m.gens;have h2:=m.drawn;have h3:=m.os;cases s';simp only at h1 h2 h3;subst h1 h2 h3;rfl)
 rw[e] at I1;show#[.int ns.sum,H,I1,#[t',?_],q];rw[zbF];have:ah.toArray.size=ns.length:=by rw[v9,<-hl]
 rw[this,A4]
section
variable{Q:VK}
end
section
variable{v:V}
end
open PyProof
def zm6:V->kx V->Hp->VK->Prop:=λx vs H Q=>∃(l:p8) (xs:kx V) (y:V) (j:Nat),x= .ref l/\vs=[y]/\H l=eV (.lst xs)/\XD y=hG/\xs.all XD=hG/\(∃z,xs[j]? =eV z/\eqV z y=hG)/\(∀m z,m<j->xs[m]? =eV z->eqV z y=mK)/\Q (.int (j:Int)) H
def zm7:MtM X "list.index" zm6:=by
 intro pins s σ H x vs v us Q I rx rv h;have#[l,xs,y,j,rfl,rfl,hH,fy,fs,#[z,nB,nA],nX,q]:=h;cases rx;have#[u,rfl,ru]:=rv.one;have#[zl,ah,n,r,hl,e]:=I.lstM hH;have hn:=Ug;have hj:j<xs.length:=(uT.1 nB).1;have fl:∀(m:Nat) (w:V),xs[m]? =eV w->XD w=hG:=λm w hw=>AB.1 fs w (uX hw);have at_:∀(m:Nat) (w:V) (hm:m<ah.toArray.size),xs[m]? =eV w->eqU y ah.toArray[m]=eqV w y:=λm w hm hw=>by
  have#[c,hc,rc]:=r.get hw;have e1:ah.toArray[m]=c:=by
   have e2:ah[m]? =eV ah[m]:=uV (by simpa using hm);rw[hc] at e2;simpa using (A0 e2).symm
  rw[e1];show zi6 rc (fl m w hw)
 show call_meets F.slot_list_index #[_,e,rfl] F.entry_list_index (F.args_list_index_2 _ _) (SeqAt.list_indexAt l ah.toArray n gi [].toArray u (eqU y) j (by rw[v9];omega) ⋯ ?_ ?_) #[e,λc hc=>zaM ru fy r fs c (by simpa using hc),?_];rw[at_ j z (by rw[v9];omega) nB];show nA
 .intro m hm gL;have dA:m<xs.length:=by omega
  rw[at_ m xs[m] hm (uV dA)];show nX m xs[m] gL (uV dA)
 show#[.int j,H,I.tok _,#[_,rfl],q]
def zpH:V->pf Int->pf Int->Hp->VK->Prop:=λx lo hi H Q=>∃z,x= .str z/\z.length<=FU/\Q (.str (Txt.slice z lo hi)) H
def zje:SlR X zpH:=by
 intro pins s σ H x v vl vu lo hi sl Q I rx hs pl pu h;have#[z,rfl,hz,q]:=h;have#[t,rfl]:=rx;show#["str",_,F.slot_str_getitem.lookup,typeIs_str _ _ _,?_];obtain⟨l,jm,eR⟩:∃l:pf (Int×Tok),vl=partValue l/\l.map (·.1)=lo:=by
  cases pl with
  |none=>show#[gi,rfl,rfl]
  |int i t=>show#[eV (i,t),rfl,rfl]
 obtain⟨u,rR,md⟩:∃l:pf (Int×Tok),vu=partValue l/\l.map (·.1)=hi:=by
  cases pu with
  |none=>show#[gi,rfl,rfl]
  |int i t=>show#[eV (i,t),rfl,rfl]
 subst jm rR eR md;show wpAny_getItem_str_slice (l:=l) (u:=u) (st:=gi) hs rfl (post_val_or_str #[v7 (Txt.slice_le z _ _) hz,λt' k=>#[.str _,H,I.tok _,#[_,rfl],q]])
def zr0(h1:(Value.type a==Value.type b)=mK)(h:(fastBuiltinMro a).map (·.contains (.type b))=eV mK)(hm:BH b=hG)(hs:Dq K (.type a) (.type b)=(fastBuiltinMro a).map (·.contains (.type b))):Aq K (.type a) (.type b)=eV mK:=by
 unfold Aq Eg;rw[GP (by rw[h1];decide)];change(if BH b=hG then Dq K (.type a) (.type b) else gi)=_;rw[GO hm,hs,h]
end L2
namespace L2
open AutoSeq1 (wpAny_loadPart')
section
def zjf(x:IsTupIter h a t i)(e:∀o,h.get? a=eV o->h'.get? a=eV o):IsTupIter h' a t i:=let ⟨o,ho,r⟩:=x;#[o,e o ho,r]
def zra(hit:IsTupIter s.heap it t i)(ht:IsTup s.heap t ah)(hx:ah[i]? =eV x)
  (q:∀h',IsTupIter h' it t (i+1)->Heap.SameBut it s.heap h'->Q x {s with heap:=h'}):wpAny (model prog w) A (Builtin.SmallTypes.nextOf (.ref it)) Q E s:=by
 have#[io,jo,ic,iQ]:=id hit;have#[qH,nI,_,tn,mO]:=ht;unfold Builtin.SmallTypes.nextOf;show qR (FY (name:=Str.ofString "__next__") hit.typeIs slot_tupleiter_next (Ga slot_tupleiter_next hit.typeIs entry_tupleiter_next ?_ (args_tupleiter_next _)));show qR (m:=field (.ref it) 0) (Gb jo iQ (x:= .ref t) rfl ?_);change wpAny _ _ (if (Value.ref t==Value.none)=hG then _ else _) _ _ s;rw[GP (show ¬((Value.ref t==Value.none)=hG) from A6)];show qR (m:=field (.ref it) 1) (Gb jo iQ (x:= .int i 0) rfl ?_);show qR (m:=seqItems? (.ref t)) (Ge nI mO ?_);simp only[z7,hx];show qR (wpAny_setField jo iQ (by simp) (uh #[x,rfl,uh (q _ #[_,Heap.get?_update_self _ jo (Obj.isFreed_of_fields (Obj.data_mapFields iQ _)),(Obj.cls_mapFields ..).trans ic,?_] (Heap.SameBut.update ..))]));rw[Obj.data_mapFields iQ];simp[Gu]
def zlJ(hh:A.handled=gi)(hit:IsTupIter s.heap it t i)(ht:IsTup s.heap t ah)(hx:ah[i]? =gi)
  (q:∀h' e,Heap.ExtBut it s.heap h'->(∃o,h'.get? e=eV o/\o.cls= .type "StopIteration")->E (.ref e) {s with heap:=h'}):wpAny (model prog w) A (Builtin.SmallTypes.nextOf (.ref it)) Q E s:=by
 have#[io,jo,ic,iQ]:=id hit;have#[qH,nI,_,tn,mO]:=ht;unfold Builtin.SmallTypes.nextOf;show qR (FY (name:=Str.ofString "__next__") hit.typeIs slot_tupleiter_next (Ga slot_tupleiter_next hit.typeIs entry_tupleiter_next ?_ (args_tupleiter_next _)));show qR (m:=field (.ref it) 0) (Gb jo iQ (x:= .ref t) rfl ?_);change wpAny _ _ (if (Value.ref t==Value.none)=hG then _ else _) _ _ s;rw[GP (show ¬((Value.ref t==Value.none)=hG) from A6)];show qR (m:=field (.ref it) 1) (Gb jo iQ (x:= .int i 0) rfl ?_);show qR (m:=seqItems? (.ref t)) (Ge nI mO ?_);simp only[z7,hx];show qR (wpAny_rule (qR (wpAny_setField jo iQ (by simp) ?_)));show qR (m:=newExc (.type "StopIteration") []) ?_;simp only[newExc,newTuple];show qR (FZ ?_ (by size_fits));show qR (m:=GF _ _) (Gs (a:=Value.none) (by first|rfl|(simp only[GF];rfl)) ?_);show FZ ?_ (by size_fits);simp only[raiseNew];show qR (wpAny_handled ?_);(first|rw[show A.in1.handled=gi from hh]|rw[hh]);show qR (uh (wpAny_throw (q _ _ (((Heap.SameBut.update ..).extBut.push _).push _) #[_,Heap.get?_push_size _ rfl,rfl])))
end
end L2
namespace L2
section
variable{w:World}
end
mutual
def D.small(n:Nat):D->Prop
 | .int i=>i.natAbs<2^n
 | .tup l=>D.smalls n l
 | .lst l=>D.smalls n l
 | .non=>True
 | .bl _=>True
 | .str _=>False
 | .ins _ _ _=>False
def D.smalls(n:Nat):kx D->Prop
 |[]=>True
 |d::r=>D.small n d/\D.smalls n r
end
mutual
noncomputable def D.wt(n:Nat):D->Nat
 | .tup l=>D.wts n l
 | .lst l=>D.wts n l
 | .int _=>n
 |_=>0
noncomputable def D.wts(n:Nat):kx D->Nat
 |[]=>0
 |d::r=>D.wt n d+1+D.wts n r
end
def zm8:mroOf (.type "reversed")=pure [.type "reversed",.type "object"]:=by rw[mroOf_type];kernel_rfl
def zr1:typeLookup (.type "reversed") "__new__"=pure (eV (.builtin "reversed.__new__")):=by rw[Gz,Gg];kernel_rfl
def zpI:Slot "reversed" "__init__" "object.__init__":= .of (owner:="object") (n:="__init__") (by rw[Gz,Gg];kernel_rfl) (*...*) (*...*) (*...*) (by first|exact .inl (*...*)|exact .inr (*...*)) (by rw[GB];kernel_rfl)
def zlK:TypeCalled "reversed" "reversed.__new__" "object.__init__":=#[*...*, *...*,#[_,_,zm8],madeBy_type zm8 zr1 (*...*), *...*,by rw[GB];kernel_rfl,zpI]
def zhw(a:ph):checkTypeCall "reversed" #[[a],[]]=pure ():=by kernel_rfl
def zjg(a:ph):checkBuiltinCall "reversed.__new__" #[[.type "reversed",a],[]]=pure ():=by kernel_rfl
def zhx:entryFor table "reversed.__new__"=eV GD.«reversed.__new__» :=entryFor_of_tree (by kernel_rfl)
def zr2:isSubtype (.type "reversed") (.type "reversed")=pure hG:=by rw[GB];kernel_rfl
def zhy:Manifest.owners.lookup (String.ofList ['d','e','s','r','e','v','e','r'].reverse)=eV Manifest.sig_reversed:=by kernel_rfl
def zaO:Slot "reversed" "__next__" "reversed.__next__":= .of (owner:="reversed") (n:="__next__") (by rw[Gz,Gg];kernel_rfl) (*...*) (*...*) (*...*) (by first|exact .inl (*...*)|exact .inr (*...*)) (by rw[GB];kernel_rfl)
def zaP:entryFor table "reversed.__next__"=eV GD.«reversed.__next__» :=entryFor_of_tree (by kernel_rfl)
def zcc(a:ph):argsOk "reversed.__next__" #[[a],[]]:=by
 unfold argsOk;rw[signature?_of (id:="reversed.__next__") (n:=['_','_','t','x','e','n','_','_']) (o:=['d','e','s','r','e','v','e','r']) (by kernel_rfl) zhy];kernel_rfl
def zkD:Slot "reversed" "__iter__" "reversed.__iter__":= .of (owner:="reversed") (n:="__iter__") (by rw[Gz,Gg];kernel_rfl) (*...*) (*...*) (*...*) (by first|exact .inl (*...*)|exact .inr (*...*)) (by rw[GB];kernel_rfl)
def zhz(a:ph):argsOk "reversed.__iter__" #[[a],[]]:=by
 unfold argsOk;rw[signature?_of (id:="reversed.__iter__") (n:=['_','_','r','e','t','i','_','_']) (o:=['d','e','s','r','e','v','e','r']) (by kernel_rfl) zhy];kernel_rfl
def zfZ:entryFor table "reversed.__iter__"=eV GD.«dict_keyiterator.__iter__» :=entryFor_alias (id':="dict_keyiterator.__iter__") (by kernel_rfl) (by first|rfl|decide+kernel|(unfold String.splitOn;simp+decide [String.splitOnAux])) (*...*) (by kernel_rfl)
def zpJ:typeLookup (.type "tuple") "__reversed__"=pure gi:=by rw[Gz,Gg];kernel_rfl
noncomputable abbrev zhA(t:p8)(i:Int):Obj:={cls:= .type "reversed",data:= .fields [.ref t,Gu i].toArray}
noncomputable abbrev zjh(h:Heap)(a t:p8)(i:Int):Prop:=h.get? a=eV (zhA t i)
section
def zhB(a:ph):Builtin.SmallTypes.newClass "reversed" #[[.type "reversed",a],[]]=pure (.type "reversed",[a]):=by
 unfold Builtin.SmallTypes.newClass;simp only[isType,zr2,pure_bind,Bool.not_true,Dm,if_false]
def zm9(t:p8)(ah:Array ph)(hz:(ah.size:Int)<2^63):Meets (GD.«reversed.__new__» #[[.type "reversed",.ref t],[]]) (λ_ R s=>IsTup s.heap t ah/\∀tk,R (.ok (.ret (.ref #v[s]))) {s with heap:=s.heap.push (zhA t ((ah.size:Int)-1)),toks:=tk}):=
 .of_wp λprog w A R s h=>by
  have#[hT,h]:=h;unfold GD.«reversed.__new__»;show qR (Gs (zhB _) ?_)
  try dsimp only
  show qR (Gs (a:=()) (by first|rfl|kernel_rfl) ?_);show qR (Gs (a:=()) (by first|rfl|kernel_rfl) ?_)
  try dsimp only
  show qR (Gh hT.typeIs zpJ ?_)
  try dsimp only
  show qR ?_;change wpAny _ _ (isInstance (.ref t) (.type "dict")>>=_) _ _ _;show qR (Gp (T:="tuple") (b:=mK) hT.typeIs (by rw[GB];kernel_rfl) ?_);rw[GP ∅];change wpAny _ _ (specialOf (.ref t) "__getitem__">>=_) _ _ _;show qR (Gh hT.typeIs slot_tuple_getitem.lookup ?_);dsimp only;rw[GO ∅];show uh ?_;rw[GP ∅];show qR (len_tuple hT hz ?_);show qR (Gs (a:=eV (ah.size:Int)) rfl ?_);dsimp only;show qR (m:=Builtin.SmallTypes.newRecord (.type "reversed") [.ref t,Gu ((ah.size:Int)-1)]) ?_;unfold Builtin.SmallTypes.newRecord
  first
  |exact FZ (uh #[_,rfl,h _])
  |(wp_walk;show#[_,rfl,h _])
def zna{it t:p8}{i:Nat}{ah:Array ph}{x:ph}{Q:pf ph->pA->Prop}(hit:zjh s.heap it t (i:Int))(ht:IsTup s.heap t ah)(hx:ah[i]? =eV x)(hs:(i:Int)<2^63)
  (q:∀h' tk,zjh h' it t ((i:Int)-1)->Heap.SameBut it s.heap h'->Q (eV x) {s with heap:=h',toks:=tk}):wpAny (model prog w) A (pyNext (.ref it)) Q E s:=by
 have hT:s.TypeIs (.ref it) "reversed":=#[_,hit,rfl];unfold pyNext;show qR (Gq (FY (name:=Str.ofString "__next__") hT zaO (Ga zaO hT zaP ?_ (zcc _))));unfold GD.«reversed.__next__»;show qR (Gs (a:=(Value.ref it,[])) rfl ?_);(try dsimp only);show qR (Gb hit rfl (x:= .ref t) rfl ?_);show qR (Gb hit rfl (x:=Gu (i:Int)) rfl ?_);change wpAny _ _ (if (i:Int)<0 then _ else _) _ _ s;rw[GP ⋯];show qR (Gh ht.typeIs slot_tuple_getitem.lookup ?_);rw[GP ∅];show qR (wpAny_mkInt ?_);have gL:i<ah.size:=(Cd.1 hx).1;have iW:seqIndex? (i:Int) ah.size=eV i:=by
  unfold seqIndex?;simp only[show ¬((i:Int)<0) by omega,if_false];rw[GO (by simp;omega),z7]
 show qR (Gq (getItem_tuple (j:=i) ht ⋯ hs iW hx ?_));(try dsimp only);show qR (Gb hit rfl (x:=Gu (i:Int)) rfl ?_);(try dsimp only);show qR (Gd hit (by simp) λh' oh gJ=> ?_);show uh #[_,rfl,uh (q h' _ oh gJ)]
def zpK{Q:pf ph->pA->Prop}(hh:A.handled=gi)(hit:zjh s.heap it t (-1))(q:∀h',Heap.ExtBut it s.heap h'->Q gi {s with heap:=h'}):wpAny (model prog w) A (pyNext (.ref it)) Q E s:=by
 have hT:s.TypeIs (.ref it) "reversed":=#[_,hit,rfl];unfold pyNext;show qR (Gq (FY (name:=Str.ofString "__next__") hT zaO (Ga zaO hT zaP ?_ (zcc _))));unfold GD.«reversed.__next__»;show qR (Gs (a:=(Value.ref it,[])) rfl ?_);(try dsimp only);show qR (Gb hit rfl (x:= .ref t) rfl ?_);show qR (Gb hit rfl (x:=Gu (-1)) rfl ?_);change wpAny _ _ (if (-1:Int)<0 then _ else _) _ _ s;rw[GO ∅];show qR (wpAny_rule ?_);show qR ?_;change wpAny _ _ (setField (.ref it) 1 (Gu (-1))>>=_) _ _ s;show qR (Gd hit (by simp) λh1 jM nN=> ?_)
 replace jM:zjh h1 it t (-1):=jM
 change wpAny _ _ (setField (.ref it) 0 .none) _ _ _;show Gd jM (by simp) λh2 sN ib=> ?_
 first
 |refine qR (m:=newExc (.type "StopIteration") []) ?_
 |(show qR ?_;show qR (m:=newExc (.type "StopIteration") []) ?_)
 simp only[newExc,newTuple];show qR (FZ ?_ (by size_fits));show qR (m:=GF _ _) (Gs (a:=Value.none) (by first|rfl|(simp only[GF];rfl)) ?_);show FZ ?_ (by size_fits);simp only[raiseNew];show qR (wpAny_handled ?_);(first|rw[show A.in1.handled=gi from hh]|rw[hh]);show qR (uh (wpAny_throw ?_));show qR (Gp (T:="StopIteration") (b:=hG) #[_,Heap.get?_push_size _ rfl,rfl] isSubtype_stop (uh (q _ ?_)));show λb o hb e=>Heap.get?_push_of_some _ (Heap.get?_push_of_some _ (ib.extBut b o hb (nN.extBut b o hb e)))
def zhC(hit:zjh s.heap it t i)(q:Q (.ref it) s):wpAny (model prog w) A (pyIter (.ref it)) Q E s:=by
 have hT:s.TypeIs (.ref it) "reversed":=#[_,hit,rfl];show wpAny_pyIter_slot hT zkD (Ga zkD hT zfZ ?_ (zhz _));change wpAny _ _ (ret (Value.ref it)) _ _ _;show uh #[_,rfl,"reversed",_,hT,zaO.lookup,q]
def znb(hT:IsTup s.heap t ah)(hz:(ah.size:Int)<2^63)
  (h:∀tk,Q (.ref #v[s]) {s with heap:=s.heap.push (zhA t ((ah.size:Int)-1)),toks:=tk}):wpAny (model prog w) A (call (.type "reversed") [.ref t]) Q E s:=
 callType_new zlK ∅ (zhw _) (zjg _) (λobj=>F.args_object_init_2 obj _) zhx (zm9 t ah hz) #[hT,λtk=>#[#[_,Heap.get?_push_size _ rfl,rfl],h tk]]
end
noncomputable def ItR(K:uU)(a:p8)(n:Nat):It:=
 #[λi H=>i<n/\∃xs,SqT K H a xs/\xs.length=n,λi H x H'=>H'=H/\∀xs,SqT K H a xs->xs[n-1-i]? =eV x,λi H=>i=n]
def znc{P:Program}(a it:p8)(n:Nat):ziU P w K tg (ItR K a n) [it] it (λi h=>zjh h it a ((n:Int)-1-(i:Int))) where
 mem:=by simp
 obj:=λi h st b hb=>by
  have e:b=it:=by simpa using hb
  subst e;show#[_,st,λv z=>by cases z]
 keep:=λi h h' st k=>k it (by simp) _ st
 item:=by
  walk_at "!b";have#[hi,xs,hq,hl]:=hg;have hx:xs[n-1-i]? =eV (xs[n-1-i]'⋯):=uV ⋯;have#[ah,rv,p,hz]:=I.tuple hq;have#[u,hu,ru]:=rv.get hx;have#[f0,f1,f2,f3,f4,f5]:=hf it (by simp);have hn:=Ug;have e:(n:Int)-1-(i:Int)=((n-1-i:Nat):Int):=by omega
  rw[e] at st;show zna st p (x:=u) (by simpa using hu) ⋯ λh' tk st' sb=> ?_;have I1:Inv X pins σ H {s with heap:=h',toks:=tk}:=I.turned (t':=tk) (λb o hb e=>(sb.2 b hb).trans e) f0 f1 f3 f4 f5;have e2:((n-1-i:Nat):Int)-1=(n:Int)-1-((i+1:Nat):Int):=by omega
  rw[e2] at st';show#[u,rfl,zkm (s:={s with heap:=h',toks:=tk}) (n:="reversed") st' rfl rfl ∅ #[_,H,I1,ru,#[rfl,λys hy=>by rw[I.tuple_inj hy hq];show hx],st',λb hb=>(hf b hb).1]]
 done:=by
  walk_at "!b";have hg:i=n:=hg;have#[f0,f1,f2,f3,f4,f5]:=hf it (by simp);have e:(n:Int)-1-(i:Int)= -1:=by omega
  rw[e] at st;show zpK (I.ok.hd hc) st λh' eb=>#[rfl,I.turned (t':=s.toks) (λb o hb e=>eb b o hb e) f0 f1 f3 f4 f5]
 self:=λ_ _ _ _ _ st h=>zhC st h
section
variable{tg:Expr}
def zty(K:uU)(ta:TA):TI:=λσ H R=>ta σ H λvs H1=>∃a xs,vs=[.ref a]/\SqT K H1 a xs/\R (ItR K a xs.length) H1
def znd{l:Expr}{ta:TA}{p pos:Pos}(hg:Gl X "reversed")(hm:X.mg "reversed"=gi)(ha:PA X [l] ta)(hK:X.K=K:=by rfl)(hs:FW [l] X.env=[(mK,eval l X.env)]:=by rfl):
  PI X tg (.Call (.Name "reversed" p) [l] [] pos) (zty K ta):=by
 subst hK;intro pins s σ H R I h;show Call_ (Ue I hg hm Boot.«reversed» (AW (thn (ha pos pins s σ H _ I h) ?_) hs rfl));intro us s1 #[vs,H1,I1,r1,q1];have#[a,xs,e,hq,q]:=q1;subst e;have#[u,rfl,ru]:=Uh r1;cases ru;have#[ah,rv,p,hz]:=I1.tuple hq;have hl:=rv.length;have hn:=Ug;show znb p (by rw[v9];omega) λtk=> ?_;have I2:Inv X pins σ H1 {s1 with heap:=s1.heap.push (zhA a ((ah.toArray.size:Int)-1)),toks:=tk}:=I1.kept (t':=tk) λb o e=>Heap.get?_push_of_some _ e;show zhC (s:={s1 with heap:=s1.heap.push (zhA a ((ah.toArray.size:Int)-1)),toks:=tk}) (Heap.get?_push_size _ rfl) ?_;show#[#v[s1],[#v[s1]],_,_,H1,rfl,I2,znc a #v[s1] xs.length,?_,λb hb=> ?_,q]
 .have e:((ah.toArray.size:Nat):Int)-1=(xs.length:Int)-1-((0:Nat):Int):=by rw[v9];omega
  change zjh _ _ _ _;rw[<-e];show Heap.get?_push_size _ rfl
 have e:b=#v[s1]:=by simpa using hb
 subst e;show Inv.fpOk I1 (v3 _) (I1.hok.fresh (v3 _))
def zrb(K:uU):R2:=λx y H Q=>∃a b xs ys,x= .ref a/\y= .ref b/\SqT K H a xs/\SqT K H b ys/\xs.length+ys.length<=FU/\(xs=[]->Q (.ref b) H)/\(xs≠[]->ys=[]->Q (.ref a) H)/\(xs≠[]->ys≠[]->∀p,H p=gi->Q (.ref p) (upd H p (.tup (xs++ys))))
def Vd(hK:X.K=K:=by rfl):OpR X (GA .Add) (zrb K):=by
 subst hK;intro pins s σ H x y v u Q I rx ry h;have#[a,b,xs,ys,e1,e2,ha,hb,hz,q1,q2,q3]:=h;by_cases hx:xs=[];subst e1 e2;cases rx;cases ry;have#[ah,r1,p1,_]:=I.tuple ha;have#[dy,r2,p2,_]:=I.tuple hb;have#[#[cls,dd,data,sl],ho,hc,n,hd]:=id p1;have#[#[oV,mI,data2,jX],jJ,iY,n2,hd2]:=id p2;simp only at hc hd iY hd2;subst hc hd iY hd2;show concat_meets #[_,ho,rfl] #[_,jJ,rfl] noFill_tuple_add seq_tuple_add CM Cz (Cp _ _) (tuple_addW0 a b ah.toArray dy.toArray n n2 dd mI sl jX (by have:=r1.nil_iff.mpr hx;simp[this])) #[ho,jJ,#[.ref b,H,I,rfl,q1 hx]];show zpv pins s σ H x y v u Q I rx ry #[a,b,xs,ys,e1,e2,ha,hb,hx,hz,q2 hx,q3 hx]
end
open PyProof
def zrc(K:uU):kx V->Hp->VK->Prop:=λxs H Q=>∃(p:p8) (ns:kx Int),xs=[.ref p]/\SqT K H p (ns.map V.int)/\Q (.int ns.sum) H
def zdh(hc:X.calm=hG)(hK:X.K=K:=by rfl):Zt X (.builtin "sum") (zrc K):=by
 subst hK;intro pins s σ H xs us Q I r h;have#[p,ns,rfl,hq,q]:=h;have#[u,rfl,ru]:=Uh r;cases ru;have#[ah,rv,pl,hz]:=I.tuple hq;have lt:p<#v[s]:=pl.lt;have hl:=rv.length;rw[uZ] at hl;have pl':s.heap.IsTuple p ah.toArray:=pl;show call_sum_walkAnyS (wpAny_pyIter_tuple pl' ?_);have W:=(Walks.tuple (prog:=X.prog) (w:=X.w) (A:=X.A.in1) (I.ok.hd hc) #v[s] p (z8 lt) ah.toArray).toS;show#[#v[s],_,_,_,_,_,_,λi=>ns.getD i 0,rfl,W,?_,?_,?_,?_];show#[#[_,Heap.get?_push_size _ rfl,rfl,rfl],IsTup.push pl _];intro b hb;rw[Heap.size_push];rcases(by simpa using hb:b=#v[s]\/b=p) with rfl|rfl;show AZ _;show C7 lt
 .intro i v hv;have hv:ah[i]? =eV v:=by simpa using hv
  have hi:i<ns.length:=by rw[hl];show(uT.1 hv).1
  (obtain⟨u,hu,t,ru⟩:=rv.get (i:=i) (x:=V.int ns[i]) (by rw[uY,uV hi];rfl);rw[hu] at hv;cases hv);show#[t,?_];rw[ru];change Value.int ns[i] t=Value.int (ns.getD i 0) t;rw[x9,uV hi,AF]
 intro s' t' m
 have I1:Inv X pins σ H {s with heap:=s'.heap,toks:=s'.toks}:=I.kept λb o e=>m.heap b o (λz=>by
  have z:b=#v[s]:=by simpa using z
  show absurd (Heap.lt_size e) (by rw[z];show B7 _)) (Heap.get?_push_of_some _ e)
 have e:({s with heap:=s'.heap,toks:=s'.toks}:pA)=s':=by
  (have h1:=m.gens;have h2:=m.drawn;have h3:=m.os;cases s';simp only at h1 h2 h3;subst h1 h2 h3;rfl)
 rw[e] at I1;show#[.int ns.sum,H,I1,#[t',?_],q];rw[zbF];have:ah.toArray.size=ns.length:=by rw[v9,<-hl]
 rw[this,A4]
theorem ze7(a:Array Nat):∀m:Nat,(Ac m).filterMap (λi=>a[i]?)=a.toList.take m
 |0=>rfl
 |m+1=>by
  rw[D7,List.filterMap_append,ze7 a m,F6];rw[BG];cases h:a[m]? <;>simp[h]
end L2
namespace L2
def ztz(K:uU):kx V->Hp->VK->Prop:=λxs H Q=>∃(p:p8) (bs:kx Bool),xs=[.ref p]/\SqL K H p (bs.map V.bl)/\Q (.bl (bs.any id)) H
def ztA(K:uU):kx V->Hp->VK->Prop:=λxs H Q=>∃(p:p8) (bs:kx Bool),xs=[.ref p]/\SqL K H p (bs.map V.bl)/\Q (.bl (bs.all id)) H
def zlL:∀(bs:kx Bool),(Ac bs.length).any (λi=>bs.getD i mK)=bs.any id:=λbs=>by
 rw[AV,Bu,Bu];constructor;intro#[i,hi,h];have hi:=Ba.1 hi;rw[x9,uV hi,AF] at h;show#[_,A9 hi,h];intro#[b,hb,h];have#[i,hi,e]:=Ep.1 hb;show#[i,Ba.2 hi,?_];rw[x9,uV hi,AF,e];show h
def zlM:∀(bs:kx Bool),(Ac bs.length).all (λi=>bs.getD i mK)=bs.all id:=λbs=>by
 rw[AV,AB,AB];constructor;intro h b hb;have#[i,hi,e]:=Ep.1 hb;have:=h i (Ba.2 hi);rw[x9,uV hi,AF,e] at this;show this;intro h i hi;have hi:=Ba.1 hi;rw[x9,uV hi,AF];show h _ (A9 hi)
def zdi{p:p8}{bs:kx Bool}(hc:X.calm=hG)(I:Inv X pins σ H s)(hq:SqL X.K H p (bs.map V.bl)){R:ph->pA->Prop}
  (k:∀Ia fp wr G n P St tr (s₂:pA),WalksS X.prog X.w X.A.in1 Ia fp wr G n P St->St 0 s₂->TruthOf X.prog X.w X.A.in1 P tr->n=bs.length->(tr=λi=>bs.getD i mK)->(∀s',Moved wr G s₂ s'->Inv X pins σ H s')->R (.ref Ia) s₂):
  wpAny (model X.prog X.w) X.A.in1 (pyIter (.ref p)) R X.xe s:=by
 have#[ah,rv,pl,hz]:=I.list hq;have lt:p<#v[s]:=by
  have#[o,n,e,_]:=id pl;show Heap.lt_size e
 have hl:=rv.length;rw[uZ] at hl;show Gw pl.isList ?_;have W:=(Walks.list (prog:=X.prog) (w:=X.w) (A:=X.A.in1) (I.ok.hd hc) #v[s] p (z8 lt) ah.toArray).toS;show k #v[s] _ _ _ _ _ _ (λi=>bs.getD i mK) _ W ?_ ?_ ?_ rfl ?_;show#[#[_,Heap.get?_push_size _ rfl,rfl,rfl],Heap.IsList.push pl.isList _]
 .intro i v s Q E hv hQ;have hv:ah[i]? =eV v:=by simpa using hv
  have hi:i<bs.length:=by rw[hl];show(uT.1 hv).1
  have#[u,hu,ru]:=rv.get (i:=i) (x:=V.bl bs[i]) (by rw[uY,uV hi];rfl);have e0:u=v:=by
   rw[hu] at hv;show A0 hv
  have ru:u=Value.bool bs[i]:=ru;rw[<-e0,ru];show Gv ?_;have e:bs.getD i mK=bs[i]:=by rw[x9,uV hi,AF]
  rw[<-e];show hQ
 .rw[v9,<-hl]
 intro s' m
 have I1:Inv X pins σ H {s with heap:=s'.heap,toks:=s'.toks}:=I.kept λb o e=>m.heap b o (λz=>by
  have z:b=#v[s]:=by simpa using z
  show absurd (Heap.lt_size e) (by rw[z];show B7 _)) (Heap.get?_push_of_some _ e)
 have e:({s with heap:=s'.heap,toks:=s'.toks}:pA)=s':=by
  (have h1:=m.gens;have h2:=m.drawn;have h3:=m.os;cases s';simp only at h1 h2 h3;subst h1 h2 h3;rfl)
 rw[e] at I1;show I1
def ze8(hc:X.calm=hG)(hK:X.K=K:=by rfl):Zt X (.builtin "any") (ztz K):=by
 subst hK;intro pins s σ H xs us Q I r h;have#[p,bs,rfl,hq,q]:=h;have#[u,rfl,ru]:=Uh r;cases ru;show call_any_walkS (zdi hc I hq λIa fp wr G n P St tr s₂ W h0 ht hn ia hm=>#[Ia,fp,wr,G,n,P,St,tr,rfl,W,h0,ht,λs' m=>#[.bl _,H,hm s' m,rfl,?_]]);rw[hn,ia,zlL];show q
def zbG(hc:X.calm=hG)(hK:X.K=K:=by rfl):Zt X (.builtin "all") (ztA K):=by
 subst hK;intro pins s σ H xs us Q I r h;have#[p,bs,rfl,hq,q]:=h;have#[u,rfl,ru]:=Uh r;cases ru;show call_all_walkS (zdi hc I hq λIa fp wr G n P St tr s₂ W h0 ht hn ia hm=>#[Ia,fp,wr,G,n,P,St,tr,rfl,W,h0,ht,λs' m=>#[.bl _,H,hm s' m,rfl,?_]]);rw[hn,ia,zlM];show q
def Inv.lstR(I:Inv X pins σ H s)(hH:SqX X.K H l xs):xs.length<=FU/\∃(ah:kx ph) (n:Nat),ym xs ah/\xs.length=ah.length/\s.heap.get? l=eV {cls:= .type "list",data:= .seq ah.toArray n}:=by
 rcases hH with hH|⟨ah,n,hk,hz,r⟩
 .obtain⟨z,ah,n,r,e⟩:=hH.ok I.hok;show#[z,ah,n,r,r.length,e]
 have hl:=r.length;have eR:ah.toList.length=ah.size:=Bq;show#[⋯,ah.toList,n,r,r.length,I.kIn l _ hk]
def zrd(K:uU):R2:=λx y H Q=>∃l b xs zs,x= .ref l/\y= .ref b/\SqX K H l xs/\SqX K H b zs/\xs.length+zs.length<=FU/\∀p,H p=gi->Q (.ref p) (upd H p (.lst (xs++zs)))
def zpL(hK:X.K=K:=by rfl):OpR X (GA .Add) (zrd K):=by
 subst hK;intro pins s σ H x y v u Q I rx ry h;have#[l,b,xs,zs,rfl,rfl,hH,hB,hz,q]:=h;cases rx;cases ry;have#[z,ah,n,r,hl,e]:=I.lstR hH;have#[z2,dy,n2,r2,eR,e2]:=I.lstR hB;show PySem.P.add_list e e2 ?_ (by rw[v9,v9];omega);have ea:ah.toArray++dy.toArray=(ah++dy).toArray:=by simp
 rw[ea];show#[.ref _,_,I.lnew (t':=s.toks) (r.append r2) (by rw[y7];omega),rfl,q _ I.fresh]
def zlN(l:p8)(items:Array ph)(n:Nat)(b:p8)(ob:Obj)(T:String)(dc:Array ph)(n2:Nat)(hT:T="list"\/T="tuple")(kR:(!items.isEmpty&&Builtin.List.listTooLong (items.size+dc.size))=mK)(nN:items.size<=FU)(ib:items.size+dc.size<=FU):
  Meets (GD.«list.extend» #[[.ref l,.ref b],[]]) (λ_ R s=>s.heap.get? l=eV {cls:= .type "list",dict:=gi,data:= .seq items n,slots:= [].toArray}/\s.heap.get? b=eV ob/\ob.cls= .type T/\ob.data= .seq dc n2/\R (.ok (.ret Value.none)) {s with heap:=s.heap.update l (Obj.mapSeq λx=>x++dc),toks:=s.toks}):=by
 intro prog w A R s h;have#[hl,hb,hc,hd,hR]:=h;change wpAny _ _ (Builtin.List.listExtendWith (.ref l) (.ref b) .none) _ _ s;unfold Builtin.List.listExtendWith;show qR (wpAny_typeOf (T:=T) #[ob,hb,hc] ?_);have lu:(Builtin.List.listSameRef (.ref l) (.ref b)||Value.type T==Value.type "list"||Value.type T==Value.type "tuple")=hG:=by
  rcases hT with rfl|rfl<;>simp
 rw[GO lu];show qR ?_;unfold Builtin.List.listItems;show qR (Ge hb hd (uh ?_));show qR ?_;show qR (Ge hl rfl (uh ?_));rw[GP (by rw[kR];show A6)];have i9:(items++dc).size<=FU+1:=by rw[Array.size_append];omega
 show qR (m:=Builtin.List.listUpdate (.ref l) (· ++dc)) ?_;change wpAny _ _ (updateSeq l (λx=>x++dc)) _ _ s;show wpAny_updateSeq hl rfl (hz:=nN) (_hz':=i9) ?_;show uh hR
def zhD(K:uU):V->kx V->Hp->VK->Prop:=λx vs H Q=>∃l b xs zs,x= .ref l/\vs=[.ref b]/\H l=eV (.lst xs)/\(SqX K H b zs\/SqT K H b zs)/\xs.length+zs.length<=FU/\Q .non (upd H l (.lst (xs++zs)))
def zdj(hK:X.K=K:=by rfl):MtR X "list.extend" (zhD K):=by
 subst hK;intro pins s σ H x vs v us Q I rx rv h;have#[l,b,xs,zs,rfl,rfl,hH,hB,hz,q]:=h;cases rx;have#[u,rfl,ru]:=rv.one;cases ru;have#[z,ah,n,r,hl,e]:=I.lstM hH;have key:∀{dy:kx ph} {ob:Obj} {T:String} {n2:Nat},ym zs dy->(T="list"\/T="tuple")->s.heap.get? b=eV ob->ob.cls= .type T->ob.data= .seq dy.toArray n2->
   wpAny (model X.prog X.w) X.A (call (.builtin "list.extend") [.ref l,.ref b]) (EP X pins σ Q) X.xe s:=by
  intro dy ob T n2 r2 hT hb hc hd;have eR:=r2.length;have hsz:ah.toArray.size+dy.toArray.size<=FU:=by rw[v9,v9];omega
  show call_meets F.slot_list_extend #[_,e,rfl] F.entry_list_extend (F.args_list_extend_2 _ _)
   (zlN l ah.toArray n b ob T dy.toArray n2 hT (by rw[zmP hsz,Bool.and_false]) (by rw[v9];omega) hsz) #[e,hb,hc,hd,?_]
  show#[.non,_,I.lset (its':=ah++dy) hH e (by simp) (r.append r2) ?_,rfl,q];rw[y7];omega
 rcases hB with hB|hB;have#[z2,dy,n2,r2,eR,e2]:=I.lstR hB;show key r2 (.inl rfl) e2 rfl rfl;have#[dy,r2,#[ob,hb,hc,n2,hd],_]:=I.tuple hB;show key r2 (.inr rfl) hb hc hd
def zlO:typeLookup (.type "list_reverseiterator") "__len__"=pure gi:=by rw[Gz,Gg];kernel_rfl
def zne:typeLookup (.type "list_reverseiterator") "__length_hint__"=pure (eV (.builtin "list_reverseiterator.__length_hint__")):=by rw[Gz,Gg];kernel_rfl
section
def zji{R:Result->pA->Prop}(hh:A.handled=gi)(hn:items.size<=FU)(S:p8)(res:ph)(c₀:Nat)(hS:s.heap.get? S=eV {cls:= .type "list",data:= .seq [].toArray c₀})
  (hit:s.heap.IsRevIter it l ((items.size:Int)-1)) (hl:s.heap.IsList l items) (gW:l≠it) (qk:S≠it) (tf:S≠l)
  (hR:∀h' tk acc' c',(∀b o,b≠S->b≠it->s.heap.get? b=eV o->h'.get? b=eV o)->h'.get? S=eV {cls:= .type "list",dict:=gi,data:= .seq acc' c',slots:= [].toArray}->
   ItemsOf (λi v=>items[items.size-1-i]? =eV v) acc' items.size->R (.ok (.ret res)) {s with heap:=h',toks:=tk}):
  wpAny (model prog w) A.in1 (Builtin.List.listExtendWith (.ref S) (.ref it) res)
   (λfin s'=>match fin with| .done f=>R (.ok f) s'| .again c'=>c'.quiet=hG/\GL (model prog w) A c' R s') (λe s'=>R (.error e) s') s:=by
 have tj:S∉[it,l]:=λhm=>by
  rcases x8.mp hm with e|hm;show qk e;show tf (A7.mp hm)
 have W:=(Walks.listRev (prog:=prog) (w:=w) (A:=A.in1) hh it l gW items).toS;have fI:0<=items.size/\s.heap.IsRevIter it l ((items.size:Int)-1-((0:Nat):Int))/\s.heap.IsList l items:=#[BK _,by simpa using hit,hl];unfold Builtin.List.listExtendWith;show qR (wpAny_typeOf (T:="list_reverseiterator") hit.typeIs ?_);have h1:Builtin.List.listSameRef (.ref S) (.ref it)=mK:=by simp[Builtin.List.listSameRef,qk]
 rw[GP (by rw[h1];decide)];show qR (wpAny_pyIter_revIter hit ?_);show qR (Gm ?_);unfold Builtin.List.listLengthHint;show qR (Gh hit.typeIs zlO ?_);change wpAny _ A.in1 (specialOf (Value.ref it) (Str.ofString "__length_hint__")>>=_) _ _ _;show qR (Gh hit.typeIs zne ?_)
 (generalize oj:("list_reverseiterator.__length_hint__":String)=pE;(fail_if_success (clear oj pE));wp_delta;rw[show splitId pE=eV ("list_reverseiterator","__length_hint__") from by subst oj;decide+kernel];subst oj)
 show qR (Gp (b:=hG) hit.typeIs (by rw[GB];kernel_rfl) ?_);show uh ?_;rw[GP ∅];show uh #[plainId_quiet F.plain_extend_loop _,codeAny_extend_loopS W hn _ tj _ items.size 0 _ _ _ rfl (BK _) fI hS (ItemsOf.nil _) λs' acc' c' hm lB cZ=> ?_];rw[Moved.eq_with hm];show hR s'.heap s'.toks acc' c' (λb ob hb oF e=>hm.heap b ob (λgK=> ?_) e) lB cZ;rcases x8.mp gK with e'|gK;show hb e';show oF (A7.mp gK)
def zeo(hh:A.handled=gi)(hn:items.size<=FU)(hit:s.heap.IsRevIter it l ((items.size:Int)-1))(hl:s.heap.IsList l items)(gW:l≠it)
  (hQ:∀h' tk acc' c',(∀b o,b≠it->s.heap.get? b=eV o->h'.get? b=eV o)->
   h'.get? #v[s]=eV {cls:= .type "list",dict:=gi,data:= .seq acc' c',slots:= [].toArray}->ItemsOf (λi v=>items[items.size-1-i]? =eV v) acc' items.size->Q (.ref #v[s]) {s with heap:=h',toks:=tk}):
  wpAny (model prog w) A (call (.type "list") [.ref it]) Q E s:=by
 show callType_codes (Q₁:=λobj s₁=>obj= .ref #v[s]/\s₁={s with heap:=s.heap.push {cls:= .type "list",data:= .seq [].toArray}}) F.called_list (F.typeCall_list_1 _) F.entry_list_init
  (code_list_new _ #[rfl,rfl]) λobj s₁ h₁=> ?_
 have#[rfl,rfl]:=h₁;have hS:(s.heap.push {cls:= .type "list",data:= .seq [].toArray}).get? #v[s]=eV {cls:= .type "list",data:= .seq [].toArray}:=Heap.get?_push_size _ rfl;show#[#[_,hS,rfl],F.args_list_init_2 _ _,?_];change wpAny _ _ (do let old <-Builtin.List.listItems (.ref #v[s]);Builtin.List.listUpdate (.ref #v[s]) (λ_=> [].toArray);letGo old.toList.reverse;Builtin.List.listExtendWith (.ref #v[s]) (.ref it) .none) _ _ _;show qR ?_;unfold Builtin.List.listItems;show qR (Ge hS rfl (uh ?_));change wpAny _ _ (updateSeq #v[s] (λ_=> [].toArray)>>=λ_=>letGo ([].toArray:Array ph).toList.reverse>>=λ_=>Builtin.List.listExtendWith (.ref #v[s]) (.ref it) .none) _ _ _;show qR (wpAny_updateSeq hS rfl ?_);have t9:=Heap.get?_update_self (Obj.mapSeq (λ_=>([].toArray:Array ph))) hS rfl;have ltI:it<#v[s]:=let ⟨_,ho,_⟩:=hit;Heap.lt_size ho;have qT:l<#v[s]:=let ⟨_,ho,_⟩:=hl;Heap.lt_size ho;have qP:∀b o,b≠#v[s]->(s.heap.push {cls:= .type "list",data:= .seq [].toArray}).get? b=eV o->((s.heap.push {cls:= .type "list",data:= .seq [].toArray}).update #v[s] (Obj.mapSeq (λ_=>([].toArray:Array ph)))).get? b=eV o:=
  λb o hb e=>(Heap.get?_update_other _ _ (AX hb)).trans e
 have old:∀b o,s.heap.get? b=eV o->((s.heap.push {cls:= .type "list",data:= .seq [].toArray}).update #v[s] (Obj.mapSeq (λ_=>([].toArray:Array ph)))).get? b=eV o:=
  λb o e=>qP b o (z8 (Heap.lt_size e)) (Heap.get?_push_of_some _ e)
 show qR (wpAny_letGo ?_);show zji (A:=A.in1) (items:=items) hh hn #v[s] .none _ t9 (hit.at λo e=>old _ o e) (hl.at λo e=>old _ o e) gW (AX (z8 ltI)) (AX (z8 qT)) λh' tk acc' c' hk lB cZ=> ?_;show#[rfl,hQ h' tk acc' c' (λb o hb e=>hk b o (z8 (Heap.lt_size e)) hb (old b o e)) lB cZ]
end
def zhE(K:uU)(te:TE):TE:=λσ H Q=>te σ H λx H1=>∃p ys,x= .ref p/\SqX K H1 p ys/\∀l,H1 l=gi->Q (.ref l) (upd H1 l (.lst ys.reverse))
def zjj{e:Expr}{te:TE}{p p2 pos hX:Pos}(hc:X.calm=hG)(hg:Gl X "list")(hm:X.mg "list"=gi)(sP:Gl X "reversed")(o5:X.mg "reversed"=gi)(ha:PE X e te)(hK:X.K=K:=by rfl)
  (qf:FW [e] X.env=[(mK,eval e X.env)]:=by rfl) (he:FW [.Call (.Name "reversed" p2) [e] [] hX] X.env=[(mK,eval (.Call (.Name "reversed" p2) [e] [] hX) X.env)]:=by rfl):
  PE X (.Call (.Name "list" p) [.Call (.Name "reversed" p2) [e] [] hX] [] pos) (zhE K te):=by
 subst hK;intro pins s σ H Q I h;show Gj (Ue I hg hm boot_list ?_ ∅ ∅);show AW ?_ he rfl;rw[he];change wpAny _ _ (spliced ((mK,eval (.Call (.Name "reversed" p2) [e] [] hX) X.env)::backTo pos [])) _ _ s;show Calls.spliced_cons ?_;show Gj (Ue I sP o5 Boot.«reversed» ?_ ∅ ∅);show AW ?_ qf rfl;show thn (zQ ha zj qf hX pins s σ H (λvs H1=>∃p ys,vs=[.ref p]/\SqX X.K H1 p ys/\∀l,H1 l=gi->Q (.ref l) (upd H1 l (.lst ys.reverse))) I ?_) λus s1 ⟨vs,H1,I1,r1,q1⟩=> ?_
 .have h:te σ H λx H1=>∃p ys,x= .ref p/\SqX X.K H1 p ys/\∀l,H1 l=gi->Q (.ref l) (upd H1 l (.lst ys.reverse)):=h;change te σ H λx H1=>∃p ys,[x]=[V.ref p]/\SqX X.K H1 p ys/\∀l,H1 l=gi->Q (.ref l) (upd H1 l (.lst ys.reverse));have e:(λ(x:V) (H1:Hp)=>∃p ys,[x]=[V.ref p]/\SqX X.K H1 p ys/\∀l,H1 l=gi->Q (.ref l) (upd H1 l (.lst ys.reverse)))=λx H1=>∃p ys,x= .ref p/\SqX X.K H1 p ys/\∀l,H1 l=gi->Q (.ref l) (upd H1 l (.lst ys.reverse)):=by
   funext x H1;simp
  rw[e];show h
 have#[p,ys,rfl,hq,q]:=q1;have#[u,rfl,ru]:=Uh r1;cases ru;have#[z,ah,n,r,hl,e1]:=I1.lstR hq;have hL:s1.heap.IsList p ah.toArray:=#[_,e1,rfl,n,rfl];have qS:p<#v[s1]:=Heap.lt_size e1;show call_reversed_list hL ?_;show Calls.spliced_nil ?_;show zeo (items:=ah.toArray) (I1.ok.hd hc) (by rw[v9];omega) #[_,Heap.get?_push_size _ rfl,rfl,rfl] (hL.push _) (z8 qS) λh' tk acc' c' hk lB cZ=> ?_;have kept:∀b o,s1.heap.get? b=eV o->h'.get? b=eV o:=λb o e=>hk b o (z8 (Heap.lt_size e)) (Heap.get?_push_of_some _ e);have hsz:#v[s1]<=(s1.heap.push (revObj p ((ah.toArray.size:Int)-1))).objs.size:=by rw[Heap.size_push];show C2 _
 have ha:acc'.toList=ah.reverse:=by
  have#[a1,a2]:=cZ;show C8 λi=> ?_;by_cases hi:i<ah.length
  .have jO:i<acc'.size:=by rw[a1,v9];show hi
   have e3:acc'.toList[i]? =eV acc'[i]:=by simp[jO]
   have e4:=a2 i acc'[i] (by simp[jO]);rw[e3,CV hi,<-e4];simp
  rw[z5 (by simp[a1];omega),z5 (by simp;omega)]
 have hv:ym ys.reverse ah.reverse:=r.reverse;show#[.ref _,_,I1.laid (o:= .lst ys.reverse) (t':=tk) kept hsz #[by rw[Br];show z,ah.reverse,c',hv,?_],rfl,q _ (I1.hok.fresh hsz)];rw[lB,<-ha]
end L2
namespace HT
section
def TK{t sl:p8}{items:Array ph}{vl vu:ph}{lo hi:pf Int}(ht:IsTup s.heap t items)(hs:s.heap.IsSliceOf sl vl vu .none)(pl:IsPart vl lo)(pu:IsPart vu hi)
  (hw:sIx items.size 0 lo=0/\sIx items.size items.size hi=items.size) (h:Q (.ref t) s):wpAny (model prog w) A (getItem (.ref t) (.ref sl)) Q E s:=by
 have#[os,jG,gx,lr]:=id hs;have ko:s.TypeIs (.ref sl) "slice":=#[os,jG,gx];unfold getItem
 try with_reducible show Gm ?_
 first|refine qR (uh ?_)|skip
 show qR (wpAny_sequenceKey ht.typeIs ∅ ?_)
 show qR (FY (name:=Str.ofString "__getitem__") ht.typeIs AI
  (Ga AI ht.typeIs entry_tuple_getitem ?_ (args_tuple_getitem _ _)))
 change wpAny _ _ (Builtin.Tuple.tupleItemsOf (.ref t)>>=_) _ _ s;show qR (tupleItemsOf_ ht ?_);show qR (wpAny_typeOf ko ?_);rw[GO ∅];show qR (WD hs pl pu ?_);have nC:((((sIx items.size 0 lo:Nat):Int)==0&&(1:Int)==1&&(sIx items.size items.size hi-sIx items.size 0 lo)==items.size)=hG):=by
  rw[hw.1,hw.2];simp
 change wpAny _ _ (if (((sIx items.size 0 lo:Nat):Int)==0&&(1:Int)==1&&(sIx items.size items.size hi-sIx items.size 0 lo)==items.size)=hG then _ else _) _ _ s;rw[GO nC];show qR ?_;unfold Builtin.Tuple.tupleIsExact;show qR (wpAny_typeOf ht.typeIs ?_);show uh ?_;rw[GO ∅];show qR (wpAny_rule ?_);show uh #[_,rfl,uh h]
end
end HT
namespace L2
def zpM(K:uU):V->pf Int->pf Int->Hp->VK->Prop:=λx lo hi H Q=>∃a xs,x= .ref a/\SqT K H a xs/\
 (HT.sIx xs.length 0 lo=0/\HT.sIx xs.length xs.length hi=xs.length->Q (.ref a) H)/\(¬(HT.sIx xs.length 0 lo=0/\HT.sIx xs.length xs.length hi=xs.length)->∀p,H p=gi->Q (.ref p) (upd H p (.tup (zej xs lo hi))))
def zpN(hK:X.K=K:=by rfl):SlR X (zpM K):=by
 subst hK;intro pins s σ H x v vl vu lo hi sl Q I rx hs pl pu h;have#[a,xs,rfl,hx,q1,q2]:=h;by_cases hw:HT.sIx xs.length 0 lo=0/\HT.sIx xs.length xs.length hi=xs.length
 .cases rx;have#[ah,r,ht,hz]:=I.tuple hx;have hlen:ah.toArray.size=xs.length:=by rw[v9];show r.length.symm
  show#["tuple",_,AI.lookup,ht.typeIs,?_];show HT.TK ht hs pl pu (by rw[hlen];show hw) #[.ref a,H,I,rfl,q1 hw]
 show zrR pins s σ H (.ref a) v vl vu lo hi sl Q I rx hs pl pu #[a,xs,rfl,hx,hw,q2 hw]
section
variable{tg:Expr}
end
section
def znf{a b c}:FW (.Tuple a b c::r) env=(mK,eval (.Tuple a b c) env)::FW r env:=rfl
def zhF{a b c}:FW (.Constant a b c::r) env=(mK,eval (.Constant a b c) env)::FW r env:=rfl
def zpO{a b}:FW (.Name a b::r) env=(mK,eval (.Name a b) env)::FW r env:=rfl
def zf0{a b c}:FW (.Subscript a b c::r) env=(mK,eval (.Subscript a b c) env)::FW r env:=rfl
def zng{a b c d}:FW (.BinOp a b c d::r) env=(mK,eval (.BinOp a b c d) env)::FW r env:=rfl
def zpP{a b c d}:FW (.Call a b c d::r) env=(mK,eval (.Call a b c d) env)::FW r env:=rfl
def zf1{a b c}:FW (.Attribute a b c::r) env=(mK,eval (.Attribute a b c) env)::FW r env:=rfl
end
open PySem.Builtin
def zbH:fillsNumberSlot (.type "tuple") "mul"=pure mK:=
 PySem.fillsNumberSlot_seq (id:="tuple.__mul__") (r:=eV (.builtin "tuple.__rmul__")) F.slot_tuple_mul.lookup (*...*) F.slot_tuple_rmul.lookup (*...*)
def zf2:seqRepeat? (.type "tuple")=pure (eV (.builtin "tuple.__mul__")):=by
 unfold seqRepeat?;rw[Fc (T:="tuple") (name:="__mul__") (id:="tuple.__mul__") F.slot_tuple_mul.lookup (*...*),Fc (T:="tuple") (name:="__rmul__") (id:="tuple.__rmul__") F.slot_tuple_rmul.lookup (*...*)];rfl
def zdk(a:Int)(t:Tok)(l:p8)(items:Array ph)(n:Nat)(dd:pf p8)(sl:Array (pf ph)):
  Meets (GD.«int.__rmul__» #[[.int a t,.ref l],[]]) (λ_ R s=>s.heap.get? l=eV {cls:= .type "tuple",dict:=dd,data:= .seq items n,slots:=sl}/\R (.ok (.ret Value.notImplemented)) s):=
 .of_wp λprog w A R s h=>by have#[hp,g,d,tk,os]:=s;have#[hl,h]:=h;wp_walk;show#[_,rfl,h]
def zjk(l:p8)(items:Array ph)(n:Nat)(dd:pf p8)(sl:Array (pf ph))(k:Int)(t:Tok)(hk:¬(decide (k< -(2^63))||decide (k≥2^63))=hG)(hc:(items.isEmpty||k==1)=hG):
  Meets (GD.«tuple.__mul__» #[[.ref l,.int k t],[]]) (λ_ R s=>s.heap.get? l=eV {cls:= .type "tuple",dict:=dd,data:= .seq items n,slots:=sl}/\R (.ok (.ret (Value.ref l))) {s with heap:=s.heap,toks:=s.toks}):=
 .of_wp λprog w A R s h=>by have#[hp,g,d,tk,os]:=s;have#[hl,h]:=h;have f1:=AutoSeq1.idx_int;wp_walk using wpAny_loadPart' hl;show wpAny_ite_false (decide_eq_false hk) ?_;wp_walk using wpAny_loadPart' hl;show#[_,rfl,h]
def zjl(l:p8)(items:Array ph)(n:Nat)(dd:pf p8)(sl:Array (pf ph))(k:Int)(t:Tok)(hk:¬(decide (k< -(2^63))||decide (k≥2^63))=hG)(hc:¬(items.isEmpty||k==1)=hG)(h0:(decide (k<=0)||items.isEmpty)=hG):
  Meets (GD.«tuple.__mul__» #[[.ref l,.int k t],[]]) (λ_ R s=>s.heap.get? l=eV {cls:= .type "tuple",dict:=dd,data:= .seq items n,slots:=sl}/\R (.ok (.ret (Value.ref #v[s]))) {s with heap:=s.heap.push {cls:=Value.type "tuple",data:=Data.seq [].toArray},toks:=s.toks}):=
 .of_wp λprog w A R s h=>by have#[hp,g,d,tk,os]:=s;have#[hl,h]:=h;have f1:=AutoSeq1.idx_int;wp_walk using wpAny_loadPart' hl;show wpAny_ite_false (decide_eq_false hk) ?_;wp_walk using wpAny_loadPart' hl;show#[_,rfl,h]
def zjm(l:p8)(items:Array ph)(n:Nat)(dd:pf p8)(sl:Array (pf ph))(k:Int)(t:Tok)(hk:¬(decide (k< -(2^63))||decide (k≥2^63))=hG)(hc:¬(items.isEmpty||k==1)=hG)(h0:¬(decide (k<=0)||items.isEmpty)=hG)
  (hm:¬(items.size:Int)*k>(2^63-1) / 8) (eR:¬Tuple.tupleTooMany ((items.size:Int)*k)=hG) (hsz:((z4 k.toNat items).foldl (λx1 x2=>x1++x2) [].toArray).size<=FU):
  Meets (GD.«tuple.__mul__» #[[.ref l,.int k t],[]]) (λ_ R s=>s.heap.get? l=eV {cls:= .type "tuple",dict:=dd,data:= .seq items n,slots:=sl}/\R (.ok (.ret (Value.ref #v[s]))) {s with heap:=s.heap.push {cls:=Value.type "tuple",data:=Data.seq ((z4 k.toNat items).foldl (· ++ ·) [].toArray)},toks:=s.toks}):=
 .of_wp λprog w A R s h=>by have#[hp,g,d,tk,os]:=s;have#[hl,h]:=h;have f1:=AutoSeq1.idx_int;wp_walk using wpAny_loadPart' hl;show wpAny_ite_false (decide_eq_false hk) ?_;wp_walk using wpAny_loadPart' hl;show wpAny_ite_false (decide_eq_false hm) ?_;wp_walk using wpAny_loadPart' hl;show#[_,rfl,h]
def zre(K:uU):R2:=λx y H Q=>∃a k xs,x= .ref a/\y= .int k/\SqT K H a xs/\ -(2^63)<=k/\k<2^63/\xs.length*k.toNat<=FU/\
 ((xs=[]\/k=1)->Q (.ref a) H)/\(¬(xs=[]\/k=1)->∀p,H p=gi->Q (.ref p) (upd H p (.tup (z4 k.toNat xs).flatten)))
def znh(hK:X.K=K:=by rfl):OpR X (GA .Mult) (zre K):=by
 subst hK;intro pins s σ H x y v u Q I rx ry h;have#[a,k,xs,rfl,rfl,hH,h1,h2,hz,q1,q2]:=h;cases rx;have#[t,rfl]:=ry;have#[ah,r,p1,_]:=I.tuple hH;have#[#[cls,dd,data,sl],ho,hc,n,hd]:=id p1;simp only at hc hd;subst hc hd;have hl:=r.length;have hk:¬(decide (k< -(2^63))||decide (k≥2^63))=hG:=by
  intro h;rcases EA.1 h with h|h;have:=of_decide_eq_true h;omega;have:=of_decide_eq_true h;omega
 have kW:∀m:Nat,List.foldl (λx1 x2=>x1++x2) [].toArray (z4 m ah.toArray)=(z4 m ah).flatten.toArray:=λm=>by
  have:=zeZ ah m [];rw[DX] at this;show this
 show wpAny_binaryOp_repeat_ref (T:="tuple") (U:="int") ∅ #[_,ho,rfl] (λs'=>typeIs_int s' k t) zbH F.fills_int_mul F.slot_int_rmul zf2 F.slot_int_index.lookup
  (call_meets F.slot_int_rmul (typeIs_int s k t) F.entry_int_rmul (F.args_int_rmul_2 _ _) (zdk k t a ah.toArray n dd sl) #[ho,rfl,#[_,ho,rfl],?_])
 by_cases hc:xs=[]\/k=1;show call_meets F.slot_tuple_mul #[_,ho,rfl] F.entry_tuple_mul (F.args_tuple_mul_2 _ _) (zjk a ah.toArray n dd sl k t hk ?_) #[ho,#[.ref a,H,I,rfl,q1 hc]];rcases hc with rfl|rfl;have:ah=[]:=r.nil_iff.mpr rfl;subst this;rfl;simp
 have dD:ah≠[]:=λz=>hc (.inl (r.nil_iff.mp z));have iH:¬(ah.toArray.isEmpty||k==1)=hG:=by
  intro h;rcases EA.1 h with h|h;show dD (by simpa using h);show hc (.inr (by simpa using h))
 by_cases h0:k<=0
 .show call_meets F.slot_tuple_mul #[_,ho,rfl] F.entry_tuple_mul (F.args_tuple_mul_2 _ _) (zjl a ah.toArray n dd sl k t hk iH (by simp[h0])) #[ho,?_];show#[.ref #v[s],_,I.laid (t':=s.toks) (o:= .tup (z4 k.toNat xs).flatten) (λb ob q=>Heap.get?_push_of_some _ q) (v3 _) ?_,rfl,q2 hc _ (I.hok.fresh (v3 _))];have e0:k.toNat=0:=by omega
  rw[e0];show#[by simp,_,.nil,YM.new _ _]
 have hm:((ah.toArray.size:Nat):Int)*k=((xs.length*k.toNat:Nat):Int):=by
  rw[v9,<-hl];have:k=(k.toNat:Int):=by omega
  rw[Ci,<-this]
 have hs:xs.length*k.toNat<=2^24:=hz
 show call_meets F.slot_tuple_mul #[_,ho,rfl] F.entry_tuple_mul (F.args_tuple_mul_2 _ _) (zjm a ah.toArray n dd sl k t hk iH (by simp[h0];show dD) (by rw[hm];omega) (by
  rw[hm];unfold Tuple.tupleTooMany;intro h;have:=of_decide_eq_true h;have i9:((xs.length*k.toNat:Nat):Int)<=(FU:Int):=Int.ofNat_le.2 hz
  omega) (by rw[kW,v9,<-(r.rep k.toNat).length,zkv,BE];show hz)) #[ho,?_]
 rw[kW];show#[.ref #v[s],_,I.laid (t':=s.toks) (o:= .tup (z4 k.toNat xs).flatten) (λb ob q=>Heap.get?_push_of_some _ q) (v3 _) ?_,rfl,q2 hc _ (I.hok.fresh (v3 _))];show#[by rw[zkv,BE];show hz,_,r.rep k.toNat,YM.new _ _]
end L2
namespace L2
open PySem.Calls
section
variable{w:World}{T:String}{r d:p8}{n:Nat}{P:Nat->ph->Prop}{OK:Heap->Prop}
end
section
variable{w:World}{T:String}{r d:p8}{n:Nat}{P:Nat->ph->Prop}{OK:Heap->Prop}
end
end L2
namespace L2
structure Ul where
 C:pf Str
 m:Str
 d:Str
structure xD where
 id:Nat
 par:Arguments
 body:C0
 sc:Scope
 t:Ul
 fr:kx Str
noncomputable def Ul.q(t:Ul):Str:=(t.d++".<locals>.")++"<lambda>"
noncomputable abbrev xD.q(L:xD):Str:=L.t.q
noncomputable def zjn(K:uU):pf Str->Str->pf p8
 |none,m=>(match y9 K FV m with
  |some (eV (.ref f))=>eV f
  |_=>gi)
 |some C,m=>(match y9 K FV C with
  |some (eV (.ref g))=>(match z3 K (.ref g) m with
   |some (eV (.ref f))=>eV f
   |_=>gi)
  |_=>gi)
noncomputable def zjo(K:uU)(f:p8):pf (p8×p8):=match K.lookup f with
 |some ⟨_,_,.func fd,_⟩=>(match fd.code with
  | .ref c=>(match K.lookup c with
   |some ⟨_,_,.fields vs,_⟩=>(match (vs[11]? :pf ph) with
    |some (.ref P)=>if Cb K c P then eV (c,P) else gi
    |_=>gi)
   |_=>gi)
  |_=>gi)
 |_=>gi
noncomputable def vD(K:uU)(t:Ul):pf (p8×p8):=(zjn K t.C t.m).bind (zjo K)
inductive Xv where
 |non|bl (b:Bool)|int (i:Int)|str (x:Str)|tup (xs:List Xv)|ct (xs:List Xv)|ref (n:Nat)|lam (L:xD) (xs:List Xv)
inductive Ce where
 |lst (xs:List Xv)
 |frz (xs:List Xv)
 |dk (af:List (Key×Xv))
 |dt (af:List (List Key×Xv))
 |ins (nm:Str) (fs:List (Str×Xv))
 |fdk (af:List (Key×Xv))
 |dn (af:List (NK×Xv×Xv))
 |exc (nm:Str)
 |tab (t:Ul)
 |fdn (af:List (NK×Xv×Xv))
abbrev Sto:=kx Ce
abbrev Rho:=kx (pf Xv)
noncomputable def Ce.fz:Ce->Bool
 | .frz _=>hG
 | .fdk _=>hG
 | .fdn _=>hG
 | .exc _=>hG
 |_=>mK
noncomputable def HO.mu:HO->Bool
 | .lst _=>hG
 | .dK _=>hG
 | .dT _=>hG
 | .dN _=>hG
 | .ins _ _ _=>hG
 | .set _ _=>hG
 | .tbl _=>hG
 |_=>mK
def vB(H H':Hp):Prop:=∀b u,H b=eV u->u.mu=mK->H' b=eV u
def vB.refl(H:Hp):vB H H:=λ_ _ e _=>e
def vB.trans(a:vB H H1)(b:vB H1 H2):vB H H2:=λx u e m=>b x u (a x u e m) m
def vB.same(S:YS H H'):vB H H':=λb u e _=>S b u e
structure Ext(j:kx p8)(H:Hp)(j':kx p8)(H':Hp):Prop where
 pre:∀(n:Nat) a,j[n]? =eV a->j'[n]? =eV a
 imm:vB H H'
def Ext.refl:Ext j H j H:=#[λ_ _ e=>e,vB.refl _]
def Ext.trans(a:Ext j H j1 H1)(b:Ext j1 H1 j2 H2):Ext j H j2 H2:=#[λn x e=>b.pre n x (a.pre n x e),a.imm.trans b.imm]
def Ext.same(S:YS H H'):Ext j H j H':=#[λ_ _ e=>e,vB.same S]
def TV(H:Hp)(q:Str)(c:p8):Prop:=∃(oc:Obj) (fs:Array ph) (t:Tok),H c=eV (.frz oc (.own 0))/\oc.data= .fields fs/\fs[1]? =eV (.str q t)
structure zdl(H:Hp)(L:xD)(f:p8)(vs:kx V):Prop where
 ex:∃(aZ:kx (Str×p8)) (pm dY:ph) (c:p8),H f=eV (.frz (Bn "<lambda>" L.q L.par L.body L.sc aZ pm c dY) (.own 0))/\TV H L.q c/\
  (∀(i:Nat) x v,L.fr[i]? =eV x->vs[i]? =eV v->∃(a:p8) (o:Obj) (u:ph),aZ.lookup x=eV a/\H a=eV (.frz o (.own 0))/\o.data= .cell (eV u)/\yt v u)/\
  (∀x y a,aZ.lookup x=eV a->aZ.lookup y=eV a->x=y)/\(∀y∈L.sc.names,y.2= .free->∃a,aZ.lookup y.1=eV a)/\
  ∀x a,aZ.lookup x=eV a->∃(o:Obj) (u:pf ph),H a=eV (.frz o (.own 0))/\o.data= .cell u
def TV.mono(k:vB H H')(h:TV H q c):TV H' q c:=by
 have#[oc,fs,t,e,r]:=h;show#[oc,fs,t,k _ _ e rfl,r]
def zdl.mono(k:vB H H')(h:zdl H L f vs):zdl H' L f vs:=by
 have#[aZ,pm,dY,c,h1,h2,h3,h4,h5,h6]:=h.ex;show#[aZ,pm,dY,c,k _ _ h1 rfl,h2.mono k,λi x v e1 e2=> ?_,h4,h5,λx a e=> ?_];have#[a,o,u,e3,e4,r]:=h3 i x v e1 e2;show#[a,o,u,e3,k _ _ e4 rfl,r];have#[o,u,e3,r]:=h6 x a e;show#[o,u,k _ _ e3 rfl,r]
mutual
inductive Xis(K:uU)(j:List Addr)(H:Hp):Xv->V->Prop where
 |non:Xis K j H .non .non
 |bl (b:Bool):Xis K j H (.bl b) (.bl b)
 |int (i:Int):Xis K j H (.int i) (.int i)
 |str (x:Str):Xis K j H (.str x) (.str x)
 |tup {a:Addr} {vs:List V} {xs:List Xv}:H a=eV (.tup vs)->yr K j H xs vs->Xis K j H (.tup xs) (.ref a)
 |ct {a:Addr} {vs:List V} {xs:List Xv}:(∀H,SqT K H a vs)->yr K j H xs vs->Xis K j H (.ct xs) (.ref a)
 |ref {n:Nat} {a:Addr}:j[n]? =eV a->Xis K j H (.ref n) (.ref a)
 |lam {f:Addr} {vs:List V} {L:xD} {xs:List Xv}:zdl H L f vs->yr K j H xs vs->Xis K j H (.lam L xs) (.ref f)
inductive yr(K:uU)(j:List Addr)(H:Hp):List Xv->List V->Prop where
 |nil:yr K j H [] []
 |cons {x:Xv} {v:V} {xs:List Xv} {vs:List V}:Xis K j H x v->yr K j H xs vs->yr K j H (x::xs) (v::vs)
end
def Xis.mono(S:Ext j H j' H')(h:Xis K j H x v):Xis K j' H' x v:=
 Xis.rec (motive_1:=λx v _=>Xis K j' H' x v) (motive_2:=λxs vs _=>yr K j' H' xs vs) .non .bl .int .str (λh _ l=> .tup (S.imm _ _ h rfl) l) (λh _ l=> .ct h l) (λh=> .ref (S.pre _ _ h)) (λh _ l=> .lam (h.mono S.imm) l) .nil (λ_ _ h l=> .cons h l) h
def yr.ind{m:kx Xv->kx V->Prop}(h0:m [] [])(h1:∀{x:Xv} {v:V} {xs:kx Xv} {vs:kx V},Xis K j H x v->yr K j H xs vs->m xs vs->m (x::xs) (v::vs)){xs:kx Xv}{vs:kx V}(h:yr K j H xs vs):m xs vs:=
 yr.rec (motive_1:=λ_ _ _=>True) (motive_2:=λxs vs _=>m xs vs) trivial (λ_=>trivial) (λ_=>trivial) (λ_=>trivial) (λ_ _ _=>trivial) (λ_ _ _=>trivial) (λ_=>trivial) (λ_ _ _=>trivial) h0 (λa b _ c=>h1 a b c) h
def yr.mono(S:Ext j H j' H')(h:yr K j H xs vs):yr K j' H' xs vs:=h.ind (m:=yr K j' H') .nil λa _ c=> .cons (a.mono S) c
section
def yr.len(h:yr K j H xs vs):vs.length=xs.length:=h.ind (m:=λxs vs=>vs.length=xs.length) rfl λ_ _ e=>congrArg (· +1) e
def yr.get{xs:kx Xv}{vs:kx V}{i:Nat}{x:Xv}(h:yr K j H xs vs):xs[i]? =eV x->∃v,vs[i]? =eV v/\Xis K j H x v:=
 h.ind (m:=λxs vs=>∀i,xs[i]? =eV x->∃v,vs[i]? =eV v/\Xis K j H x v) (λi e=>by simp at e) (λa _ ih i e=>by
  cases i with
  |zero=>simp at e;subst e;show#[_,rfl,a]
  |succ i=>show ih i e) i
def yr.append(h:yr K j H xs vs)(k:yr K j H ys ws):yr K j H (xs++ys) (vs++ws):=h.ind (m:=λxs vs=>yr K j H (xs++ys) (vs++ws)) k λa _ c=> .cons a c
def yr.one(h:Xis K j H x v):yr K j H [x] [v]:= .cons h .nil
def yr.take(n:Nat)(h:yr K j H xs vs):yr K j H (xs.take n) (vs.take n):=
 h.ind (m:=λxs vs=>∀n,yr K j H (xs.take n) (vs.take n)) (λn=>by cases n<;>show .nil) (λa _ ih n=>by
  cases n with
  |zero=>show .nil
  |succ n=>show .cons a (ih n)) n
def yr.drop(n:Nat)(h:yr K j H xs vs):yr K j H (xs.drop n) (vs.drop n):=
 h.ind (m:=λxs vs=>∀n,yr K j H (xs.drop n) (vs.drop n)) (λn=>by cases n<;>show .nil) (λa b ih n=>by
  cases n with
  |zero=>show .cons a b
  |succ n=>show ih n) n
def yr.ints(ns:kx Int):yr K j H (ns.map Xv.int) (ns.map V.int):=by
 induction ns with
 |nil=>show .nil
 |cons n r ih=>show .cons (.int n) ih
def yr.reverse(h:yr K j H xs vs):yr K j H xs.reverse vs.reverse:=
 h.ind (m:=λxs vs=>yr K j H xs.reverse vs.reverse) .nil λa _ c=>by
  rw[CH,CH];show c.append (.one a)
def yr.set(hv:Xis K j H x v)(n:Nat)(h:yr K j H xs vs):yr K j H (xs.set n x) (vs.set n v):=
 h.ind (m:=λxs vs=>∀n,yr K j H (xs.set n x) (vs.set n v)) (λ_=> .nil) (λa b ih n=>by
  cases n with
  |zero=>show .cons hv b
  |succ n=>show .cons a (ih n)) n
def yr.dropLast(h:yr K j H xs vs):yr K j H xs.dropLast vs.dropLast:=by
 rw[Eh,Eh,h.len];show h.take _
def yr.at_(h:yr K j H xs vs)(e:atI xs i=eV x):∃v,atI vs i=eV v/\Xis K j H x v:=by
 unfold atI at e ⊢;rw[h.len];cases e1:ixN xs.length i with
 |none=>rw[e1] at e;cases e
 |some m=>
  rw[e1] at e;have#[v,e3,e4]:=h.get (i:=m) e;show#[v,e3,e4]
def Xis.int_inv(h:Xis K j H (.int i) v):v= .int i:=by cases h;rfl
def Xis.bl_inv(h:Xis K j H (.bl b) v):v= .bl b:=by cases h;rfl
def Xis.str_inv(h:Xis K j H (.str b) v):v= .str b:=by cases h;rfl
def Xis.non_inv(h:Xis K j H .non v):v= .non:=by cases h;rfl
def Xis.ref_inv(h:Xis K j H (.ref n) v):∃a,v= .ref a/\j[n]? =eV a:=by cases h with|ref e=>show#[_,rfl,e]
def Xis.tup_inv(h:Xis K j H (.tup xs) v):∃a vs,v= .ref a/\H a=eV (.tup vs)/\yr K j H xs vs:=by cases h with|tup a b=>show#[_,_,rfl,a,b]
def yr.cons_inv(h:yr K j H (x::xs) vs):∃v r,vs=v::r/\Xis K j H x v/\yr K j H xs r:=by cases h with|cons a b=>show#[_,_,rfl,a,b]
def yr.nil_inv(h:yr K j H [] vs):vs=[]:=by cases h;rfl
def yr.d1(h:yr K j H [a] vs):∃x,vs=[x]/\Xis K j H a x:=by
 have#[x,r,rfl,hx,h]:=h.cons_inv;obtain rfl:=h.nil_inv;show#[x,rfl,hx]
def yr.d2(h:yr K j H [a,b] vs):∃x y,vs=[x,y]/\Xis K j H a x/\Xis K j H b y:=by
 have#[x,r,rfl,hx,h]:=h.cons_inv;have#[y,rfl,hy]:=h.d1;show#[x,y,rfl,hx,hy]
noncomputable def Xv.tupOf:Xv->pf (kx Xv)
 | .tup xs=>eV xs
 | .ct xs=>eV xs
 |_=>gi
def Xis.tupO(h:Xis K j H x v)(e:x.tupOf=eV xs):∃a vs,v= .ref a/\SqT K H a vs/\yr K j H xs vs:=by
 cases h with
 |tup h l=>simp[Xv.tupOf] at e;subst e;show#[_,_,rfl,SqT.of h,l]
 |ct h l=>simp[Xv.tupOf] at e;subst e;show#[_,_,rfl,h H,l]
 |_=>simp[Xv.tupOf] at e
end
inductive KX{κ:Type}(K:uU)(j:List Addr)(H:Hp):List (κ×Xv)->List (κ×V)->Prop where
 |nil:KX K j H [] []
 |cons {k:κ} {x:Xv} {v:V} {r:List (κ×Xv)} {rs:List (κ×V)}:Xis K j H x v->KX K j H r rs->KX K j H ((k,x)::r) ((k,v)::rs)
def KX.mono{κ:Type}(S:Ext j H j' H'){xs:kx (κ×Xv)}{vs:kx (κ×V)}(h:KX K j H xs vs):KX K j' H' xs vs:=by
 induction h with
 |nil=>show .nil
 |cons h _ ih=>show .cons (h.mono S) ih
mutual
noncomputable def YT:Xv->pf NK
 | .int i=>eV (.int i)
 | .str x=>eV (.str x)
 | .tup l=>(WJ l).map .tup
 | .ct l=>(WJ l).map .tup
 | .non=>gi
 | .bl _=>gi
 | .ref _=>gi
 | .lam _ _=>gi
noncomputable def WJ:kx Xv->pf (kx NK)
 |[]=>eV []
 |x::r=>(YT x).bind λk=>(WJ r).map (k:: ·)
end
inductive NX(K:uU)(j:List Addr)(H:Hp):List (NK×Xv×Xv)->List (NK×Addr×V)->Prop where
 |nil:NX K j H [] []
 |cons {k:NK} {x y:Xv} {b:Addr} {v:V} {r:List (NK×Xv×Xv)} {rs:List (NK×Addr×V)}:YT x=eV k/\Zx k<=8->Xis K j H x (.ref b)->Xis K j H y v->NX K j H r rs->NX K j H ((k,x,y)::r) ((k,b,v)::rs)
def NX.mono(S:Ext j H j' H')(h:NX K j H xs vs):NX K j' H' xs vs:=by
 induction h with
 |nil=>show .nil
 |cons e h1 h2 _ ih=>show .cons e (h1.mono S) (h2.mono S) ih
def zdm(K:uU)(j:kx p8)(H:Hp)(a:p8):Ce->Prop
 | .lst xs=>∃vs,H a=eV (.lst vs)/\yr K j H xs vs
 | .frz xs=>∃vs,((∃o,H a=eV (.frz o (.lst vs)))\/∀H,SqX K H a vs)/\yr K j H xs vs
 | .dk af=>∃ks:kx (Key×V),H a=eV (.dK ks)/\KX K j H af ks
 | .dt af=>∃ks:kx (kx Key×V),H a=eV (.dT ks)/\KX K j H af ks
 | .ins nm fs=>∃(C dx:p8) (vs:kx (Str×V)),y9 K FV nm=eV (eV (.ref C))/\H a=eV (.ins C dx vs)/\KX K j H fs vs
 | .fdk af=>∃(o:Obj) (ks:kx (Key×V)),H a=eV (.frz o (.dK ks))/\KX K j H af ks
 | .dn af=>∃ks:kx (NK×p8×V),H a=eV (.dN ks)/\NX K j H af ks
 | .fdn af=>∃(o:Obj) (ks:kx (NK×p8×V)),H a=eV (.frz o (.dN ks))/\NX K j H af ks
 | .exc nm=>∃C:p8,y9 K FV nm=eV (eV (.ref C))/\H a=eV (zrZ a (.ref C))
 | .tab t=>∃(ps:Array ph) (d:p8),H a=eV (.tbl ps)/\vD K t=eV (d,a)/\TriplesOk ps.toList/\∀pos cv,codeAmong pos ps.toList=eV cv->∃c,cv= .ref c/\TV H t.q c
def zdm.mu(h:zdm K j H a c)(z:c.fz=mK):∃o,H a=eV o/\o.mu=hG:=by
 cases c with
 |lst l=>have#[_,e,_]:=h;show#[_,e,rfl]
 |dk l=>have#[_,e,_]:=h;show#[_,e,rfl]
 |dt l=>have#[_,e,_]:=h;show#[_,e,rfl]
 |ins n l=>have#[_,_,_,_,e,_]:=h;show#[_,e,rfl]
 |dn l=>have#[_,e,_]:=h;show#[_,e,rfl]
 |tab t=>have#[_,_,e,_]:=h;show#[_,e,rfl]
 |_=>cases z
def zdm.mono(S:Ext j H j' H')(h:c.fz=mK->H' a=H a)(k:zdm K j H a c):zdm K j' H' a c:=by
 cases c with
 |lst l=>have#[_,e,l]:=k;show#[_,(h rfl).trans e,l.mono S]
 |frz l=>
  have#[_,e,l]:=k;rcases e with⟨o,e⟩|e;show#[_,.inl #[o,S.imm _ _ e rfl],l.mono S];show#[_,.inr e,l.mono S]
 |dk l=>have#[_,e,l]:=k;show#[_,(h rfl).trans e,l.mono S]
 |dt l=>have#[_,e,l]:=k;show#[_,(h rfl).trans e,l.mono S]
 |ins n l=>have#[_,_,_,n,e,l]:=k;show#[_,_,_,n,(h rfl).trans e,l.mono S]
 |fdk l=>have#[_,_,e,l]:=k;show#[_,_,S.imm _ _ e rfl,l.mono S]
 |dn l=>have#[_,e,l]:=k;show#[_,(h rfl).trans e,l.mono S]
 |fdn l=>have#[_,_,e,l]:=k;show#[_,_,S.imm _ _ e rfl,l.mono S]
 |exc c=>have#[C,n,e]:=k;show#[C,n,S.imm _ _ e rfl]
 |tab t=>
  have#[ps,d,e,x,t,r]:=k;show#[ps,d,(h rfl).trans e,x,t,λpos cv q=> ?_];have#[c,e1,e2]:=r pos cv q;show#[c,e1,e2.mono S.imm]
structure Fm where
 H0:Hp
 j0:kx p8
 S0:Sto
structure En(K:uU)(F:Fm)(j:kx p8)(H:Hp)(σ:St)(ρ:Rho)(S:Sto):Prop where
 len:σ.length=ρ.length
 slot:∀(i:Nat) x,ρ[i]? =eV (eV x)->∃v,σ[i]? =eV (eV v)/\Xis K j H x v
 jl:j.length=S.length
 inj:∀(n m:Nat) a c d,j[n]? =eV a->j[m]? =eV a->S[n]? =eV c->S[m]? =eV d->c.fz=mK->d.fz=mK->n=m
 cel:∀(n:Nat) c a,S[n]? =eV c->j[n]? =eV a->zdm K j H a c
 ext:Ext F.j0 F.H0 j H
 old:∀(n:Nat) c,F.S0[n]? =eV c->∃c',S[n]? =eV c'/\(c'.fz=mK->c.fz=mK)/\(c.fz=hG->c'=c)
 l0:F.j0.length=F.S0.length
 keep:∀b u,F.H0 b=eV u->H b=eV u\/∃(n:Nat) (c:Ce),F.j0[n]? =eV b/\F.S0[n]? =eV c/\c.fz=mK
 fresh:∀(n:Nat) a,F.j0.length<=n->j[n]? =eV a->F.H0 a=gi
 dom:∀b,H b=gi->F.H0 b=gi
section
variable{F:Fm}{j j':kx p8}{H':Hp}{σ':St}{ρ ρ':Rho}{S S':Sto}{v:V}{x:Xv}{a p:p8}{o:HO}{i n:Nat}{c c':Ce}
def En.heap(E:En K F j H σ ρ S)(Sm:YS H H'):En K F j H' σ ρ S:=by
 have X:Ext j H j H':=Ext.same Sm;show#[E.len,λi x e=> ?_,E.jl,E.inj,λn c a e1 e2=> ?_,E.ext.trans X,E.old,E.l0,λb u e=> ?_,E.fresh,λb e=>E.dom b ?_];have#[v,e1,e2]:=E.slot i x e;show#[v,e1,e2.mono X];have h:=E.cel n c a e1 e2;show h.mono X λz=> ?_;have#[o,e,_]:=h.mu z;show(Sm _ _ e).trans e.symm;rcases E.keep b u e with h|h;show .inl (Sm _ _ h);show .inr h
 cases e':H b with
 |none=>rfl
 |some u=>rw[Sm b u e'] at e;cases e
def En.new(E:En K F j H σ ρ S)(h:H p=gi):En K F j (upd H p o) σ ρ S/\Ext j H j (upd H p o):=#[E.heap (wI h),Ext.same (wI h)]
def En.cell(E:En K F j H σ ρ S)(h:H p=gi)(hc:zdm K (j++[p]) (upd H p o) p c):En K F (j++[p]) (upd H p o) σ ρ (S++[c])/\Ext j H (j++[p]) (upd H p o):=by
 have X:Ext j H (j++[p]) (upd H p o):=#[λn a e=>by rw[v5 (uT.1 e).1];show e,vB.same (wI h)];have jj:∀{n:Nat} {a:p8},(j++[p])[n]? =eV a->j[n]? =eV a\/(n=j.length/\a=p):=λ{n a} e=>by
  by_cases hn:n<j.length;rw[v5 hn] at e;show .inl e
  rw[w5 ⋯] at e;cases hm:n-j.length with
  |zero=>rw[hm] at e;simp at e;show .inr #[⋯,e.symm]
  |succ m=>rw[hm] at e;simp at e
 have sat:∀{n:Nat} {d:Ce},(S++[c])[n]? =eV d->S[n]? =eV d\/(n=S.length/\d=c):=λ{n d} e=>by
  by_cases hn:n<S.length;rw[v5 hn] at e;show .inl e
  rw[w5 ⋯] at e;cases hm:n-S.length with
  |zero=>rw[hm] at e;simp at e;show .inr #[⋯,e.symm]
  |succ m=>rw[hm] at e;simp at e
 have lt:∀{n:Nat} {d:Ce},S[n]? =eV d->n<S.length:=λe=>(uT.1 e).1;have jB:∀{n:Nat} {a:p8} {d:Ce},j[n]? =eV a->S[n]? =eV d->d.fz=mK->a≠p:=λ{n a d} e1 e2 z q=>by
  subst q;have#[o',e,_]:=(E.cel n d a e2 e1).mu z;rw[h] at e;cases e
 show#[#[E.len,λi x e=> ?_,by simp[E.jl],λn m a c1 c2 e1 e2 e3 e4 z1 z2=> ?_,λn d a e1 e2=> ?_,E.ext.trans X,λn d e=> ?_,E.l0,λb u e=> ?_,λn a hn e=> ?_,λb e=> ?_],X];have#[v,e1,e2]:=E.slot i x e;show#[v,e1,e2.mono X]
 .rcases sat e3 with e3|⟨e3,_⟩
  .have h1:j[n]? =eV a:=by
    rcases jj e1 with h1|⟨h1,_⟩
    .show h1
    have:=lt e3;rw[E.jl] at h1;omega
   rcases sat e4 with e4|⟨e4,_⟩
   .have h2:j[m]? =eV a:=by
     rcases jj e2 with h2|⟨h2,_⟩
     .show h2
     have:=lt e4;rw[E.jl] at h2;omega
    show E.inj n m a c1 c2 h1 h2 e3 e4 z1 z2
   have:a=p:=by
    rcases jj e2 with h2|⟨_,h2⟩
    .have:=(uT.1 h2).1;rw[E.jl] at this;omega
    show h2
   show absurd this (jB h1 e3 z1)
  have:a=p:=by
   rcases jj e1 with h2|⟨_,h2⟩
   .have:=(uT.1 h2).1;rw[E.jl] at this;omega
   show h2
  rcases sat e4 with e4|⟨e4,_⟩
  .have h2:j[m]? =eV a:=by
    rcases jj e2 with h2|⟨h2,_⟩
    .show h2
    have:=lt e4;rw[E.jl] at h2;omega
   show absurd this (jB h2 e4 z2)
  rw[e3,e4]
 .rcases sat e1 with e1|⟨e1,rfl⟩
  .have h2:j[n]? =eV a:=by
    rcases jj e2 with h2|⟨h2,_⟩
    .show h2
    have:=lt e1;rw[E.jl] at h2;omega
   have hh:=E.cel n d a e1 h2;show hh.mono X λz=>zS (jB h2 e1 z)
  have:a=p:=by
   rcases jj e2 with h2|⟨_,h2⟩
   .have:=(uT.1 h2).1;rw[E.jl] at this;omega
   show h2
  subst this;show hc
 .obtain⟨d',e1,e2⟩:=E.old n d e;show#[d',by rw[v5 (lt e1)];show e1,e2]
 .rcases E.keep b u e with h'|h';show .inl (wI h _ _ h');show .inr h'
 .rcases jj e with e|⟨_,rfl⟩
  .show E.fresh n a hn e
  show E.dom _ h
 show E.dom b ?_;cases e':H b with
 |none=>rfl
 |some u=>rw[wI h b u e'] at e;cases e
set_option tactic.hygienic true in
def En.writeF(E:En K F j H σ ρ S)(hs:S[n]? =eV c)(z:c.fz=mK)(hj:j[n]? =eV a)(hc:∀X:Ext j H j (upd H a o),zdm K j (upd H a o) a c'):En K F j (upd H a o) σ ρ (S.set n c')/\Ext j H j (upd H a o):=by
 have#[o0,h0,m0]:=(E.cel n c a hs hj).mu z
 have X:Ext j H j (upd H a o):=#[λ_ _ e=>e,λb u e m=>by
  have:b≠a:=λq=>by subst q;rw[h0] at e;cases e;rw[m] at m0;cases m0
  rw[zS this];show e]
 have sat:∀{m:Nat} {d:Ce},(S.set n c')[m]? =eV d->(m=n/\d=c')\/(m≠n/\S[m]? =eV d):=λ{m d} e=>by
  rw[Ai] at e;split at e;rename_i q;split at e;cases e;show .inl #[q.symm,rfl];cases e;rename_i q;show .inr #[λr=>q r.symm,e]
 have qq:∀{m:Nat} {d:Ce},(S.set n c')[m]? =eV d->∃d',S[m]? =eV d'/\(d.fz=mK->d'.fz=mK):=λ{m d} e=>by
  rcases sat e with⟨rfl,rfl⟩|⟨_,e⟩
  .show#[c,hs,λ_=>z]
  show#[d,e,λy=>y]
 show#[#[E.len,λi x e=> ?_,by simp[E.jl],λk m b c1 c2 e1 e2 e3 e4 z1 z2=> ?_,λm d b e1 e2=> ?_,E.ext.trans X,λm d e=> ?_,E.l0,λb u e=> ?_,E.fresh,λb e=> ?_],X];have#[v,e1,e2]:=E.slot i x e;show#[v,e1,e2.mono X];have#[d1,f1,g1]:=qq e3;have#[d2,f2,g2]:=qq e4;show E.inj k m b d1 d2 e1 e2 f1 f2 (g1 z1) (g2 z2)
 .rcases sat e1 with⟨rfl,rfl⟩|⟨q,e1⟩
  .rw[hj] at e2;cases e2;show hc X
  show (E.cel m d b e1 e2).mono X λzd=>zS λr=> ?_;subst r;show q (E.inj m n b d c e2 hj e1 hs zd z)
 .obtain⟨d',e1,e2,e3⟩:=E.old m d e;by_cases q:m=n;subst q;rw[hs] at e1;cases e1;show#[c',by rw[Ai,GO rfl,GO (uT.1 hs).1],λ_=>e2 z,λy=> ?_];rw[e2 z] at y;cases y;show#[d',by rw[Ai,GP (λr=>q r.symm)];show e1,e2,e3]
 .by_cases q:b=a
  .subst q;by_cases hn:n<F.j0.length
   .have sM:F.j0[n]? =eV b:=by
     have e1:F.j0[n]? =eV F.j0[n]:=uV hn;have e2:=E.ext.pre n _ e1;rw[hj] at e2;cases e2;show e1
    have eY:n<F.S0.length:=by rw[<-E.l0];show hn
    have#[d',f1,f2,_]:=E.old n _ (uV eY);rw[hs] at f1;cases f1;show .inr #[n,_,sM,uV eY,f2 z]
   rw[E.fresh n b ⋯ hj] at e;cases e
  rcases E.keep b u e with h|h;show .inl (by rw[zS q];show h);show .inr h
 by_cases q:b=a;subst q;rw[zW] at e;cases e;rw[zS q] at e;show E.dom b e
def En.write(E:En K F j H σ ρ S)(hs:S[n]? =eV c)(z:c.fz=mK)(hj:j[n]? =eV a)(_:c'.fz=mK)(hc:∀X:Ext j H j (upd H a o),zdm K j (upd H a o) a c'):En K F j (upd H a o) σ ρ (S.set n c')/\Ext j H j (upd H a o):=E.writeF hs z hj hc
def En.slots(E:En K F j H σ ρ S)(hl:σ'.length=ρ'.length)(h:∀(i:Nat) x,ρ'[i]? =eV (eV x)->∃v,σ'[i]? =eV (eV v)/\Xis K j H x v):En K F j H σ' ρ' S:=
 #[hl,h,E.jl,E.inj,E.cel,E.ext,E.old,E.l0,E.keep,E.fresh,E.dom]
set_option tactic.hygienic true in
def En.set(E:En K F j H σ ρ S)(h:Xis K j H x v):En K F j H (σ.set i (eV v)) (ρ.set i (eV x)) S:=E.slots (by simp[E.len]) λk y e=>by
 rw[Ai] at e ⊢;split at e;rename_i q;subst q;split at e;rename_i hl;cases e;rw[GO rfl,GO (by rw[E.len];show hl)];show#[v,rfl,h];cases e;rename_i q;rw[GP q];show E.slot k y e
def En.enter(E:En K F j H σ ρ S)(hl:σ'.length=ρ'.length)(h:∀(i:Nat) x,ρ'[i]? =eV (eV x)->∃v,σ'[i]? =eV (eV v)/\Xis K j H x v):En K #[H,j,S] j H σ' ρ' S:=
 #[hl,h,E.jl,E.inj,E.cel,Ext.refl,λn c e=>#[c,e,λz=>z,λ_=>rfl],E.jl,λb u e=> .inl e,λn a hn e=>by have:=(uT.1 e).1;dsimp only at hn;omega,λb e=>e]
def En.leave(E:En K F j H σ ρ S)(X:En K #[H,j,S] j' H' σ' ρ' S'):En K F j' H' σ ρ S'/\Ext j H j' H':=by
 have e:Ext j H j' H':=X.ext;show#[#[E.len,λi x h=> ?_,X.jl,X.inj,X.cel,E.ext.trans e,λn c h=> ?_,E.l0,λb u h=> ?_,λn a hn h=> ?_,λb h=>E.dom b (X.dom b h)],e];have#[v,e1,e2]:=E.slot i x h;show#[v,e1,e2.mono e];have#[c1,e1,e2,e3]:=E.old n c h;have#[c2,f1,f2,f3]:=X.old n c1 e1;show#[c2,f1,λz=>e2 (f2 z),λz=> ?_];obtain rfl:=e3 z;show f3 z
 .rcases E.keep b u h with h1|h1
  .rcases X.keep b u h1 with h2|⟨n,c,h2,h3,h4⟩
   .show .inl h2
   by_cases hn:n<F.j0.length
   .have e1:F.j0[n]? =eV F.j0[n]:=uV hn;have e2:=E.ext.pre n _ e1;have mG:j[n]? =eV b:=h2;rw[mG] at e2;cases e2;have eY:n<F.S0.length:=by rw[<-E.l0];show hn
    have#[c1,f1,f2,_]:=E.old n _ (uV eY);have oM:S[n]? =eV c:=h3;rw[oM] at f1;cases f1;show .inr #[n,_,e1,uV eY,f2 h4]
   have:=E.fresh n b ⋯ h2;rw[this] at h;cases h
  show .inr h1
 by_cases hm:n<j.length;have e1:j[n]? =eV j[n]:=uV hm;have e2:=e.pre n _ e1;rw[h] at e2;cases e2;show E.fresh n _ hn e1;show E.dom a (X.fresh n a (by dsimp only;omega) h)
def En.grow(E:En K F j H σ ρ S):En K F j H (σ++z4 k gi) (ρ++z4 k gi) S:=E.slots (by simp[E.len]) λi x e=>by
 by_cases hi:i<ρ.length;rw[v5 hi] at e;rw[v5 (by rw[E.len];show hi)];show E.slot i x e;rw[w5 ⋯,Cy] at e;split at e;cases e;cases e
end
inductive Rs(α:Type) where
 |ok (a:α) (S:Sto)
 |ex (c:Str) (S:Sto)
abbrev TwE:=Rho->Sto->pf (Rs Xv)
abbrev TwT:=Rho->Sto->pf (Rs Bool)
abbrev TwL:=Rho->Sto->pf (Rs (kx Xv))
abbrev TwO:=Rho->Sto->pf (Rs (pf Int))
abbrev TwG:=Xv->Rho->Sto->pf (Rs Rho)
abbrev zjp:=kx Xv->Rho->Sto->pf (Rs Rho)
abbrev TwI:=Rho->Sto->pf (Rs (Sto->pf (kx Xv)))
inductive Fl where
 |nx (ρ:Rho) (S:Sto)
 |bk (ρ:Rho) (S:Sto)
 |ct (ρ:Rho) (S:Sto)
 |rt (x:Xv) (S:Sto)
 |ex (c:Str) (S:Sto)
abbrev TwS:=Rho->Sto->pf Fl
noncomputable def rb{α β:Type}(m:pf (Rs α))(f:α->Sto->pf (Rs β)):pf (Rs β):=match m with
 |some (.ok a S)=>f a S
 |some (.ex c S)=>eV (.ex c S)
 |none=>gi
noncomputable def sb{α:Type}(m:pf (Rs α))(f:α->Sto->pf Fl):pf Fl:=match m with
 |some (.ok a S)=>f a S
 |some (.ex c S)=>eV (.ex c S)
 |none=>gi
def zI{α β:Type}{m:pf (Rs α)}{f:α->Sto->pf (Rs β)}{r:Rs β}(h:rb m f=eV r):(∃a S,m=eV (.ok a S)/\f a S=eV r)\/∃c S,m=eV (.ex c S)/\r= .ex c S:=by
 unfold rb at h;split at h;show .inl #[_,_,rfl,h];cases h;show .inr #[_,_,rfl,rfl];cases h
def xZ{α:Type}{m:pf (Rs α)}{f:α->Sto->pf Fl}(h:sb m f=eV r):(∃a S,m=eV (.ok a S)/\f a S=eV r)\/∃c S,m=eV (.ex c S)/\r= .ex c S:=by
 unfold sb at h;split at h;show .inl #[_,_,rfl,h];cases h;show .inr #[_,_,rfl,rfl];cases h
def PX(K:uU)(F:Fm)(j:kx p8)(H:Hp)(E:XK)(c:Str)(S':Sto):Prop:=
 ∀j' H' σ' ρ' C,Ext j H j' H'->En K F j' H' σ' ρ' S'->y9 K FV c=eV (eV (.ref C))->E (.ref C) gi H'
def PX.mono{E:XK}(h:PX K F j H E c S')(e:Ext j H j1 H1):PX K F j1 H1 E c S':=λj' H' σ' ρ' C x y z=>h j' H' σ' ρ' C (e.trans x) y z
def Po{α:Type}(K:uU)(F:Fm)(j:kx p8)(H:Hp)(σ:St)(ρ:Rho)(E:XK)(P:α->kx p8->Hp->Prop):Rs α->Prop
 | .ok a S'=>∀j' H',Ext j H j' H'->En K F j' H' σ ρ S'->P a j' H'
 | .ex c S'=>PX K F j H E c S'
theorem Po.step{α:Type}{ρ:Rho}{E:XK}{P:α->kx p8->Hp->Prop}:∀{r:Rs α},Po K F j H σ ρ E P r->Ext j H j1 H1->Po K F j1 H1 σ ρ E P r
 | .ok a S',h,e=>λj' H' x y=>h j' H' (e.trans x) y
 | .ex c S',h,e=>PX.mono h e
noncomputable abbrev PoV(K:uU)(Q:VK):Xv->kx p8->Hp->Prop:=λx j' H'=>∀v,Xis K j' H' x v->Q v H'
def RE(K:uU)(E:XK)(t:TE)(m:TwE):Prop:=∀{F:Fm} {j:kx p8} {σ:St} {H:Hp} {ρ:Rho} {S:Sto} {r:Rs Xv} {Q:VK},En K F j H σ ρ S->m ρ S=eV r->Po K F j H σ ρ E (PoV K Q) r->t σ H Q
def RT(K:uU)(E:XK)(t:TT)(m:TwT):Prop:=∀{F:Fm} {j:kx p8} {σ:St} {H:Hp} {ρ:Rho} {S:Sto} {r:Rs Bool} {Q:Bool->Hp->Prop},En K F j H σ ρ S->m ρ S=eV r->Po K F j H σ ρ E (λb _ H'=>Q b H') r->t σ H Q
def RL(K:uU)(E:XK)(t:TA)(m:TwL):Prop:=∀{F:Fm} {j:kx p8} {σ:St} {H:Hp} {ρ:Rho} {S:Sto} {r:Rs (kx Xv)} {Q:kx V->Hp->Prop},En K F j H σ ρ S->m ρ S=eV r->Po K F j H σ ρ E (λxs j' H'=>∀vs,yr K j' H' xs vs->Q vs H') r->t σ H Q
def RO(K:uU)(E:XK)(t:TO)(m:TwO):Prop:=∀{F:Fm} {j:kx p8} {σ:St} {H:Hp} {ρ:Rho} {S:Sto} {r:Rs (pf Int)} {Q:pf Int->Hp->Prop},En K F j H σ ρ S->m ρ S=eV r->Po K F j H σ ρ E (λo _ H'=>Q o H') r->t σ H Q
def PoG(K:uU)(F:Fm)(j:kx p8)(H:Hp)(E:XK)(R:St->Hp->Prop):Rs Rho->Prop
 | .ok ρ' S'=>∀σ' j' H',Ext j H j' H'->En K F j' H' σ' ρ' S'->R σ' H'
 | .ex c S'=>PX K F j H E c S'
theorem PoG.step{E:XK}{R:St->Hp->Prop}:∀{r:Rs Rho},PoG K F j H E R r->Ext j H j1 H1->PoG K F j1 H1 E R r
 | .ok a S',h,e=>λσ' j' H' x y=>h σ' j' H' (e.trans x) y
 | .ex c S',h,e=>PX.mono h e
def RG(K:uU)(E:XK)(t:TG)(g:TwG):Prop:=∀{F:Fm} {j:kx p8} {σ:St} {H:Hp} {ρ:Rho} {S:Sto} {r:Rs Rho} {x:Xv} {v:V} {R:St->Hp->Prop},En K F j H σ ρ S->Xis K j H x v->g x ρ S=eV r->PoG K F j H E R r->t v σ H R
def RGs(K:uU)(E:XK)(t:TGs)(g:zjp):Prop:=∀{F:Fm} {j:kx p8} {σ:St} {H:Hp} {ρ:Rho} {S:Sto} {r:Rs Rho} {xs:kx Xv} {vs:kx V} {R:St->Hp->Prop},En K F j H σ ρ S->yr K j H xs vs->g xs ρ S=eV r->PoG K F j H E R r->t vs σ H R
def zpQ(K:uU)(F:Fm)(j:kx p8)(H:Hp)(E:XK)(D':zaI):Fl->Prop
 | .nx ρ S=>∀σ j' H',Ext j H j' H'->En K F j' H' σ ρ S->D'.nx σ H'
 | .bk ρ S=>∀σ j' H',Ext j H j' H'->En K F j' H' σ ρ S->D'.bk σ H'
 | .ct ρ S=>∀σ j' H',Ext j H j' H'->En K F j' H' σ ρ S->D'.ct σ H'
 | .rt x S=>∀v σ ρ j' H',Ext j H j' H'->En K F j' H' σ ρ S->Xis K j' H' x v->D'.rt v H'
 | .ex c S=>PX K F j H E c S
theorem zpQ.step{E:XK}:∀{fl:Fl},zpQ K F j H E D' fl->Ext j H j1 H1->zpQ K F j1 H1 E D' fl
 | .nx _ _,h,e=>λσ j' H' x y=>h σ j' H' (e.trans x) y
 | .bk _ _,h,e=>λσ j' H' x y=>h σ j' H' (e.trans x) y
 | .ct _ _,h,e=>λσ j' H' x y=>h σ j' H' (e.trans x) y
 | .rt _ _,h,e=>λv σ ρ j' H' x y z=>h v σ ρ j' H' (e.trans x) y z
 | .ex _ _,h,e=>PX.mono h e
def RS(K:uU)(E:XK)(t:TS)(m:TwS):Prop:=∀{F:Fm} {j:kx p8} {D':zaI} {σ:St} {H:Hp} {ρ:Rho} {S:Sto} {fl:Fl},En K F j H σ ρ S->m ρ S=eV fl->zpQ K F j H E D' fl->t D' σ H
def zf3(K:uU)(j:kx p8)(H:Hp)(J:It)(get:Sto->pf (kx Xv)):Prop:=∀{F:Fm} {j':kx p8} {H':Hp} {σ:St} {ρ:Rho} {S:Sto} {xs:kx Xv} (i:Nat),Ext j H j' H'->En K F j' H' σ ρ S->get S=eV xs->
 (∀x,xs[i]? =eV x->J.go i H'/\∀v H'',J.yld i H' v H''->YS H' H''/\Xis K j' H'' x v)/\(i=xs.length->J.stop i H')
def RI(K:uU)(E:XK)(t:TI)(m:TwI):Prop:=∀{F:Fm} {j:kx p8} {σ:St} {H:Hp} {ρ:Rho} {S:Sto} {r:Rs (Sto->pf (kx Xv))} {R:It->Hp->Prop},En K F j H σ ρ S->m ρ S=eV r->Po K F j H σ ρ E (λget j' H'=>∀J,zf3 K j' H' J get->R J H') r->t σ H R
abbrev Op2:=Xv->Xv->Sto->pf (Xv×Sto)
abbrev Opn:=kx Xv->Sto->pf (Xv×Sto)
def Xy(K:uU)(r:R2)(f:Op2):Prop:=∀{F:Fm} {j:kx p8} {σ:St} {H:Hp} {ρ:Rho} {S S':Sto} {x y z:Xv} {u v:V} {Q:VK},En K F j H σ ρ S->Xis K j H x u->Xis K j H y v->f x y S=eV (z,S')->(∀w j' H',Ext j H j' H'->En K F j' H' σ ρ S'->Xis K j' H' z w->Q w H')->r u v H Q
def ztB(K:uU)(r:V->Hp->VK->Prop)(f:Xv->Sto->pf (Xv×Sto)):Prop:=∀{F:Fm} {j:kx p8} {σ:St} {H:Hp} {ρ:Rho} {S S':Sto} {x z:Xv} {u:V} {Q:VK},En K F j H σ ρ S->Xis K j H x u->f x S=eV (z,S')->(∀w j' H',Ext j H j' H'->En K F j' H' σ ρ S'->Xis K j' H' z w->Q w H')->r u H Q
def zaQ(K:uU)(r:kx V->Hp->VK->Prop)(f:Opn):Prop:=∀{F:Fm} {j:kx p8} {σ:St} {H:Hp} {ρ:Rho} {S S':Sto} {xs:kx Xv} {z:Xv} {vs:kx V} {Q:VK},En K F j H σ ρ S->yr K j H xs vs->f xs S=eV (z,S')->(∀w j' H',Ext j H j' H'->En K F j' H' σ ρ S'->Xis K j' H' z w->Q w H')->r vs H Q
noncomputable def zi(i:Nat):TwE:=λρ S=>match ρ[i]? with
 |some (eV x)=>eV (.ok x S)
 |_=>gi
noncomputable def eC(x:Xv):TwE:=λ_ S=>eV (.ok x S)
noncomputable abbrev qx(n:Int):=eC (.int n)
noncomputable abbrev qE(z:Str):=eC (.str z)
noncomputable def okP(o:pf (Xv×Sto)):pf (Rs Xv):=o.map λp=> .ok p.1 p.2
def YU(h:okP o=eV r):∃z S,o=eV (z,S)/\r= .ok z S:=by
 cases o with
 |none=>cases h
 |some p=>cases h;show#[_,_,rfl,rfl]
def eOp(f:Op2)(a b:TwE):TwE:=λρ S=>rb (a ρ S) λx S1=>rb (b ρ S1) λy S2=>okP (f x y S2)
def eUn(f:Xv->Sto->pf (Xv×Sto))(a:TwE):TwE:=λρ S=>rb (a ρ S) λx S1=>okP (f x S1)
noncomputable def bE(m:TwE):TwT:=λρ S=>rb (m ρ S) λx S1=>match x with
 | .bl b=>eV (.ok b S1)
 |_=>gi
noncomputable def eB(m:TwT):TwE:=λρ S=>rb (m ρ S) λb S1=>eV (.ok (.bl b) S1)
noncomputable def zbI(a b:TwT):TwT:=λρ S=>rb (a ρ S) λx S1=>if x then b ρ S1 else eV (.ok mK S1)
noncomputable def bOr(a b:TwT):TwT:=λρ S=>rb (a ρ S) λx S1=>if x then eV (.ok hG S1) else b ρ S1
noncomputable def Um(a:TwT):TwT:=λρ S=>rb (a ρ S) λx S1=>eV (.ok (!x) S1)
def zf4(a b:TwE):TwE:=λρ S=>rb (bE a ρ S) λx S1=>if x then b ρ S1 else eV (.ok (.bl mK) S1)
noncomputable def eIf(c:TwT)(a b:TwE):TwE:=λρ S=>rb (c ρ S) λx S1=>if x then a ρ S1 else b ρ S1
noncomputable def evL:kx TwE->TwL
 |[]=>λ_ S=>eV (.ok [] S)
 |m::r=>λρ S=>rb (m ρ S) λx S1=>rb (evL r ρ S1) λxs S2=>eV (.ok (x::xs) S2)
noncomputable def xc(ms:kx TwE):TwE:=λρ S=>rb (evL ms ρ S) λxs S1=>eV (.ok (.tup xs) S1)
noncomputable def zbJ(ms:kx TwE):TwE:=λρ S=>rb (evL ms ρ S) λxs S1=>eV (.ok (.ref S1.length) (S1++[.lst xs]))
def eFn(f:Opn)(ms:kx TwE):TwE:=λρ S=>rb (evL ms ρ S) λxs S1=>okP (f xs S1)
noncomputable def ztC(f:Xv->Xv->pf Xv):Op2:=λx y S=>(f x y).map λz=>(z,S)
noncomputable def zuS(f:Xv->pf Xv):Xv->Sto->pf (Xv×Sto):=λx S=>(f x).map λz=>(z,S)
def zni{o:pf Xv}{S S':Sto}{z:Xv}(h:(o.map λz=>(z,S))=eV (z,S')):o=eV z/\S'=S:=by
 cases o with
 |none=>cases h
 |some p=>cases h;show#[rfl,rfl]
section
variable{E:XK}{F:Fm}{j:kx p8}{ρ:Rho}{S:Sto}
def Po.val{Q:VK}(k:Po K F j H σ ρ E (PoV K Q) (.ok x S))(En0:En K F j H σ ρ S)(h:Xis K j H x v):Q v H:=k j H Ext.refl En0 v h
set_option tactic.hygienic true in
def zu(i:Nat):RE K E (zry i) (zi i):=by
 intro F j σ H ρ S r Q En0 e k;unfold zi at e;split at e;rename_i x ex;cases e;have#[v,e1,e2]:=En0.slot i _ ex;show#[v,e1,k.val En0 e2];cases e
def zjq(h:∀j H,Xis K j H x v):RE K E (tC v) (eC x):=λEn0 e k=>by
 cases e;show k.val En0 (h _ _)
def yO(i:Int):RE K E (tC (.int i)) (qx i):=zjq λ_ _=> .int i
def Ve(x:Str):RE K E (tC (.str x)) (eC (.str x)):=zjq λ_ _=> .str x
def ztD(b:Bool):RE K E (tC (.bl b)) (eC (.bl b)):=zjq λ_ _=> .bl b
def znj:RE K E (tC .non) (eC .non):=zjq λ_ _=> .non
def yH{r:R2}{f:Op2}{ta tb:TE}{a b:TwE}(ho:Xy K r f)(ha:RE K E ta a)(hb:RE K E tb b):RE K E (tOp r ta tb) (eOp f a b):=by
 walk_at "!a"
 .show ha En0 e1 λj1 H1 X1 E1 u hu=> ?_;rcases zI e with⟨y,S2,e2,e⟩|⟨c,S2,e2,rfl⟩
  .obtain⟨z,S3,e3,rfl⟩:=YU e;show hb E1 e2 λj2 H2 X2 E2 v hv=>ho E2 (hu.mono X2) hv e3 λw j3 H3 X3 E3 hw=>k _ _ (X1.trans (X2.trans X3)) E3 _ hw
  show hb E1 e2 (PX.mono k X1)
 show ha En0 e1 k
def ztE{r:V->Hp->VK->Prop}{f:Xv->Sto->pf (Xv×Sto)}(ho:ztB K r f)(ha:RE K E ta a):RE K E (tUn r ta) (eUn f a):=by
 walk_at "!a"
 .obtain⟨z,S3,e3,rfl⟩:=YU e;show ha En0 e1 λj1 H1 X1 E1 u hu=>ho E1 hu e3 λw j3 H3 X3 E3 hw=>k _ _ (X1.trans X3) E3 _ hw
 show ha En0 e1 k
def zhG(h:RE K E t m):RT K E (tB t) (bE m):=by
 walk_at "!a"
 .split at e
  .cases e;show h En0 e1 λj1 H1 X1 E1 u hu=>#[_,hu.bl_inv,k _ _ X1 E1]
  cases e
 show h En0 e1 k
def YC(h:RE K E t m):RT K E (zq1 t) (bE m):=zhG h
def znk(ha:RT K E t a)(hb:RT K E u b):RT K E (zte t u) (zbI a b):=by
 walk_at "!a"
 .show ha En0 e1 λj1 H1 X1 E1=> ?_;cases x with
  |true=>show hb E1 e (k.step X1)
  |false=>cases e;show k _ _ X1 E1
 show ha En0 e1 k
def ztF(ha:RT K E t a)(hb:RT K E u b):RT K E (tOr t u) (bOr a b):=by
 walk_at "!a"
 .show ha En0 e1 λj1 H1 X1 E1=> ?_;cases x with
  |true=>cases e;show k _ _ X1 E1
  |false=>show hb E1 e (k.step X1)
 show ha En0 e1 k
def zr3(ha:RT K E t a):RT K E (ztf t) (Um a):=by
 walk_at "!a"
 .cases e;show ha En0 e1 λj1 H1 X1 E1=>k _ _ X1 E1
 show ha En0 e1 k
def zr4{ta tb:TE}{a b:TwE}(ha:RE K E ta a)(hb:RE K E tb b):RE K E (zqW ta tb) (zf4 a b):=by
 walk_at "!a"
 .rcases zI e1 with⟨y,S2,e2,e1⟩|⟨c,S2,e2,z⟩
  .split at e1
   .cases e1;show ha En0 e2 λj1 H1 X1 E1 u hu=>#[_,hu.bl_inv,?_];cases x with
    |true=>show hb E1 e (k.step X1)
    |false=>cases e;show k _ _ X1 E1 _ (.bl mK)
   cases e1
  cases z
 rcases zI e1 with⟨y,S2,e2,e1⟩|⟨c,S2,e2,z⟩
 .split at e1<;>cases e1
 cases z;show ha En0 e2 k
def zr5(ha:RE K E ta a):RE K E (zqX ta) (eB (Um (bE a))):=by
 walk_at "!a"
 .rcases zI e1 with⟨y,S2,e2,e1⟩|⟨c,S2,e2,z⟩
  .rcases zI e2 with⟨z,S3,e3,e2⟩|⟨c,S3,e3,z⟩
   .split at e2
    .cases e2;cases e1;cases e;show ha En0 e3 λj1 H1 X1 E1 u hu=>#[_,hu.bl_inv,k _ _ X1 E1 _ (.bl _)]
    cases e2
   cases z
  cases z
 rcases zI e1 with⟨y,S2,e2,e1⟩|⟨c,S2,e2,z⟩
 .cases e1
 cases z;rcases zI e2 with⟨z,S3,e3,e2⟩|⟨c,S3,e3,z⟩
 .split at e2<;>cases e2
 cases z;show ha En0 e3 k
def znl{t:TT}{c:TwT}{ta tb:TE}{a b:TwE}(hc:RT K E t c)(ha:RE K E ta a)(hb:RE K E tb b):RE K E (tIf t ta tb) (eIf c a b):=by
 walk_at "!a"
 .show hc En0 e1 λj1 H1 X1 E1=> ?_;cases x with
  |true=>show ha E1 e (k.step X1)
  |false=>show hb E1 e (k.step X1)
 show hc En0 e1 k
noncomputable def Xv.isNon:Xv->Bool
 | .non=>hG
 |_=>mK
noncomputable def zjr:Xv->Sto->pf (Xv×Sto):=zuS λx=>eV (.bl x.isNon)
def zpR(h:Xis K j H x v):decide (v= .non)=x.isNon:=by cases h<;>simp[Xv.isNon]
def znm(ha:RE K E ta a):RE K E (ztd ta) (eUn zjr a):=by
 walk_at "!a"
 .cases e;show ha En0 e1 λj1 H1 X1 E1 u hu=>k _ _ X1 E1 _ (by rw[zpR hu];show .bl _)
 show ha En0 e1 k
def zY:RL K E zlz (evL []):=λEn0 e k=>by
 cases e;show k _ _ Ext.refl En0 [] .nil
def zt(ha:RE K E ta m)(hr:RL K E tr (evL ms)):RL K E (zb8 ta tr) (evL (m::ms)):=by
 walk_at "!a"
 .show ha En0 e1 λj1 H1 X1 E1 u hu=> ?_;rcases zI e with⟨xs,S2,e2,e⟩|⟨c,S2,e2,rfl⟩
  .cases e;show hr E1 e2 λj2 H2 X2 E2 vs hv=>k _ _ (X1.trans X2) E2 (u::vs) (.cons (hu.mono X2) hv)
  show hr E1 e2 (PX.mono k X1)
 show ha En0 e1 k
theorem XE:∀{ms:kx TwE} {ρ:Rho} {S S':Sto} {xs:kx Xv},evL ms ρ S=eV (.ok xs S')->xs.length=ms.length
 |[],_,_,_,_,h=>by cases h;rfl
 |m::ms,ρ,S,S',xs,h=>by
  rcases zI h with⟨x,S1,e1,h⟩|⟨c,S1,e1,z⟩
  .rcases zI h with⟨ys,S2,e2,h⟩|⟨c,S2,e2,z⟩
   .cases h;simp[XE e2]
   cases z
  cases z
def Vf(h:RL K E t (evL ms))(hl:ms.length<=1000:=by simp):RE K E (ztp t) (xc ms):=by
 walk_at "!d"
 .cases e;show h En0 e1 λj1 H1 X1 E1 vs hv=>#[?_,λp hp=> ?_]
  .rw[hv.len,XE e1];show v7 hl ∅
  have#[E2,X2]:=E1.new (o:= .tup vs) hp;show k _ _ (X1.trans X2) E2 _ (.tup zW (hv.mono X2))
 show h En0 e1 k
def En.lst{xs:kx Xv}{vs:kx V}{p:p8}(En0:En K F j H σ ρ S)(hv:yr K j H xs vs)(hp:H p=gi):En K F (j++[p]) (upd H p (.lst vs)) σ ρ (S++[.lst xs])/\Ext j H (j++[p]) (upd H p (.lst vs))/\Xis K (j++[p]) (upd H p (.lst vs)) (.ref S.length) (.ref p):=by
 have X:Ext j H (j++[p]) (upd H p (.lst vs)):=#[λn a e=>by rw[v5 (uT.1 e).1];show e,vB.same (wI hp)];have#[E1,_]:=En0.cell (o:= .lst vs) (c:= .lst xs) hp #[vs,zW,hv.mono X];show#[E1,X,.ref (by rw[<-En0.jl];simp)]
def zr6(h:RL K E t (evL ms))(hl:ms.length<=1000:=by simp):RE K E (ztq t) (zbJ ms):=by
 walk_at "!d"
 .cases e;show h En0 e1 λj1 H1 X1 E1 vs hv=>#[?_,λp hp=> ?_]
  .rw[hv.len,XE e1];show v7 hl ∅
  have#[E2,X2,h2]:=E1.lst hv hp;show k _ _ (X1.trans X2) E2 _ h2
 show h En0 e1 k
def zkE{r:kx V->Hp->VK->Prop}(hr:zaQ K r f)(h:RL K E t (evL ms)):RE K E (tCB r t) (eFn f ms):=by
 walk_at "!d"
 .obtain⟨z,S3,e3,rfl⟩:=YU e;show h En0 e1 λj1 H1 X1 E1 vs hv=>hr E1 hv e3 λw j3 H3 X3 E3 hw=>k _ _ (X1.trans X3) E3 _ hw
 show h En0 e1 k
end
noncomputable def yn(S:Sto):Xv->pf (kx Xv)
 | .ref n=>match S[n]? with
  |some (.lst xs)=>eV xs
  |some (.frz xs)=>eV xs
  |_=>gi
 |_=>gi
noncomputable def Yw(S:Sto)(x:Xv):pf (kx Xv):=match x.tupOf with
 |some xs=>eV xs
 |none=>yn S x
noncomputable def zag(S:Sto):Xv->pf (Nat×kx Xv)
 | .ref n=>match S[n]? with
  |some (.lst xs)=>eV (n,xs)
  |_=>gi
 |_=>gi
section
variable{E:XK}{F:Fm}{j:kx p8}{ρ:Rho}{S:Sto}{x:Xv}{v:V}
def En.lstAt(E0:En K F j H σ ρ S)(hx:Xis K j H x v)(h:L2.yn S x=eV xs):∃a vs,v= .ref a/\SqX K H a vs/\yr K j H xs vs:=by
 cases x<;>simp only[L2.yn,reduceCtorEq] at h
 have#[a,rfl,hj]:=hx.ref_inv;split at h;cases h;have#[vs,e1,e2]:=E0.cel _ _ _ (by assumption) hj;show#[a,vs,rfl,SqX.of e1,e2];cases h;have#[vs,e1,e2]:=E0.cel _ _ _ (by assumption) hj;show#[a,vs,rfl,?_,e2];rcases e1 with⟨o,e1⟩|e1;show .inl (.inr #[o,e1]);show e1 H;cases h
def En.seqAt(E0:En K F j H σ ρ S)(hx:Xis K j H x v)(h:L2.Yw S x=eV xs):∃a vs,v= .ref a/\(SqX K H a vs\/SqT K H a vs)/\yr K j H xs vs:=by
 unfold L2.Yw at h;split at h;cases h;have#[a,vs,e1,e2,e3]:=hx.tupO (by assumption);show#[a,vs,e1,.inr e2,e3];have#[a,vs,e1,e2,e3]:=E0.lstAt hx h;show#[a,vs,e1,.inl e2,e3]
def ze9(h:zag S x=eV (n,xs)):x= .ref n/\S[n]? =eV (.lst xs):=by
 cases x<;>simp only[zag,reduceCtorEq] at h
 split at h;cases h;show#[rfl,by assumption];cases h
def En.wl(E0:En K F j H σ ρ S)(hx:Xis K j H x v)(h:zag S x=eV (n,xs)):∃a vs,v= .ref a/\j[n]? =eV a/\H a=eV (.lst vs)/\yr K j H xs vs:=by
 have#[rfl,hs]:=ze9 h;have#[a,rfl,hj]:=hx.ref_inv;have#[vs,e1,e2]:=E0.cel _ _ _ hs hj;show#[a,vs,rfl,hj,e1,e2]
def En.wr(E0:En K F j H σ ρ S)(h:zag S x=eV (n,xs))(hj:j[n]? =eV a)(hw:yr K j H ys ws):En K F j (upd H a (.lst ws)) σ ρ (S.set n (.lst ys))/\Ext j H j (upd H a (.lst ws)):=
 E0.write (ze9 h).2 rfl hj rfl λX=>#[ws,zW,hw.mono X]
def tyL(h:SqL K H a vs):tyV K "list" (.ref a) H:= .inl #[rfl,vs,h]
noncomputable def zB:Op2:=λx y S=>match x.tupOf,y with
 |some xs,.int i=>(atI xs i).map λz=>(z,S)
 |_,_=>gi
noncomputable def YD:Op2:=λx y S=>match yn S x,y with
 |some xs,.int i=>(atI xs i).map λz=>(z,S)
 |_,_=>gi
def zhH:Op2:=ztC λx y=>match x,y with
 | .str z,.int i=>if z.length<=FU then (atI z.cps.toList i).map λc=> .str #[[c].toArray] else gi
 |_,_=>gi
set_option tactic.hygienic true in
def yV:Xy K (zpy K) zB:=by
 intro F j σ H ρ S S' x y z u v Q E0 hx hy h k;unfold zB at h;split at h
 .rename_i xs i ex;cases e:atI xs i with
  |none=>rw[e] at h;cases h
  |some z'=>
   rw[e] at h;cases h;have#[a,vs,rfl,h1,h2]:=hx.tupO ex;have#[w,e1,e2]:=h2.at_ e;show#[a,vs,_,w,rfl,hy.int_inv,h1,e1,k _ _ _ Ext.refl E0 e2]
 cases h
set_option tactic.hygienic true in
def zah:Xy K (zpx K) YD:=by
 intro F j σ H ρ S S' x y z u v Q E0 hx hy h k;unfold YD at h;split at h
 .rename_i xs i ex;cases e:atI xs i with
  |none=>rw[e] at h;cases h
  |some z'=>
   rw[e] at h;cases h;have#[a,vs,rfl,h1,h2]:=E0.lstAt hx ex;have#[w,e1,e2]:=h2.at_ e;show#[a,vs,_,w,rfl,hy.int_inv,h1.sql,e1,k _ _ _ Ext.refl E0 e2]
 cases h
set_option tactic.hygienic true in
def znn:Xy K zrS zhH:=by
 intro F j σ H ρ S S' x y z u v Q E0 hx hy h k;have#[h',rfl]:=zni h;dsimp only at h';split at h'
 .split at h'
  .rename_i zz i hz;cases e:atI zz.cps.toList i with
   |none=>rw[e] at h';cases h'
   |some c=>
    rw[e] at h';cases h';show#[zz,i,c,hx.str_inv,hy.int_inv,hz,e,k _ _ _ Ext.refl E0 (.str _)]
  cases h'
 cases h'
noncomputable def zhI:Op2:=λx y S=>match Yw S x,y with
 |some xs,.int i=>(atI xs i).map λz=>(z,S)
 |_,_=>gi
set_option tactic.hygienic true in
def zno:Xy K (rIx K) zhI:=by
 intro F j σ H ρ S S' x y z u v Q E0 hx hy h k;unfold zhI at h;split at h
 .rename_i xs i ex;cases e:atI xs i with
  |none=>rw[e] at h;cases h
  |some z'=>
   rw[e] at h;cases h;have#[a,vs,rfl,h1,h2]:=E0.seqAt hx ex;have#[w,e1,e2]:=h2.at_ e;rcases h1 with h1|h1;show .inl #[a,vs,_,w,rfl,hy.int_inv,h1.sql,e1,k _ _ _ Ext.refl E0 e2];show .inr (.inl #[a,vs,_,w,rfl,hy.int_inv,h1,e1,k _ _ _ Ext.refl E0 e2])
 cases h
noncomputable def oNo:TwO:=λ_ S=>eV (.ok gi S)
noncomputable def VQ(m:TwE):TwO:=λρ S=>rb (m ρ S) λx S1=>match x with
 | .int i=>eV (.ok (eV i) S1)
 |_=>gi
def ztG:RO K E zkr oNo:=λE0 e k=>by
 cases e;show k _ _ Ext.refl E0
def zpS(h:RE K E t m):RO K E (zq3 t) (VQ m):=by
 walk_at "!a"
 .split at e
  .cases e;show h En0 e1 λj1 H1 X1 E1 u hu=>#[_,hu.int_inv,k _ _ X1 E1]
  cases e
 show h En0 e1 k
noncomputable def zbK{α:Type}(xs:kx α)(lo' hi:pf Int):kx α:=(xs.drop (HT.sIx xs.length 0 lo')).take (HT.sIx xs.length xs.length hi-HT.sIx xs.length 0 lo')
def yr.cut(h:yr K j H xs vs)(lo' hi:pf Int):yr K j H (zbK xs lo' hi) (zej vs lo' hi):=by
 unfold zej zbK;rw[h.len];show(h.drop _).take _
def eSl(f:Xv->pf Int->pf Int->Sto->pf (Xv×Sto))(m:TwE)(lo' hi:TwO):TwE:=λρ S=>rb (m ρ S) λx S1=>rb (lo' ρ S1) λy S2=>rb (hi ρ S2) λz S3=>okP (f x y z S3)
def zkF(K:uU)(r:V->pf Int->pf Int->Hp->VK->Prop)(f:Xv->pf Int->pf Int->Sto->pf (Xv×Sto)):Prop:=∀{F:Fm} {j:kx p8} {σ:St} {H:Hp} {ρ:Rho} {S S':Sto} {x z:Xv} {lo' hi:pf Int} {u:V} {Q:VK},En K F j H σ ρ S->Xis K j H x u->f x lo' hi S=eV (z,S')->(∀w j' H',Ext j H j' H'->En K F j' H' σ ρ S'->Xis K j' H' z w->Q w H')->r u lo' hi H Q
def znp{r:V->pf Int->pf Int->Hp->VK->Prop}{f:Xv->pf Int->pf Int->Sto->pf (Xv×Sto)}{te:TE}{tl th:TO}{m:TwE}{lo' hi:TwO}(ho:zkF K r f)(hm:RE K E te m)(hl:RO K E tl lo')(hh:RO K E th hi):RE K E (tSl r te tl th) (eSl f m lo' hi):=by
 walk_at "!a"
 .show hm En0 e1 λj1 H1 X1 E1 u hu=> ?_;rcases zI e with⟨y,S2,e2,e⟩|⟨c,S2,e2,rfl⟩
  .show hl E1 e2 λj2 H2 X2 E2=> ?_;rcases zI e with⟨z,S3,e3,e⟩|⟨c,S3,e3,rfl⟩
   .obtain⟨w,S4,e4,rfl⟩:=YU e;show hh E2 e3 λj3 H3 X3 E3=>ho E3 (hu.mono (X2.trans X3)) e4 λw j4 H4 X4 E4 hw=>k _ _ (X1.trans (X2.trans (X3.trans X4))) E4 _ hw
   show hh E2 e3 (PX.mono k (X1.trans X2))
  show hl E1 e2 (PX.mono k X1)
 show hm En0 e1 k
noncomputable def zhJ:Xv->pf Int->pf Int->Sto->pf (Xv×Sto):=λx lo' hi S=>(yn S x).map λxs=>(.ref S.length,S++[.lst (zbK xs lo' hi)])
def ztH:zkF K (zmN K) zhJ:=by
 intro F j σ H ρ S S' x z lo' hi u Q E0 hx h k;unfold zhJ at h;cases e:yn S x with
 |none=>rw[e] at h;cases h
 |some xs=>
  rw[e] at h;cases h;have#[a,vs,rfl,h1,h2]:=E0.lstAt hx e;show#[a,vs,rfl,h1.sql,λp hp=> ?_];have#[E1,X1,h3]:=E0.lst (h2.cut lo' hi) hp;show k _ _ _ X1 E1 h3
noncomputable def zdn:Xv->pf Int->pf Int->Sto->pf (Xv×Sto):=λx lo' hi S=>match x with
 | .str z=>if z.length<=FU then eV (.str (Txt.slice z lo' hi),S) else gi
 |_=>gi
def ztI:zkF K zpH zdn:=by
 intro F j σ H ρ S S' x z lo' hi u Q E0 hx h k;unfold zdn at h;split at h;split at h;cases h;show#[_,hx.str_inv,by assumption,k _ _ _ Ext.refl E0 (.str _)];cases h;cases h
noncomputable def zlP:Xv->pf Int->pf Int->Sto->pf (Xv×Sto):=λx lo' hi S=>match x with
 | .tup xs=>eV (.tup (zbK xs lo' hi),S)
 |_=>gi
def zlQ{α:Type}{xs:kx α}(h:HT.sIx xs.length 0 lo'=0/\HT.sIx xs.length xs.length hi=xs.length):zbK xs lo' hi=xs:=by
 unfold zbK;rw[h.1,h.2];simp
set_option tactic.hygienic true in
def ztJ:zkF K (zpM K) zlP:=by
 intro F j σ H ρ S S' x z lo' hi u Q E0 hx h k;unfold zlP at h;split at h;rename_i xs;cases h;have#[a,vs,rfl,h1,h2]:=hx.tup_inv;show#[a,vs,rfl,SqT.of h1,λhw=>k _ _ _ Ext.refl E0 ?_,λ_ p hp=> ?_];rw[h2.len] at hw;rw[zlQ hw];show hx;have#[E1,X1]:=E0.new (o:= .tup (zej vs lo' hi)) hp;show k _ _ _ X1 E1 (.tup zW ((h2.cut lo' hi).mono X1));cases h
def zr7(hm:RE K E te m)(hl:RO K E tl lo')(hh:RO K E th hi):RE K E (tSl (zmN K) te tl th) (eSl zhJ m lo' hi):= @znp K E (zmN K) zhJ te tl th m lo' hi (@ztH K) hm hl hh
def zr8(hm:RE K E te m)(hl:RO K E tl lo')(hh:RO K E th hi):RE K E (tSl zpH te tl th) (eSl zdn m lo' hi):= @znp K E zpH zdn te tl th m lo' hi (@ztI K) hm hl hh
def zr9(hm:RE K E te m)(hl:RO K E tl lo')(hh:RO K E th hi):RE K E (tSl (zpM K) te tl th) (eSl zlP m lo' hi):= @znp K E (zpM K) zlP te tl th m lo' hi (@ztJ K) hm hl hh
abbrev OpM:=Xv->kx Xv->Sto->pf (Xv×Sto)
def zlR(K:uU)(r:V->kx V->Hp->VK->Prop)(f:OpM):Prop:=∀{F:Fm} {j:kx p8} {σ:St} {H:Hp} {ρ:Rho} {S S':Sto} {x z:Xv} {ys:kx Xv} {u:V} {vs:kx V} {Q:VK},En K F j H σ ρ S->Xis K j H x u->yr K j H ys vs->f x ys S=eV (z,S')->(∀w j' H',Ext j H j' H'->En K F j' H' σ ρ S'->Xis K j' H' z w->Q w H')->r u vs H Q
def eMt(f:OpM)(o:TwE)(ms:kx TwE):TwE:=λρ S=>rb (o ρ S) λx S1=>(yn S1 x).bind λ_=>rb (evL ms ρ S1) λys S2=>okP (f x ys S2)
def znq{r:V->kx V->Hp->VK->Prop}(hr:zlR K r f)(ho:RE K E to o)(ht:RL K E t (evL ms)):RE K E (tBM K "list" r to t) (eMt f o ms):=by
 walk_at "!a"
 .show ho En0 e1 λj1 H1 X1 E1 u hu=> ?_;cases el:L2.yn S1 x with
  |none=>rw[el] at e;cases e
  |some l=>
   rw[el] at e;have#[a,vs,rfl,h1,_]:=E1.lstAt hu el;show#[tyL h1.sql,?_];rcases zI e with⟨ys,S2,e2,e⟩|⟨c,S2,e2,rfl⟩
   .obtain⟨z,S3,e3,rfl⟩:=YU e;show ht E1 e2 λj2 H2 X2 E2 ws hw=>hr E2 (hu.mono X2) hw e3 λw j3 H3 X3 E3 hz=>k _ _ (X1.trans (X2.trans X3)) E3 _ hz
   show ht E1 e2 (PX.mono k X1)
 show ho En0 e1 k
def znr{r:V->kx V->Hp->VK->Prop}(hr:zlR K r f)(ho:RE K E to o):RE K E (ztt K "list" r to) (eMt f o []):=by
 intro F j σ H ρ S r Q En0 e k;show znq hr ho zY En0 e k
noncomputable def XF:OpM:=λx ys S=>match zag S x,ys with
 |some (n,xs),[y]=>if xs.length<FU then eV (.non,S.set n (.lst (xs++[y]))) else gi
 |_,_=>gi
set_option tactic.hygienic true in
def zfa:zlR K zku XF:=by
 intro F j σ H ρ S S' x z ys u vs Q E0 hx hy h k;unfold XF at h;split at h;rename_i n xs y e;split at h;rename_i hl;cases h;have#[a,ws,rfl,hj,h1,h2]:=E0.wl hx e;have#[w,rfl,hw]:=hy.d1;have#[E1,X1]:=E0.wr e hj (h2.append (.one hw));show#[a,ws,w,rfl,rfl,h1,by rw[h2.len];show hl,k _ _ _ X1 E1 .non];cases h;cases h
noncomputable def zns:OpM:=λx ys S=>match zag S x,ys with
 |some (n,xs),[]=>(xs[xs.length-1]?).map λy=>(y,S.set n (.lst xs.dropLast))
 |_,_=>gi
set_option tactic.hygienic true in
def znt:zlR K ztu zns:=by
 intro F j σ H ρ S S' x z ys u vs Q E0 hx hy h k;unfold zns at h;split at h
 .rename_i n xs e;cases e1:xs[xs.length-1]? with
  |none=>rw[e1] at h;cases h
  |some y=>
   rw[e1] at h;cases h;have#[a,ws,rfl,hj,h1,h2]:=E0.wl hx e;obtain rfl:=hy.nil_inv;have#[w,f1,f2]:=h2.get e1;have#[E1,X1]:=E0.wr e hj h2.dropLast;show#[a,ws,w,rfl,rfl,h1,by rw[h2.len];show f1,k _ _ _ X1 E1 (f2.mono X1)]
 cases h
noncomputable def XG:OpM:=λx ys S=>match zag S x,ys with
 |some (n,xs),[y]=>(Yw S y).bind λzs=>if xs.length+zs.length<=FU then eV (.non,S.set n (.lst (xs++zs))) else gi
 |_,_=>gi
set_option tactic.hygienic true in
def zfb:zlR K (zhD K) XG:=by
 intro F j σ H ρ S S' x z ys u vs Q E0 hx hy h k;unfold XG at h;split at h
 .rename_i n xs y e;cases e1:Yw S y with
  |none=>rw[e1] at h;cases h
  |some zs=>
   rw[e1] at h;dsimp only[C4] at h;split at h;rename_i hl;cases h;have#[a,ws,rfl,hj,h1,h2]:=E0.wl hx e;have#[w,rfl,hw]:=hy.d1;have#[b,ts,rfl,g1,g2]:=E0.seqAt hw e1;have#[E1,X1]:=E0.wr e hj (h2.append g2);show#[a,b,ws,ts,rfl,rfl,h1,g1,by rw[h2.len,g2.len];show hl,k _ _ _ X1 E1 .non];cases h
 cases h
noncomputable def zw(a b:TwS):TwS:=λρ S=>match a ρ S with
 |some (.nx ρ1 S1)=>b ρ1 S1
 |r=>r
noncomputable def zK:TwS:=λρ S=>eV (.nx ρ S)
noncomputable def zf5:TwS:=λ_ _=>gi
def zH(m:TwE)(g:TwG):TwS:=λρ S=>sb (m ρ S) λx S1=>sb (g x ρ S1) λρ1 S2=>eV (.nx ρ1 S2)
def zcd(m:TwE):TwS:=λρ S=>sb (m ρ S) λ_ S1=>eV (.nx ρ S1)
def zR(m:TwE):TwS:=λρ S=>sb (m ρ S) λx S1=>eV (.rt x S1)
def sIf(c:TwT)(a b:TwS):TwS:=λρ S=>sb (c ρ S) λx S1=>if x then a ρ S1 else b ρ S1
noncomputable def zdo(r:pf Fl)(go:Rho->Sto->pf Fl):pf Fl:=match r with
 |some (.nx ρ S)=>go ρ S
 |some (.ct ρ S)=>go ρ S
 |some (.bk ρ S)=>eV (.nx ρ S)
 |r=>r
noncomputable def TW(get:Sto->pf (kx Xv))(g:TwG)(b:TwS):Nat->Nat->Rho->Sto->pf Fl
 |0,_,_,_=>gi
 |f+1,i,ρ,S=>(get S).bind λxs=>match xs[i]? with
  |none=>if i=xs.length then eV (.nx ρ S) else gi
  |some x=>sb (g x ρ S) λρ1 S1=>zdo (b ρ1 S1) λρ2 S2=>TW get g b f (i+1) ρ2 S2
def Zs(m:TwI)(g:TwG)(b:TwS):TwS:=λρ S=>sb (m ρ S) λget S1=>(get S1).bind λxs=>TW get g b (xs.length+1) 0 ρ S1
noncomputable def zbL(c:TwT)(b:TwS):Nat->Rho->Sto->pf Fl
 |0,_,_=>gi
 |n+1,ρ,S=>sb (c ρ S) λx S1=>if x then zdo (b ρ S1) λρ2 S2=>zbL c b n ρ2 S2 else eV (.nx ρ S1)
noncomputable def sWh(n:Nat)(c:TwT)(b:TwS):TwS:=λρ S=>zbL c b n ρ S
noncomputable def gN(i:Nat):TwG:=λx ρ S=>eV (.ok (ρ.set i (eV x)) S)
noncomputable def znu:zjp:=λxs ρ S=>match xs with
 |[]=>eV (.ok ρ S)
 |_=>gi
noncomputable def zf6(g:TwG)(gs:zjp):zjp:=λxs ρ S=>match xs with
 |x::r=>rb (g x ρ S) λρ1 S1=>gs r ρ1 S1
 |_=>gi
noncomputable def gT(n:Nat)(gs:zjp):TwG:=λx ρ S=>x.tupOf.bind λl=>if l.length=n then gs l ρ S else gi
noncomputable def zf7(o mi:TwE):TwG:=λd ρ S=>rb (o ρ S) λx S1=>rb (mi ρ S1) λy S2=>match zag S2 x,y with
 |some (n,xs),.int i=>(ixN xs.length i).map λk=> .ok ρ (S2.set n (.lst (xs.set k d)))
 |_,_=>gi
def we:RG K E (zeT i) (gN i):=λE0 hx e k=>by
 cases e;show k _ _ _ Ext.refl (E0.set hx)
def zpT:RGs K E zrC znu:=by
 intro F j σ H ρ S r xs vs R E0 hv e k;unfold znu at e;split at e;cases e;obtain rfl:=hv.nil_inv;show#[rfl,k _ _ _ Ext.refl E0];cases e
def znv(h1:RG K E t g)(h2:RGs K E u gs):RGs K E (zmw t u) (zf6 g gs):=by
 intro F j σ H ρ S r xs vs R E0 hv e k;unfold zf6 at e;split at e
 .obtain⟨w,ws,rfl,hw,rH⟩:=hv.cons_inv;rcases zI e with⟨ρ1,S1,e1,e⟩|⟨c,S1,e1,rfl⟩
  .show#[w,ws,rfl,h1 E0 hw e1 λσ1 j1 H1 X1 E1=>h2 E1 (rH.mono X1) e (k.step X1)]
  show#[w,ws,rfl,h1 E0 hw e1 k]
 cases e
set_option tactic.hygienic true in
def zsa(h:RGs K E t gs):RG K E (zpk K n t) (gT n gs):=by
 intro F j σ H ρ S r x v R E0 hx e k;unfold gT at e;cases ex:x.tupOf with
 |none=>rw[ex] at e;cases e
 |some l=>
  rw[ex] at e;dsimp only[C4] at e;split at e;rename_i hn;have#[a,vs,rfl,h1,h2]:=hx.tupO ex;show#[a,vs,rfl,h1,by rw[h2.len];show hn,h E0 h2 e k];cases e
set_option tactic.hygienic true in
def znw(ho:RE K E to o)(hi:RE K E ti mi):RG K E (ztj to ti zq4) (zf7 o mi):=by
 intro F j σ H ρ S r d vd R E0 hd e k;rcases zI e with⟨x,S1,e1,e⟩|⟨c,S1,e1,rfl⟩
 .show ho E0 e1 λj1 H1 X1 E1 u hu=> ?_;rcases zI e with⟨y,S2,e2,e⟩|⟨c,S2,e2,rfl⟩
  .show hi E1 e2 λj2 H2 X2 E2 w hw=> ?_;split at e
   .rename_i n xs i ex;cases e3:ixN xs.length i with
    |none=>rw[e3] at e;cases e
    |some m=>
     rw[e3] at e;cases e;have#[a,vs,rfl,hj,h1,h2]:=E2.wl (hu.mono X2) ex;have#[E3,X3]:=E2.wr ex hj (h2.set (hd.mono (X1.trans X2)) m);show#[a,vs,i,m,rfl,hw.int_inv,h1,by rw[h2.len];show e3,k _ _ _ (X1.trans (X2.trans X3)) E3]
   cases e
  show hi E1 e2 (PX.mono k X1)
 show ho E0 e1 k
def vJ:RS K E zqY zK:=λE0 e k=>by
 cases e;show k _ _ _ Ext.refl E0
def znx:RS K E t zf5:=λ_ e _=>by cases e
set_option tactic.hygienic true in
def xS(ha:RS K E t a)(hb:RS K E u b):RS K E (zrz t u) (zw a b):=by
 intro F j D' σ H ρ S fl E0 e k;unfold zw at e;split at e;rename_i ρ1 S1 e1;show ha (D':={D' with nx:=u D'}) E0 e1 λσ1 j1 H1 X1 E1=>hb E1 e (k.step X1)
 rename_i hn;show ha (D':={D' with nx:=u D'}) E0 e ?_;cases fl with
 |nx ρ1 S1=>show absurd e (hn ρ1 S1)
 |bk ρ1 S1=>show k
 |ct ρ1 S1=>show k
 |rt x S1=>show k
 |ex c S1=>show k
def We(h:RE K E te m)(hg:RG K E g g'):RS K E (zrE te g) (zH m g'):=by
 walk_at "!h"
 .show h E0 e1 λj1 H1 X1 E1 u hu=> ?_;rcases xZ e with⟨ρ1,S2,e2,e⟩|⟨c,S2,e2,rfl⟩
  .cases e;show hg E1 hu e2 λσ2 j2 H2 X2 E2=>k _ _ _ (X1.trans X2) E2
  show hg E1 hu e2 (PX.mono k X1)
 show h E0 e1 k
def zpU(h:RE K E te m):RS K E (zqZ te) (zcd m):=by
 walk_at "!h"
 .cases e;show h E0 e1 λj1 H1 X1 E1 u hu=>k _ _ _ X1 E1
 show h E0 e1 k
def xL(h:RE K E te m):RS K E (ztg te) (zR m):=by
 walk_at "!h"
 .cases e;show h E0 e1 λj1 H1 X1 E1 u hu=>k _ _ _ _ _ X1 E1 hu
 show h E0 e1 k
def VR(hc:RT K E c m)(ha:RS K E t a)(hb:RS K E u b):RS K E (zth c t u) (sIf m a b):=by
 walk_at "!h"
 .show hc E0 e1 λj1 H1 X1 E1=> ?_;cases x with
  |true=>show ha E1 e (k.step X1)
  |false=>show hb E1 e (k.step X1)
 show hc E0 e1 k
def zfc{go:Rho->Sto->pf Fl}(h:zdo r go=eV fl):∃f,r=eV f/\((∃ρ S,(f= .nx ρ S\/f= .ct ρ S)/\go ρ S=eV fl)\/(∃ρ S,f= .bk ρ S/\fl= .nx ρ S)\/(f=fl/\((∃x S,fl= .rt x S)\/∃c S,fl= .ex c S))):=by
 cases r with
 |none=>cases h
 |some f=>
  show#[f,rfl,?_];cases f with
  |nx ρ S=>show .inl #[_,_,.inl rfl,h]
  |ct ρ S=>show .inl #[_,_,.inr rfl,h]
  |bk ρ S=>cases h;show .inr (.inl #[_,_,rfl,rfl])
  |rt x S=>cases h;show .inr (.inr #[rfl,.inl #[_,_,rfl]])
  |ex c S=>cases h;show .inr (.inr #[rfl,.inr #[_,_,rfl]])
set_option tactic.hygienic true in
def zny{wi:TI}{g:TG}{tb:TS}{m:TwI}{g':TwG}{b:TwS}(hi:RI K E wi m)(hg:RG K E g g')(hb:RS K E tb b):RS K E (ztk wi g tb) (Zs m g' b):=by
 intro F j D' σ H ρ S fl E0 e k;rcases xZ e with⟨get,S1,e1,e⟩|⟨c,S1,e1,rfl⟩
 .show hi E0 e1 λj1 H1 X1 E1 J ok=> ?_;cases eg:get S1 with
  |none=>rw[eg] at e;cases e
  |some xs=>
   rw[eg] at e;show#[λi n σ H=>∃j2 ρ2 S2,Ext j1 H1 j2 H/\En K F j2 H σ ρ2 S2/\TW get g' b n i ρ2 S2=eV fl,#[xs.length+1,j1,ρ,S1,Ext.refl,E1,e],?_];intro i n σ2 H2 #[j2,ρ2,S2,X2,E2,e2];cases n with
   |zero=>cases e2
   |succ n=>
    unfold TW at e2;cases jT:get S2 with
    |none=>rw[jT] at e2;cases e2
    |some ys=>
     rw[jT] at e2;dsimp only[C4] at e2;have#[go,stop]:=ok i X2 E2 jT;split at e2;split at e2;rename_i hl;cases e2;show .inl #[stop hl,k _ _ _ (X1.trans X2) E2];cases e2
     rename_i x ex;have#[g1,g2]:=go x ex;show .inr #[g1,λσ' H'=>∃j3 ρ3 S3,Ext j1 H1 j3 H'/\En K F j3 H' σ' ρ3 S3/\TW get g' b n (i+1) ρ3 S3=eV fl,λ_ _ z=>#[n,AZ _,z],λv H3 hy=> ?_];have#[Sm,hv]:=g2 v H3 hy;have E3:=E2.heap Sm;have X3:Ext j2 H2 j2 H3:=Ext.same Sm;rcases xZ e2 with⟨ρ4,S4,e4,e2⟩|⟨c,S4,e4,rfl⟩
     .show hg E3 hv e4 λσ4 j4 H4 X4 E4=> ?_;have#[f5,e5,h5]:=zfc e2;show hb E4 e5 ?_;have X14:=X2.trans (X3.trans X4);rcases h5 with⟨ρ6,S6,h6,e6⟩|⟨ρ6,S6,rfl,rfl⟩|⟨rfl,h6⟩
      .rcases h6 with rfl|rfl
       .show λσ5 j5 H5 X5 E5=>#[j5,ρ6,S6,X14.trans X5,E5,e6]
       show λσ5 j5 H5 X5 E5=>#[j5,ρ6,S6,X14.trans X5,E5,e6]
      .show λσ5 j5 H5 X5 E5=>k _ _ _ (X1.trans (X14.trans X5)) E5
      rcases h6 with⟨x6,S6,rfl⟩|⟨c6,S6,rfl⟩
      .show λv σ5 ρ5 j5 H5 X5 E5 hv=>k v σ5 ρ5 _ _ (X1.trans (X14.trans X5)) E5 hv
      show PX.mono k (X1.trans X14)
     show hg E3 hv e4 (PX.mono k (X1.trans (X2.trans X3)))
 show hi E0 e1 k
def znz{c:TT}{tb:TS}{m:TwT}{b:TwS}{n:Nat}(hc:RT K E c m)(hb:RS K E tb b):RS K E (zmA c tb) (sWh n m b):=by
 intro F j D' σ H ρ S fl E0 e k;show#[λn σ2 H2=>∃j2 ρ2 S2,Ext j H j2 H2/\En K F j2 H2 σ2 ρ2 S2/\zbL m b n ρ2 S2=eV fl,#[n,j,ρ,S,Ext.refl,E0,e],?_];intro n σ2 H2 #[j2,ρ2,S2,X2,E2,e2];cases n with
 |zero=>cases e2
 |succ n=>
  unfold zbL at e2;rcases xZ e2 with⟨x,S3,e3,e2⟩|⟨c,S3,e3,rfl⟩
  .show hc E2 e3 λj3 H3 X3 E3=> ?_;have X13:=X2.trans X3;cases x with
   |false=>cases e2;show k _ _ _ X13 E3
   |true=>
    have#[f5,e5,h5]:=zfc e2;show#[λσ' H'=>∃j3 ρ3 S3,Ext j H j3 H'/\En K F j3 H' σ' ρ3 S3/\zbL m b n ρ3 S3=eV fl,λσ' H' z=>#[n,AZ _,z],hb E3 e5 ?_];rcases h5 with⟨ρ6,S6,h6,e6⟩|⟨ρ6,S6,rfl,rfl⟩|⟨rfl,h6⟩
    .rcases h6 with rfl|rfl
     .show λσ5 j5 H5 X5 E5=>#[j5,ρ6,S6,X13.trans X5,E5,e6]
     show λσ5 j5 H5 X5 E5=>#[j5,ρ6,S6,X13.trans X5,E5,e6]
    .show λσ5 j5 H5 X5 E5=>k _ _ _ (X13.trans X5) E5
    rcases h6 with⟨x6,S6,rfl⟩|⟨c6,S6,rfl⟩
    .show λv σ5 ρ5 j5 H5 X5 E5 hv=>k v σ5 ρ5 _ _ (X13.trans X5) E5 hv
    show PX.mono k X13
  show hc E2 e3 (PX.mono k X2)
noncomputable def iL(m:TwE):TwI:=λρ S=>rb (m ρ S) λx S1=>(yn S1 x).map λ_=> .ok (λS=>yn S x) S1
noncomputable def iT(m:TwE):TwI:=λρ S=>rb (m ρ S) λx S1=>x.tupOf.map λl=> .ok (λ_=>eV l) S1
def zf8(h:RE K E t m):RI K E (zmB K t) (iL m):=by
 walk_at "!c"
 .cases el:yn S1 x with
  |none=>rw[el] at e;cases e
  |some l=>
   rw[el] at e;cases e;show h En0 e1 λj1 H1 X1 E1 u hu=> ?_;have#[a,vs,rfl,h1,_]:=E1.lstAt hu el;show#[a,rfl,#[vs,h1.sql],k _ _ X1 E1 _ ?_];intro F2 j2 H2 σ2 ρ2 S2 xs i X2 E2 e2;have#[a',ws,ea,g1,g2]:=E2.lstAt (hu.mono X2) e2;cases ea;show#[λy ey=> ?_,λhle=>#[ws,g1.sql,by rw[g2.len];omega]];have#[w,f1,f2]:=g2.get ey;show#[#[ws,w,g1.sql,f1],?_];intro v' H' #[rfl,hx];have:=hx ws g1.sql;rw[f1] at this;cases this;show#[YS.refl _,f2]
 show h En0 e1 k
def znA(h:RE K E t m):RI K E (zrF K t) (iT m):=by
 walk_at "!c"
 .cases el:x.tupOf with
  |none=>rw[el] at e;cases e
  |some l=>
   rw[el] at e;cases e;show h En0 e1 λj1 H1 X1 E1 u hu=> ?_;have#[a,vs,rfl,h1,_]:=hu.tupO el;show#[a,rfl,#[vs,h1],k _ _ X1 E1 _ ?_];intro F2 j2 H2 σ2 ρ2 S2 xs i X2 E2 e2;cases e2;have#[a',ws,ea,g1,g2]:=(hu.mono X2).tupO el;cases ea;show#[λy ey=> ?_,λhle=>#[ws,g1,by rw[g2.len];omega]];have#[w,f1,f2]:=g2.get ey;show#[#[ws,w,g1,f1],?_];intro v' H' #[rfl,hx];have:=hx ws g1;rw[f1] at this;cases this;show#[YS.refl _,f2]
 show h En0 e1 k
noncomputable def wk(lo':Int)(n:Nat):kx Xv:=(Ac n).map λ(k:Nat)=>Xv.int (lo'+(k:Int))
def iR1(m:TwE):TwI:=λρ S=>rb (m ρ S) λx S1=>match x with
 | .int j=>if -(2^62)<=j/\j<2^62 then eV (.ok (λ_=>eV (wk 0 j.toNat)) S1) else gi
 |_=>gi
def znB:zf3 K j H (Itr lo' n) (λ_=>eV (wk lo' n)):=by
 intro F2 j2 H2 σ2 ρ2 S2 xs i X2 E2 e2;cases e2;show#[λd hd=> ?_,λhle=> ?_]
 .unfold wk at hd;rw[uY] at hd;have hi:i<n:=by
   apply Cj;intro hn;rw[z5 (by simp;omega)] at hd;cases hd
  rw[Dd hi] at hd;cases hd;show#[hi,?_];intro x H' #[rfl,rfl];show#[YS.refl _,.int _]
 unfold wk at hle;simp at hle;change n<=i;omega
set_option tactic.hygienic true in
def zbM(h:RE K E t m):RI K E (zq0 (zb8 t zlz)) (iR1 m):=by
 walk_at "!c"
 .split at e
  .split at e
   .rename_i hb;cases e;show h En0 e1 λj1 H1 X1 E1 u hu=>#[_,by rw[hu.int_inv],hb.1,hb.2,k _ _ X1 E1 _ znB]
   cases e
  cases e
 show h En0 e1 k
end
noncomputable def rn{α β:Type}(m:pf (Rs α))(f:α->Sto->pf β):pf β:=match m with
 |some (.ok a S)=>f a S
 |_=>gi
def zf9{α β:Type}{m:pf (Rs α)}{f:α->Sto->pf β}{r:β}(h:rn m f=eV r):∃a S,m=eV (.ok a S)/\f a S=eV r:=by
 unfold rn at h;split at h;show#[_,_,rfl,h];cases h
noncomputable def vw(cap:kx (pf Nat))(ρ:Rho):Rho:=cap.map λo=>o.bind λi=>(ρ[i]?).join
noncomputable def YV(get:Sto->pf (kx Xv))(g:TwG)(c:TwT)(e:TwE)(ρc:Rho):Nat->Nat->kx Xv->Sto->pf (Rs Xv)
 |0,_,_,_=>gi
 |f+1,i,es,S=>(get S).bind λxs=>match xs[i]? with
  |none=>if i=xs.length then eV (.ok (.ref S.length) (S++[.lst es])) else gi
  |some x=>rn (g x ρc S) λρ1 S1=>rn (c ρ1 S1) λb S2=>if b then rn (e ρ1 S2) λy S3=>if es.length<FU then YV get g c e ρc f (i+1) (es++[y]) S3 else gi
    else YV get g c e ρc f (i+1) es S2
noncomputable def xt(cap:kx (pf Nat))(m:TwI)(g:TwG)(c:TwT)(e:TwE):TwE:=λρ S=>rb (m ρ S) λget S1=>(get S1).bind λxs=>YV get g c e (vw cap ρ) (xs.length+1) 0 [] S1
noncomputable def xl:TwT:=λ_ S=>eV (.ok hG S)
section
variable{E:XK}{ρ ρ':Rho}{S S':Sto}
def Tp:RT K E (λ_ H Q=>Q hG H) xl:=λE1 e k=>by
 cases e;show k _ _ Ext.refl E1
def VS(j:kx p8)(S:Sto)(a:p8):Prop:=∀(n:Nat) c,j[n]? =eV a->S[n]? =eV c->c.fz=hG
def En.notIn(E1:En K F j H σ ρ S)(h:H a=gi):VS j S a:=λn c e1 e2=>by
 cases z:c.fz with
 |true=>rfl
 |false=>
  have#[o,e,_]:=(E1.cel n c a e2 e1).mu z;rw[h] at e;cases e
def En.outside(E1:En K F j H σ ρ S)(h:VS j S a)(h0:H a=eV o0)(m0:o0.mu=hG)(hf:F.H0 a=gi):En K F j (upd H a o) σ ρ S/\Ext j H j (upd H a o):=by
 have X:Ext j H j (upd H a o):=#[λ_ _ e=>e,λb u e m=>by
  have:b≠a:=λq=>by subst q;rw[h0] at e;cases e;rw[m] at m0;cases m0
  rw[zS this];show e]
 show#[#[E1.len,λi x e=> ?_,E1.jl,E1.inj,λn c b e1 e2=> ?_,E1.ext.trans X,E1.old,E1.l0,λb u e=> ?_,E1.fresh,λb e=> ?_],X];have#[v,e1,e2]:=E1.slot i x e;show#[v,e1,e2.mono X];show (E1.cel n c b e1 e2).mono X λz=>zS λq=> ?_;subst q;rw[h n c e2 e1] at z;cases z
 .have hb:b≠a:=λq=>by subst q;rw[hf] at e;cases e
  rcases E1.keep b u e with h|h;show .inl (by rw[zS hb];show h);show .inr h
 have hb:b≠a:=λq=>by subst q;rw[zW] at e;cases e
 rw[zS hb] at e;show E1.dom b e
def En.adopt(E1:En K F j H σ ρ S)(h:VS j S a)(hf:F.H0 a=gi)(hc:zdm K (j++[a]) H a c):En K F (j++[a]) H σ ρ (S++[c])/\Ext j H (j++[a]) H:=by
 have X:Ext j H (j++[a]) H:=#[λn b e=>by rw[v5 (uT.1 e).1];show e,vB.refl _];have lt:∀{n:Nat} {d:Ce},S[n]? =eV d->n<S.length:=λe=>(uT.1 e).1;have at_:∀{n:Nat} {b:p8} {d:Ce},(j++[a])[n]? =eV b->(S++[c])[n]? =eV d->(j[n]? =eV b/\S[n]? =eV d)\/(n=S.length/\b=a/\d=c):=λ{n b d} e1 e2=>by
  by_cases hn:n<S.length;rw[v5 hn] at e2;rw[v5 (by rw[E1.jl];show hn)] at e1;show .inl #[e1,e2]
  rw[w5 ⋯] at e2;rw[w5 (by rw[E1.jl];omega),E1.jl] at e1;cases hm:n-S.length with
  |zero=>rw[hm] at e1 e2;simp at e1 e2;show .inr #[⋯,e1.symm,e2.symm]
  |succ m=>rw[hm] at e1;simp at e1
 show#[#[E1.len,λi x e=> ?_,by simp[E1.jl],λn m b c1 c2 e1 e2 e3 e4 z1 z2=> ?_,λn d b e1 e2=> ?_,E1.ext.trans X,λn d e=> ?_,E1.l0,E1.keep,λn b hn e=> ?_,E1.dom],X];have#[v,e1,e2]:=E1.slot i x e;show#[v,e1,e2.mono X]
 .rcases at_ e1 e3 with⟨f1,f2⟩|⟨f1,f2,f3⟩
  .rcases at_ e2 e4 with⟨g1,g2⟩|⟨g1,g2,g3⟩
   .show E1.inj n m b c1 c2 f1 g1 f2 g2 z1 z2
   subst g2;rw[h n c1 f1 f2] at z1;cases z1
  rcases at_ e2 e4 with⟨g1,g2⟩|⟨g1,g2,g3⟩
  .subst f2;rw[h m c2 g1 g2] at z2;cases z2
  rw[f1,g1]
 .rcases at_ e2 e1 with⟨f1,f2⟩|⟨f1,rfl,rfl⟩
  .show (E1.cel n d b f2 f1).mono X λ_=>rfl
  show hc
 .obtain⟨d',e1,e2⟩:=E1.old n d e;show#[d',by rw[v5 (lt e1)];show e1,e2]
 by_cases hm:n<j.length;rw[v5 hm] at e;show E1.fresh n b hn e
 rw[w5 ⋯] at e;cases hk:n-j.length with
 |zero=>rw[hk] at e;simp at e;subst e;show hf
 |succ m=>rw[hk] at e;simp at e
def zlS(E1:En K F j H σ ρ S):(ZV cap σ).length=(vw cap ρ).length/\∀(i:Nat) x,(vw cap ρ)[i]? =eV (eV x)->∃v,(ZV cap σ)[i]? =eV (eV v)/\Xis K j H x v:=by
 show#[by simp[ZV,vw],λi x h=> ?_];unfold vw at h;unfold ZV;rw[uY] at h ⊢;cases e:cap[i]? with
 |none=>rw[e] at h;cases h
 |some o=>
  rw[e] at h;cases o with
  |none=>simp at h
  |some k=>
   simp only[Bd,z0,Ar] at h ⊢;cases q:ρ[k]? with
   |none=>rw[q] at h;simp at h
   |some z=>
    rw[q] at h;simp at h;subst h;have#[v,e1,e2]:=E1.slot k x q;show#[v,by rw[e1];rfl,e2]
set_option tactic.hygienic true in
def Tq(hi:RI K E wi m)(hg:RG K E0 g g')(hc:RT K E0 tt c)(he:RE K E0 te e):RE K E (zmW cap wi g tt te) (xt cap m g' c e):=by
 intro F j σ H ρ S r Q En0 h k;rcases zI h with⟨get,S1,e1,h⟩|⟨c1,S1,e1,rfl⟩
 .show hi En0 e1 λj1 H1 X1 E1 J ok acc cZ=> ?_;cases eg:get S1 with
  |none=>rw[eg] at h;cases h
  |some xs=>
   rw[eg] at h;have hf:F.H0 acc=gi:=E1.dom acc cZ;have#[Ea,Xa]:=E1.new (o:= .lst []) cZ
   show#[λi n ys H2=>∃j2 S2 es,Ext j1 H1 j2 H2/\En K F j2 H2 σ ρ S2/\H2 acc=eV (.lst ys)/\yr K j2 H2 es ys/\VS j2 S2 acc/\YV get g' c e (vw cap ρ) n i es S2=eV r,
    #[xs.length+1,j1,S1,[],Xa,Ea,zW,.nil,E1.notIn cZ,h],?_]
   intro i n ys H2 #[j2,S2,es,X2,E2,h2,mB,nin,e2];cases n with
   |zero=>cases e2
   |succ n=>
    unfold YV at e2;cases jT:get S2 with
    |none=>rw[jT] at e2;cases e2
    |some zs=>
     rw[jT] at e2;dsimp only[C4] at e2;have#[go,stop]:=ok i X2 E2 jT;split at e2;split at e2;rename_i hl;cases e2;have#[E3,X3]:=E2.adopt (c:= .lst es) nin hf #[ys,h2,mB.mono #[λn b e=>by rw[v5 (uT.1 e).1];show e,vB.refl _]];show .inl #[stop hl,k _ _ (X1.trans (X2.trans X3)) E3 _ (.ref (by rw[<-E2.jl];simp))];cases e2
     rename_i x ex;have#[g1,g2]:=go x ex;show .inr #[g1,λv H3 hy=> ?_];have#[Sm,hv]:=g2 v H3 hy;have E3:=E2.heap Sm;have X3:Ext j2 H2 j2 H3:=Ext.same Sm;have h3:H3 acc=eV (.lst ys):=Sm _ _ h2;have#[cl,cs]:=zlS (cap:=cap) E3;have I0:=E3.enter cl cs;have#[ρ4,S4,e4,e2]:=zf9 e2;have#[b,S5,e5,e2]:=zf9 e2;have behind:∀{j6:kx p8} {H6:Hp} {σ6:St} {ρ6:Rho} {S6:Sto},En K #[H3,j2,S2] j6 H6 σ6 ρ6 S6->En K F j6 H6 σ ρ S6/\Ext j2 H2 j6 H6/\H6 acc=eV (.lst ys)/\VS j6 S6 acc:=λ{j6 H6 σ6 ρ6 S6} X=>by
      have#[E6,X6]:=E3.leave X;show#[E6,X3.trans X6,?_,λn d q1 q2=> ?_]
      .rcases X.keep acc _ h3 with q|⟨n,d,q1,q2,q3⟩
       .show q
       rw[nin n d q1 q2] at q3;cases q3
      by_cases hn:n<j2.length
      .have p1:j2[n]? =eV j2[n]:=uV hn;have p2:=X6.pre n _ p1;rw[q1] at p2;cases p2;have eY:n<S2.length:=by rw[<-E2.jl];show hn
       have#[d',f1,_,f3]:=X.old n _ (uV eY);rw[q2] at f1;cases f1;have hz:=nin n _ p1 (uV eY);rw[f3 hz];show hz
      have q:=X.fresh n acc (by dsimp only;omega) q1;have q:H3 acc=gi:=q;rw[h3] at q;cases q
     show hg I0 hv e4 λσ4 j4 H4 X4 I4=>hc I4 e5 λj5 H5 X5 I5=> ?_;cases b with
     |true=>
      rw[GO rfl];rw[GO rfl] at e2;have#[y,S6,e6,e2]:=zf9 e2;split at e2;rename_i hsz;show he I5 e6 λj6 H6 X6 I6 w hw=> ?_;have#[E6,X26,h6,iM]:=behind I6;have#[E7,X7]:=E6.outside (o:= .lst (ys++[w])) iM h6 rfl hf;show#[h6,by rw[mB.len];show hsz,n,AZ _,j6,S6,es++[y],X2.trans (X26.trans X7),E7,zW,((mB.mono X26).append (.one hw)).mono X7,iM,e2];cases e2
     |false=>
      rw[GP (by simp)];rw[GP (by simp)] at e2;have#[E6,X26,h6,iM]:=behind I5;show#[n,AZ _,j5,S5,es,X2.trans X26,E6,h6,mB.mono X26,iM,e2]
 show hi En0 e1 k
def zdp(h:RE K E (zmW cap wi g tt te) m):RS K E (zhr i cap wi g tt te) (zH m (gN i)):=by
 intro F j D' σ H ρ S fl E1 e k;rcases xZ e with⟨x,S1,e1,e⟩|⟨c,S1,e1,rfl⟩
 .cases e;show h (Q:=λv H2=>D'.nx (σ.set i (eV v)) H2) E1 e1 λj1 H1 X1 E1 u hu=>k _ _ _ X1 (E1.set hu)
 show h (Q:=λv H2=>D'.nx (σ.set i (eV v)) H2) E1 e1 k
abbrev TwF:=kx Xv->Sto->pf (Rs Xv)
noncomputable def zL(n k:Nat)(b:TwS):TwF:=λxs S=>if xs.length=n then match b (xs.map eV++z4 k gi) S with
  |some (.rt x S')=>eV (.ok x S')
  |some (.nx _ S')=>eV (.ok .non S')
  |some (.ex c S')=>eV (.ex c S')
  |_=>gi
 else gi
def ztK(K:uU)(F:Fm)(Q:VK)(E:XK):Rs Xv->Prop
 | .ok x S'=>∀v j' H' σ ρ,En K F j' H' σ ρ S'->Xis K j' H' x v->Q v H'
 | .ex c S'=>∀j' H' σ ρ C,En K F j' H' σ ρ S'->y9 K FV c=eV (eV (.ref C))->E (.ref C) gi H'
def sTw(K:uU)(n:Nat)(tw:TwF):Sp:=λvs H Q E=>vs.length=n/\∃(j:kx p8) (S:Sto) (xs:kx Xv) (r:Rs Xv),En K #[H,j,S] j H (vs.map eV) (xs.map eV) S/\tw xs S=eV r/\ztK K #[H,j,S] Q E r
def zaR{N:kx Str}{Q:VK}(hN:N.length=n+k)(h:RS K E t b)(hs:sTw K n (zL n k b) vs H Q E):t {nx:=λ_ H'=>Q .non H',rt:=Q} (Yu N vs) H:=by
 have#[hn,j,S,xs,r,E1,e,ret]:=hs;have es:Yu N vs=vs.map eV++z4 k gi:=by
  unfold Yu;rw[hN,hn,Nat.add_sub_cancel_left]
 rw[es];change (if _ then _ else _)=_ at e;split at e
 .cases e1:b (xs.map eV++z4 k gi) S with
  |none=>rw[e1] at e;cases e
  |some f=>
   rw[e1] at e;cases f with
   |rt x S'=>cases e;show h E1.grow e1 λv σ ρ j' H' X E' hv=>ret _ _ _ _ _ E' hv
   |nx ρ' S'=>cases e;show h E1.grow e1 λσ j' H' X E'=>ret _ _ _ _ _ E' .non
   |ex c S'=>cases e;show h E1.grow e1 λj' H' σ' ρ' C X E' hC=>ret _ _ _ _ _ E' hC
   |_=>cases e
 cases e
def wV{P:Program}{mg:Str->pf ph}(hl:ps.length=n:=by rfl):YB P w K mg base CX k f fd ps (sTw K n λ_ _=>gi):=
 #[λvs H Q E h=>h.1.trans hl.symm,λA outer s H args us vs Q E hr he hb hv hs=>by
  have#[_,_,_,_,_,_,z,_]:=hs
  cases z]
noncomputable def zx(tw:TwF)(ms:kx TwE):TwE:=λρ S=>rb (evL ms ρ S) λxs S1=>tw xs S1
noncomputable def zdq(tw:TwF)(ms:kx TwE):TwE:=λρ S=>rb (evL ms ρ S) λxs S1=>match tw xs S1 with
 |some (.ok x S2)=>eV (.ok x S2)
 |_=>gi
def zdr(hv:yr K j H xs vs):(vs.map eV).length=(xs.map eV).length/\∀(i:Nat) x,(xs.map eV)[i]? =eV (eV x)->∃v,(vs.map eV)[i]? =eV (eV v)/\Xis K j H x v:=by
 show#[by simp[hv.len],λi x h=> ?_];rw[uY] at h ⊢;cases e:xs[i]? with
 |none=>rw[e] at h;cases h
 |some y=>
  rw[e] at h;simp at h;subst h;have#[v,e1,e2]:=hv.get e;show#[v,by rw[e1];rfl,e2]
def WK{Q:VK}(E1:En K F j H σ ρ S)(hv:yr K j H xs vs)(hn:vs.length=n)(et:tw xs S=eV r)(k:Po K F j H σ ρ E' (PoV K Q) r):sTw K n tw vs H Q E':=by
 have#[l,s]:=zdr hv;show#[hn,j,S,xs,r,E1.enter l s,et,?_];cases r with
 |ok x S'=>
  intro v j' H' σ' ρ' X hx;have#[E2,X2]:=E1.leave X;show k j' H' X2 E2 v hx
 |ex c S'=>
  intro j' H' σ' ρ' C X hC;have#[E2,X2]:=E1.leave X;show k j' H' σ ρ C X2 E2 hC
def xP(h:RL K E t (evL ms))(hn:ms.length=n:=by rfl):RE K E (zko (sTw K n tw) [] E t) (zx tw ms):=by
 walk_at "!d"
 .show h En0 e1 λj1 H1 X1 E1 vs hv=> ?_;rw[Bb];show WK E1 hv (by rw[hv.len,XE e1,hn]) e (k.step X1)
 show h En0 e1 k
set_option tactic.hygienic true in
def zds(h:RL K E t (evL ms))(hn:ms.length=n:=by rfl):RE K E (zko (sTw K n tw) [] E0 t) (zdq tw ms):=by
 walk_at "!d"
 .show h En0 e1 λj1 H1 X1 E1 vs hv=> ?_;rw[Bb];split at e;rename_i x S2 e2;cases e;show WK E1 hv (by rw[hv.len,XE e1,hn]) e2 (λj' H' X E2 v hw=>k _ _ (X1.trans X) E2 v hw);cases e
 show h En0 e1 k
end
end L2
variable{ρ:L2.Rho}{S:L2.Sto}{P:L2.Xv->L2.Sto->Prop}{N:L2.Rho->L2.Sto->Prop}{R:L2.Xv->L2.Sto->Prop}
namespace L2
open PySem.Builtin.Int (intBits)
noncomputable def xI(g:Int->Int->Xv):Op2:=λx y S=>match x,y with
 | .int a,.int b=>eV (g a b,S)
 |_,_=>gi
noncomputable def xIC(c:Int->Int->Bool)(g:Int->Int->Xv):Op2:=λx y S=>match x,y with
 | .int a,.int b=>if c a b then eV (g a b,S) else gi
 |_,_=>gi
def wL:Op2:=xI λi j=> .int (i+j)
def zjs:Op2:=xI λi j=> .int (i-j)
def zpV:Op2:=xIC (λi j=>decide ((-(2^64)<i/\i<2^64)\/(-(2^64)<j/\j<2^64))) λi j=> .int (i*j)
def ww:Op2:=xIC (λi j=>decide (intBits i+intBits j<=134217728)) λi j=> .int (i*j)
def Xz:Op2:=xIC (λ_ j=>decide (0<j)) λi j=> .int (i % j)
def zce:Op2:=xIC (λ_ j=>decide (0<j/\j<1073741824)) λi j=> .int (i / j)
def zbN:Op2:=xIC (λ_ j=>decide (j≠0/\intBits j<=9000)) λi j=> .int (i.fdiv j)
def znC:Op2:=xIC (λi j=>decide (0<=j/\j<=1000000/\i.natAbs<2^64)) λi j=> .int (i^j.toNat)
def dLt:Op2:=xI λi j=> .bl (decide (i<j))
def dGt:Op2:=xI λi j=> .bl (decide (j<i))
def dGe:Op2:=xI λi j=> .bl (decide (j<=i))
def YE:Op2:=xI λi j=> .bl (decide (i=j))
def zga:Op2:=xI λi j=> .bl (!decide (i=j))
noncomputable def zsb:Xv->Sto->pf (Xv×Sto):=λx S=>match x with
 | .int i=>eV (.int (-i),S)
 |_=>gi
section
variable{E:XK}{F:Fm}{j j':kx p8}{H':Hp}{σ':St}{ρ':Rho}{S':Sto}{x:Xv}{v:V}{ta tb:TE}{a b:TwE}
def znD{g:Int->Int->V}{g':Int->Int->Xv}(hg:∀i k j H,Xis K j H (g' i k) (g i k)):Xy K (rI0 g) (xI g'):=by
 walk_at "!g";unfold xI at h;split at h;cases h;show#[_,_,hx.int_inv,hy.int_inv,k _ _ _ Ext.refl E1 (hg _ _ _ _)];cases h
def zjt{C:Int->Int->Prop}{c:Int->Int->Bool}{g:Int->Int->V}{g':Int->Int->Xv}(hc:∀i j,c i j=hG->C i j)(hg:∀i k j H,Xis K j H (g' i k) (g i k)):Xy K (rI C g) (xIC c g'):=by
 walk_at "!g";unfold xIC at h;split at h;split at h;cases h;show#[_,_,hx.int_inv,hy.int_inv,hc _ _ (by assumption),k _ _ _ Ext.refl E1 (hg _ _ _ _)];cases h;cases h
def zdt{p:Int->Int->Bool}(ha:RE K E ta a)(hb:RE K E tb b):RE K E (zhj p ta tb) (eOp (xI λi j=> .bl (p i j)) a b):=
 yH (r:=rI0 λi j=> .bl (p i j)) (znD λi k _ _=> .bl _) ha hb
def znE:Xy K (rI0 λi j=> .int (i+j)) wL:=znD λ_ _ _ _=> .int _
def znF:Xy K (rI0 λi j=> .int (i-j)) zjs:=znD λ_ _ _ _=> .int _
def znG:Xy K (rI zmD λi j=> .int (i*j)) zpV:=zjt (λi j h=>by simpa [zmD] using h) λ_ _ _ _=> .int _
def zkG:Xy K (rI zq9 λi j=> .int (i*j)) ww:=zjt (λi j h=>#[intBits i,intBits j,v3 _,v3 _,by simpa using h]) λ_ _ _ _=> .int _
def zju:Xy K (rI (λ_ j=>0<j) λi j=> .int (i % j)) Xz:=zjt (λi j h=>by simpa using h) λ_ _ _ _=> .int _
def zkH:Xy K (rI zrJ λi j=> .int (i / j)) zce:=zjt (λi j h=>by simpa [zrJ] using h) λ_ _ _ _=> .int _
def zhK:Xy K (rI zmZ λi j=> .int (i.fdiv j)) zbN:=zjt (λi j h=>by simpa [zmZ] using h) λ_ _ _ _=> .int _
def znH:Xy K (rI zrK λi j=> .int (i^j.toNat)) znC:=zjt (λi j h=>by simpa [zrK] using h) λ_ _ _ _=> .int _
def ztL(ha:RE K E ta a)(hb:RE K E tb b):RE K E (tLt ta tb) (eOp dLt a b):=zdt ha hb
def ztM(ha:RE K E ta a)(hb:RE K E tb b):RE K E (tGt ta tb) (eOp dGt a b):=zdt ha hb
def ztN(ha:RE K E ta a)(hb:RE K E tb b):RE K E (tGe ta tb) (eOp dGe a b):=zdt ha hb
def znI(ha:RE K E ta a)(hb:RE K E tb b):RE K E (zta ta tb) (eOp YE a b):=zdt ha hb
def zsc(ha:RE K E ta a)(hb:RE K E tb b):RE K E (ztb ta tb) (eOp zga a b):=zdt ha hb
def znJ:ztB K (rU λi=> .int (-i)) zsb:=by
 intro F j σ H ρ S S' x z u Q E1 hx h k;unfold zsb at h;split at h;cases h;show#[_,hx.int_inv,k _ _ _ Ext.refl E1 (.int _)];cases h
noncomputable def zaS:Op2:=λx y S=>match x,y with
 | .str a,.str b=>if a.length+b.length<=FU then eV (.str (a++b),S) else gi
 |_,_=>gi
def zkI:Xy K (λx y H Q=>∃i j,x= .str i/\y= .str j/\i.length+j.length<=FU/\Q (.str (i++j)) H) zaS:=by
 walk_at "!g";unfold zaS at h;split at h;split at h;cases h;show#[_,_,hx.str_inv,hy.str_inv,by assumption,k _ _ _ Ext.refl E1 (.str _)];cases h;cases h
noncomputable def XH:Op2:=λx y S=>match x,y with
 | .tup a,.tup b=>if a.length+b.length<=FU then eV (.tup (a++b),S) else gi
 |_,_=>gi
set_option tactic.hygienic true in
def zaT:Xy K (zrb K) XH:=by
 walk_at "!g";unfold XH at h;split at h;split at h;rename_i hz;cases h;have#[p,xs,rfl,h1,h2]:=hx.tup_inv;have#[q,ys,rfl,g1,g2]:=hy.tup_inv;show#[p,q,xs,ys,rfl,rfl,SqT.of h1,SqT.of g1,by rw[h2.len,g2.len];show hz,λe=> ?_,λ_ e=> ?_,λ_ _ l hl=> ?_];subst e;obtain rfl:=CD.1 h2.len.symm;show k _ _ _ Ext.refl E1 hy;subst e;obtain rfl:=CD.1 g2.len.symm;show k _ _ _ Ext.refl E1 ?_;rw[Bb];show hx;have#[E2,X2]:=E1.new (o:= .tup (xs++ys)) hl;show k _ _ _ X2 E2 (.tup zW ((h2.append g2).mono X2));cases h;cases h
noncomputable def zhL:Op2:=λx y S=>match yn S x,yn S y with
 |some a,eV b=>if a.length+b.length<=FU then eV (.ref S.length,S++[.lst (a++b)]) else gi
 |_,_=>gi
set_option tactic.hygienic true in
def zkJ:Xy K (zrd K) zhL:=by
 walk_at "!g";unfold zhL at h;split at h;rename_i l1 l2 e1 e2;split at h;rename_i hz;cases h;have#[p,xs,rfl,h1,h2]:=E1.lstAt hx e1;have#[q,ys,rfl,g1,g2]:=E1.lstAt hy e2;show#[p,q,xs,ys,rfl,rfl,h1,g1,by rw[h2.len,g2.len];show hz,λl hl=> ?_];have#[E2,X2,h3]:=E1.lst (h2.append g2) hl;show k _ _ _ X2 E2 h3;cases h;cases h
noncomputable def znK(g:Int->Xv):Opn:=λxs S=>match xs with
 |[.int i]=>eV (g i,S)
 |_=>gi
def zpW{g:Int->V}{g':Int->Xv}(hg:∀i j H,Xis K j H (g' i) (g i)):zaQ K (λxs H Q=>∃i,xs=[V.int i]/\Q (g i) H) (znK g'):=by
 walk_at "!e";unfold znK at h;split at h;cases h;have#[x,rfl,hx]:=hv.d1;show#[_,by rw[hx.int_inv],k _ _ _ Ext.refl E1 (hg _ _ _)];cases h
noncomputable def zkK(g:Int->Int->Xv):Opn:=λxs S=>match xs with
 |[.int i,.int j]=>eV (g i j,S)
 |_=>gi
def zkL{g:Int->Int->V}{g':Int->Int->Xv}(hg:∀i k j H,Xis K j H (g' i k) (g i k)):zaQ K (λxs H Q=>∃i j,xs=[V.int i,V.int j]/\Q (g i j) H) (zkK g'):=by
 walk_at "!e";unfold zkK at h;split at h;cases h;have#[x,y,rfl,hx,hy]:=hv.d2;show#[_,_,by rw[hx.int_inv,hy.int_inv],k _ _ _ Ext.refl E1 (hg _ _ _ _)];cases h
def zlT:Opn:=znK λi=> .int (if i<0 then -i else i)
def zsd:Opn:=zkK λi j=> .int (if j<i then j else i)
def zlU:Opn:=zkK λi j=> .int (if j>i then j else i)
def znL:zaQ K (λxs H Q=>∃i,xs=[V.int i]/\Q (.int (if i<0 then -i else i)) H) zlT:=zpW λ_ _ _=> .int _
def znM:zaQ K (λxs H Q=>∃i j,xs=[V.int i,V.int j]/\Q (.int (if j<i then j else i)) H) zsd:=zkL λ_ _ _ _=> .int _
def znN:zaQ K (λxs H Q=>∃i j,xs=[V.int i,V.int j]/\Q (.int (if j>i then j else i)) H) zlU:=zkL λ_ _ _ _=> .int _
noncomputable def wM:Opn:=λxs S=>match xs with
 |[x]=>(Yw S x).map λl=>(.int l.length,S)
 |_=>gi
set_option tactic.hygienic true in
def zgb:zaQ K (λxs H Q=>∃p ys,xs=[V.ref p]/\(SqL K H p ys\/SqT K H p ys)/\Q (.int ys.length) H) wM:=by
 walk_at "!e";unfold wM at h;split at h
 .rename_i x;cases e:Yw S x with
  |none=>rw[e] at h;cases h
  |some l=>
   rw[e] at h;cases h;have#[w,rfl,hx]:=hv.d1;have#[a,ws,rfl,h1,h2]:=E1.seqAt hx e;show#[a,ws,rfl,?_,k _ _ _ Ext.refl E1 (by rw[h2.len];show .int _)];rcases h1 with h1|h1;show .inl h1.sql;show .inr h1
 cases h
noncomputable def zkM:Opn:=λxs S=>match xs with
 |[x]=>(Yw S x).map λl=>(.ref S.length,S++[.lst l])
 |_=>gi
set_option tactic.hygienic true in
def zkN:zaQ K (λxs H Q=>∃p ys,xs=[V.ref p]/\(SqL K H p ys\/SqT K H p ys)/\∀l,H l=gi->Q (.ref l) (upd H l (.lst ys))) zkM:=by
 walk_at "!e";unfold zkM at h;split at h
 .rename_i x;cases e:Yw S x with
  |none=>rw[e] at h;cases h
  |some l=>
   rw[e] at h;cases h;have#[w,rfl,hx]:=hv.d1;have#[a,ws,rfl,h1,h2]:=E1.seqAt hx e;show#[a,ws,rfl,?_,λp hp=> ?_];rcases h1 with h1|h1;show .inl h1.sql;show .inr h1;have#[E2,X2,h3]:=E1.lst h2 hp;show k _ _ _ X2 E2 h3
 cases h
noncomputable def YW:Opn:=λxs S=>match xs with
 |[.tup l]=>eV (.tup l,S)
 |[x]=>(yn S x).map λl=>(.tup l,S)
 |_=>gi
set_option tactic.hygienic true in
def zhM:zaQ K (λxs H Q=>∃p ys,xs=[V.ref p]/\((SqL K H p ys/\∀l,H l=gi->Q (.ref l) (upd H l (.tup ys)))\/(SqT K H p ys/\Q (.ref p) H))) YW:=by
 walk_at "!e";unfold YW at h;split at h;cases h;have#[w,rfl,hx]:=hv.d1;have#[a,ws,rfl,h1,h2]:=hx.tup_inv;show#[a,ws,rfl,.inr #[SqT.of h1,k _ _ _ Ext.refl E1 hx]]
 .rename_i x _;cases e:yn S x with
  |none=>rw[e] at h;cases h
  |some l=>
   rw[e] at h;cases h;have#[w,rfl,hx]:=hv.d1;have#[a,ws,rfl,h1,h2]:=E1.lstAt hx e;show#[a,ws,rfl,.inl #[h1.sql,λp hp=> ?_]];have#[E2,X2]:=E1.new (o:= .tup ws) hp;show k _ _ _ X2 E2 (.tup zW (h2.mono X2))
 cases h
noncomputable def Yx:kx Xv->pf (kx Int)
 |[]=>eV []
 | .int i::r=>(Yx r).map (i:: ·)
 |_::_=>gi
theorem zaU:∀{xs:kx Xv} {ns:kx Int} {vs:kx V},Yx xs=eV ns->yr K j H xs vs->vs=ns.map V.int
 |[],ns,vs,e,h=>by cases e;show h.nil_inv
 |x::r,ns,vs,e,h=>by
  have#[v,ws,rfl,h1,h2]:=h.cons_inv;cases x<;>simp only[Yx,reduceCtorEq] at e
  cases e2:Yx r with
  |none=>rw[e2] at e;cases e
  |some ms=>
   rw[e2] at e;cases e;rw[h1.int_inv,zaU e2 h2];rfl
def zfd(ns:kx Int):Yx (ns.map Xv.int)=eV ns:=by
 induction ns with
 |nil=>rfl
 |cons n r ih=>simp[Yx,ih]
noncomputable def Zu:kx Xv->pf (kx Bool)
 |[]=>eV []
 | .bl i::r=>(Zu r).map (i:: ·)
 |_::_=>gi
theorem zdu:∀{xs:kx Xv} {ns:kx Bool} {vs:kx V},Zu xs=eV ns->yr K j H xs vs->vs=ns.map V.bl
 |[],ns,vs,e,h=>by cases e;show h.nil_inv
 |x::r,ns,vs,e,h=>by
  have#[v,ws,rfl,h1,h2]:=h.cons_inv;cases x<;>simp only[Zu,reduceCtorEq] at e
  cases e2:Zu r with
  |none=>rw[e2] at e;cases e
  |some ms=>
   rw[e2] at e;cases e;rw[h1.bl_inv,zdu e2 h2];rfl
noncomputable def zgc:Opn:=λxs S=>match xs with
 |[x]=>((yn S x).bind Yx).map λns=>(.int ns.sum,S)
 |_=>gi
set_option tactic.hygienic true in
def znO:zaQ K (ztx K) zgc:=by
 walk_at "!e";unfold zgc at h;split at h
 .rename_i x;cases e:yn S x with
  |none=>rw[e] at h;cases h
  |some l=>
   rw[e] at h;cases e2:Yx l with
   |none=>simp[e2] at h
   |some ns=>
    simp[e2] at h;have#[rfl,rfl]:=h;have#[w,rfl,hx]:=hv.d1;have#[p,ws,rfl,h1,h2]:=E1.lstAt hx e;show#[p,ns,rfl,?_,k _ _ _ Ext.refl E1 (.int _)];rw[<-zaU e2 h2];show h1.sql
 cases h
noncomputable def zfe:Opn:=λxs S=>match xs with
 |[x]=>(x.tupOf.bind Yx).map λns=>(.int ns.sum,S)
 |_=>gi
set_option tactic.hygienic true in
def zkO:zaQ K (zrc K) zfe:=by
 walk_at "!e";unfold zfe at h;split at h
 .rename_i x;cases e:x.tupOf with
  |none=>rw[e] at h;cases h
  |some l=>
   rw[e] at h;cases e2:Yx l with
   |none=>simp[e2] at h
   |some ns=>
    simp[e2] at h;have#[rfl,rfl]:=h;have#[w,rfl,hx]:=hv.d1;have#[p,ws,rfl,h1,h2]:=hx.tupO e;show#[p,ns,rfl,?_,k _ _ _ Ext.refl E1 (.int _)];rw[<-zaU e2 h2];show h1
 cases h
noncomputable def zhN:Opn:=λxs S=>match xs with
 |[x]=>((yn S x).bind Zu).map λns=>(.bl (ns.any id),S)
 |_=>gi
noncomputable def zhO:Opn:=λxs S=>match xs with
 |[x]=>((yn S x).bind Zu).map λns=>(.bl (ns.all id),S)
 |_=>gi
set_option tactic.hygienic true in
def zjv:zaQ K (ztz K) zhN:=by
 walk_at "!e";unfold zhN at h;split at h
 .rename_i x;cases e:yn S x with
  |none=>rw[e] at h;cases h
  |some l=>
   rw[e] at h;cases e2:Zu l with
   |none=>simp[e2] at h
   |some ns=>
    simp only[z0,e2,Bd,Ar,Ey] at h;have#[rfl,rfl]:=h;have#[w,rfl,hx]:=hv.d1;have#[p,ws,rfl,h1,h2]:=E1.lstAt hx e;show#[p,ns,rfl,?_,k _ _ _ Ext.refl E1 (.bl _)];rw[<-zdu e2 h2];show h1.sql
 cases h
set_option tactic.hygienic true in
def znP:zaQ K (ztA K) zhO:=by
 walk_at "!e";unfold zhO at h;split at h
 .rename_i x;cases e:yn S x with
  |none=>rw[e] at h;cases h
  |some l=>
   rw[e] at h;cases e2:Zu l with
   |none=>simp[e2] at h
   |some ns=>
    simp only[z0,e2,Bd,Ar,Ey] at h;have#[rfl,rfl]:=h;have#[w,rfl,hx]:=hv.d1;have#[p,ws,rfl,h1,h2]:=E1.lstAt hx e;show#[p,ns,rfl,?_,k _ _ _ Ext.refl E1 (.bl _)];rw[<-zdu e2 h2];show h1.sql
 cases h
set_option backward.eqns.nonrecursive false in
noncomputable def yD(neg:Bool):Op2:=λx y S=>match x,y with
 | .int a,.int b=>eV (.bl (neg !=decide (a=b)),S)
 | .str a,.str b=>eV (.bl (neg !=decide (a=b)),S)
 | .bl a,.bl b=>eV (.bl (neg !=decide (a=b)),S)
 | .non,.non=>eV (.bl (neg !=hG),S)
 | .int _,.str _=>eV (.bl (neg !=mK),S)
 | .str _,.int _=>eV (.bl (neg !=mK),S)
 |_,_=>gi
def Wf:Xy K rEq (yD mK):=by
 walk_at "!g";cases hx<;>cases hy<;>simp only[yD,reduceCtorEq,Ar,Ey,Ei] at h<;>have#[rfl,rfl]:=h<;>show#[rfl,k _ _ _ Ext.refl E1 ?_]<;>simp<;>show .bl _
noncomputable def wx:Xv->Bool
 | .non=>hG
 | .bl _=>hG
 | .int _=>hG
 | .str _=>hG
 |_=>mK
noncomputable def zep:Xv->Xv->Bool
 | .non,.non=>hG
 | .bl a,.bl b=>a==b
 | .bl a,.int b=>(if a then 1 else 0)==b
 | .int a,.bl b=>a==(if b then 1 else 0)
 | .int a,.int b=>a==b
 | .str a,.str b=>a==b
 |_,_=>mK
noncomputable def dIn(neg:Bool):Op2:=λx y S=>(Yw S y).bind λl=>if wx x&&l.all wx then eV (.bl (neg !=l.any λz=>zep z x),S) else gi
def zdv(h:Xis K j H x v):XD v=wx x:=by cases h<;>rfl
def zjw(h:Xis K j H x v)(g:Xis K j H y w)(fx:wx x=hG)(fy:wx y=hG):eqV v w=zep x y:=by cases h<;>cases g<;>first|rfl|cases fx|cases fy
def zkP(h:yr K j H xs vs):vs.all XD=xs.all wx:=
 h.ind (m:=λxs vs=>vs.all XD=xs.all wx) rfl λh _ ih=>by rw[CQ,CQ,zdv h,ih]
def zpX(hx:Xis K j H x v)(fx:wx x=hG)(h:yr K j H xs vs):xs.all wx=hG->inV v vs=xs.any λz=>zep z x:=
 h.ind (m:=λxs vs=>xs.all wx=hG->inV v vs=xs.any λz=>zep z x) (λ_=>rfl) λh _ ih f=>by
  rw[CQ,Aj] at f;have:=ih f.2;unfold inV at this ⊢;rw[Bp,Bp,zjw h hx f.1 fx,this]
set_option tactic.hygienic true in
def znQ:Xy K (rIn K neg) (dIn neg):=by
 walk_at "!g";unfold dIn at h;cases e:Yw S y with
 |none=>rw[e] at h;cases h
 |some l=>
  rw[e] at h;dsimp only[C4] at h;split at h
  .rename_i hf;have hf:=Er.1 hf;cases h;have#[p,ws,rfl,h1,h2]:=E1.seqAt hy e;show#[p,ws,rfl,?_,by rw[zdv hx];show hf.1,by rw[zkP h2];show hf.2,k _ _ _ Ext.refl E1 ?_];rcases h1 with h1|h1;show .inl h1.sql;show .inr h1
   rw[zpX hx hf.1 h2 hf.2];cases neg<;>simp<;>show .bl _
  cases h
noncomputable def D.many:D->Bool
 | .tup _=>hG
 | .lst _=>hG
 |_=>mK
noncomputable def znR(c:String)(S:Sto):Xv->pf Bool
 | .non=>eV mK
 | .int _=>eV (c=="int")
 | .bl _=>eV (c=="bool"||c=="int")
 | .str _=>eV (c=="str")
 | .tup _=>eV (c=="tuple")
 | .ct _=>eV (c=="tuple")
 | .ref n=>(yn S (.ref n)).map λ_=>c=="list"
 | .lam _ _=>gi
structure zdw(c:String):Prop where
 non:∀K,Aq K (.type "NoneType") (.type c)=eV mK
 bl:∀K,Aq K (.type "bool") (.type c)=eV (c=="bool"||c=="int")
 int:∀K,Aq K (.type "int") (.type c)=eV (c=="int")
 str:∀K,Aq K (.type "str") (.type c)=eV (c=="str")
 tup:∀K,Aq K (.type "tuple") (.type c)=eV (c=="tuple")
 lst:∀K,Aq K (.type "list") (.type c)=eV (c=="list")
def YX(a b:String)(K:uU)(h1:(Value.type a==Value.type b)=mK)(h:(fastBuiltinMro a).map (·.contains (.type b))=eV mK)(hm:BH b=hG):Aq K (.type a) (.type b)=eV mK:=zr0 h1 h hm rfl
def zkQ:zdw "int":=#[λK=>YX _ _ K ∅ (*...*) (*...*),λK=>zfX,λK=>Uk,λK=>YX _ _ K ∅ (*...*) (*...*),λK=>YX _ _ K ∅ (*...*) (*...*),λK=>YX _ _ K ∅ (*...*) (*...*)]
def zhP:zdw "bool":=#[λK=>YX _ _ K ∅ (*...*) (*...*),λK=>Uk,λK=>zfY,λK=>YX _ _ K ∅ (*...*) (*...*),λK=>YX _ _ K ∅ (*...*) (*...*),λK=>YX _ _ K ∅ (*...*) (*...*)]
def zkR:zdw "str":=#[λK=>YX _ _ K ∅ (*...*) (*...*),λK=>YX _ _ K ∅ (*...*) (*...*),λK=>YX _ _ K ∅ (*...*) (*...*),λK=>Uk,λK=>YX _ _ K ∅ (*...*) (*...*),λK=>YX _ _ K ∅ (*...*) (*...*)]
def zff:zdw "tuple":=#[λK=>YX _ _ K ∅ (*...*) (*...*),λK=>YX _ _ K ∅ (*...*) (*...*),λK=>YX _ _ K ∅ (*...*) (*...*),λK=>YX _ _ K ∅ (*...*) (*...*),λK=>Uk,λK=>YX _ _ K ∅ (*...*) (*...*)]
def zhQ:zdw "list":=#[λK=>YX _ _ K ∅ (*...*) (*...*),λK=>YX _ _ K ∅ (*...*) (*...*),λK=>YX _ _ K ∅ (*...*) (*...*),λK=>YX _ _ K ∅ (*...*) (*...*),λK=>YX _ _ K ∅ (*...*) (*...*),λK=>Uk]
noncomputable def Vg(c:String):Xv->Sto->pf (Xv×Sto):=λx S=>(znR c S x).map λb=>(.bl b,S)
def zpY{c:String}(ok:zdw c)(E1:En K F j H σ ρ S){b:Bool}{Q:VK}(h:Xis K j H x v)(e:znR c S x=eV b)(k:Q (.bl b) H):zpD K [v,.ty c] H Q:=by
 cases h with
 |non=>cases e;show#[_,_,_,_,_,rfl,rfl,.of .non,ok.non K,k]
 |bl b=>cases e;show#[_,_,_,_,_,rfl,rfl,.of (.bl b),ok.bl K,k]
 |int i=>cases e;show#[_,_,_,_,_,rfl,rfl,.of (.int i),ok.int K,k]
 |str z=>cases e;show#[_,_,_,_,_,rfl,rfl,.of (.str z),ok.str K,k]
 |tup h l=>cases e;show#[_,_,_,_,_,rfl,rfl,.sqt (SqT.of h),ok.tup K,k]
 |ct h l=>cases e;show#[_,_,_,_,_,rfl,rfl,.sqt (h H),ok.tup K,k]
 |lam h l=>cases e
 | @ref n a h=>
  simp only[znR] at e;cases e1:yn S (.ref n) with
  |none=>rw[e1] at e;cases e
  |some l=>
   rw[e1] at e;cases e;have#[a',vs,ea,g1,g2]:=E1.lstAt (.ref h) e1;cases ea;show#[_,_,_,_,_,rfl,rfl,.sql g1.sql,ok.lst K,k]
def zse(ok:zdw c)(h:RE K E t m):RE K E (tCB (zpD K) (zb8 t (zb8 (tC (.ty c)) zlz))) (eUn (Vg c) m):=by
 walk_at "!a"
 .obtain⟨z,S3,e3,rfl⟩:=YU e;unfold Vg at e3;cases e4:znR c S1 x with
  |none=>rw[e4] at e3;cases e3
  |some b=>
   rw[e4] at e3;cases e3;show h En0 e1 λj1 H1 X1 E1 u hu=>zpY ok E1 hu e4 (k _ _ X1 E1 _ (.bl _))
 show h En0 e1 k
noncomputable def Uo:Xv->Sto->pf (Xv×Sto):=λx S=>(yn S x).map λl=>(.ref S.length,S++[.lst l.reverse])
def zjx(h:RE K E t m):RE K E (zhE K t) (eUn Uo m):=by
 walk_at "!a"
 .obtain⟨z,S3,e3,rfl⟩:=YU e;unfold Uo at e3;cases e4:yn S1 x with
  |none=>rw[e4] at e3;cases e3
  |some l=>
   rw[e4] at e3;cases e3;show h En0 e1 λj1 H1 X1 E1 u hu=> ?_;have#[p,ys,rfl,h1,h2]:=E1.lstAt hu e4;show#[p,ys,rfl,h1,λl hl=> ?_];have#[E2,X2,h3]:=E1.lst h2.reverse hl;show k _ _ (X1.trans X2) E2 _ h3
 show h En0 e1 k
end
end L2
namespace L2
noncomputable def zai:Xv->pf Key
 | .int i=>eV (.inl i)
 | .str z=>eV (.inr z)
 |_=>gi
noncomputable def zaV(S:Sto):Xv->pf (Nat×kx (Key×Xv))
 | .ref n=>match S[n]? with
  |some (.dk af)=>eV (n,af)
  |_=>gi
 |_=>gi
noncomputable def zlV(S:Sto):Xv->pf (Nat×kx (Key×Xv))
 | .ref n=>match S[n]? with
  |some (.dk af)=>eV (n,af)
  |some (.fdk af)=>eV (n,af)
  |_=>gi
 |_=>gi
noncomputable def ve{κ:Type}[DecidableEq κ](af:kx (κ×Xv))(k:κ):pf Xv:=(af.find? λkv=>decide (kv.1=k)).map (·.2)
noncomputable def zdx{κ:Type}[DecidableEq κ](af:kx (κ×Xv))(k:κ)(x:Xv):kx (κ×Xv):=
 if (af.any λkv=>decide (kv.1=k))=hG then af.map (λkv=>if kv.1=k then (kv.1,x) else kv) else af++[(k,x)]
section
variable{E:XK}{F:Fm}{j:kx p8}{x:Xv}{v:V}{κ:Type}
def zaW(h:Xis K j H x v)(e:zai x=eV k):v=kV k:=by
 cases h<;>simp only[zai,Ar,reduceCtorEq] at e<;>subst e<;>rfl
def zbO(h:zaV S x=eV (n,af)):x= .ref n/\S[n]? =eV (.dk af):=by
 cases x<;>simp only[zaV,reduceCtorEq] at h
 split at h;cases h;show#[rfl,by assumption];cases h
def En.dk(E1:En K F j H σ ρ S)(hx:Xis K j H x v)(h:zaV S x=eV (n,af)):∃a ks,v= .ref a/\j[n]? =eV a/\H a=eV (.dK ks)/\KX K j H af ks:=by
 have#[rfl,hs]:=zbO h;have#[a,rfl,hj]:=hx.ref_inv;have#[ks,e1,e2]:=E1.cel _ _ _ hs hj;show#[a,ks,rfl,hj,e1,e2]
def zpZ(h:zaV S x=eV p):zlV S x=eV p:=by
 have#[n,af]:=p;have#[rfl,e]:=zbO h;unfold zlV;dsimp only;rw[e]
set_option tactic.hygienic true in
def En.dr(E1:En K F j H σ ρ S)(hx:Xis K j H x v)(h:zlV S x=eV (n,af)):∃a ks,v= .ref a/\j[n]? =eV a/\Rd H a (.dK ks)/\KX K j H af ks:=by
 cases x<;>simp only[zlV,reduceCtorEq] at h
 have#[a,rfl,hj]:=hx.ref_inv;split at h;rename_i hs;cases h;have#[ks,e1,e2]:=E1.cel _ _ _ hs hj;show#[a,ks,rfl,hj,.inl e1,e2];rename_i hs;cases h;have#[o,ks,e1,e2]:=E1.cel _ _ _ hs hj;show#[a,ks,rfl,hj,.inr #[o,e1],e2];cases h
def zbE.r{a:p8}{af:kx (Key×V)}{k:Key}(e:Rd H a (.dK af)):zbE H a (kV k) (VY af k):= .inl #[af,k,e,rfl,rfl]
def KX.len{af:kx (κ×Xv)}{ks:kx (κ×V)}(h:KX K j H af ks):ks.length=af.length:=by
 induction h with
 |nil=>show rfl
 |cons h _ ih=>show congrArg (· +1) ih
def KX.val[DecidableEq κ]{k:κ}{af:kx (κ×Xv)}{ks:kx (κ×V)}(h:KX K j H af ks):(∀y,ve af k=eV y->∃w,VY ks k=eV w/\Xis K j H y w)/\(ve af k=gi->VY ks k=gi):=by
 induction h with
 |nil=>show#[λ_ e=>by simp[ve] at e,λ_=>rfl]
 | @cons k1 y1 w1 r rs h l ih=>
  have#[i1,i2]:=ih;by_cases e:k1=k;subst e;show#[λy ey=> ?_,λey=> ?_];simp[ve] at ey;subst ey;show#[w1,by simp[VY],h];simp[ve] at ey
  have e1:ve ((k1,y1)::r) k=ve r k:=by simp[ve,A5,e]
  have e2:VY ((k1,w1)::rs) k=VY rs k:=by simp[VY,A5,e]
  rw[e1,e2];show#[i1,i2]
def KX.append{af r:kx (κ×Xv)}{ks rs:kx (κ×V)}(h:KX K j H af ks)(g:KX K j H r rs):KX K j H (af++r) (ks++rs):=by
 induction h with
 |nil=>show g
 |cons h _ ih=>show .cons h ih
def KX.any{f:κ->Bool}(h:KX K j H af ks):(ks.any λp=>f p.1)=af.any λp=>f p.1:=by
 induction h with
 |nil=>rfl
 |cons h _ ih=>rw[Bp,Bp,ih]
set_option tactic.hygienic true in
def KX.put[DecidableEq κ]{k:κ}(hx:Xis K j H x v){af:kx (κ×Xv)}{ks:kx (κ×V)}(h:KX K j H af ks):KX K j H (zdx af k x) (zbD ks k v):=by
 unfold zdx zbD;rw[h.any (f:=λa=>decide (a=k))];split
 .rename_i hc;clear hc
  induction h with
  |nil=>show .nil
  | @cons k1 y w r rs h l ih=>
   rw[y8,y8];by_cases e:k1=k;rw[GO e,GO e];show .cons hx ih;rw[GP e,GP e];show .cons h ih
 show h.append (.cons hx .nil)
def En.wdk(E1:En K F j H σ ρ S)(h:zaV S x=eV (n,af))(hj:j[n]? =eV a)(hw:KX K j H kvs' ws):En K F j (upd H a (.dK ws)) σ ρ (S.set n (.dk kvs'))/\Ext j H j (upd H a (.dK ws)):=
 E1.write (zbO h).2 rfl hj rfl λX=>#[ws,zW,hw.mono X]
noncomputable def Vh:TwE:=λ_ S=>eV (.ok (.ref S.length) (S++[.dk []]))
def zgd:RE K E zmR Vh:=by
 intro F j σ H ρ S r Q En0 e k p hp;cases e;have X:Ext j H (j++[p]) (upd H p (.dK [])):=#[λn a e=>by rw[v5 (uT.1 e).1];show e,vB.same (wI hp)];have#[E1,_]:=En0.cell (o:= .dK []) (c:= .dk []) hp #[[],zW,.nil];show k _ _ X E1 _ (.ref (by rw[<-En0.jl];simp))
def zkS(d k:TwE):TwE:=λρ S=>rb (d ρ S) λx S1=>rb (k ρ S1) λy S2=>match zlV S2 x,zai y with
 |some (_,af),eV key=>(ve af key).map λz=> .ok z S2
 |_,_=>gi
set_option tactic.hygienic true in
def zp0(hd:RE K E td d)(hk:RE K E ty k):RE K E (zq7 td ty) (zkS d k):=by
 intro F j σ H ρ S r Q En0 e kk;rcases zI e with⟨x,S1,e1,e⟩|⟨c,S1,e1,rfl⟩
 .show hd En0 e1 λj1 H1 X1 E1 u hu=> ?_;rcases zI e with⟨y,S2,e2,e⟩|⟨c,S2,e2,rfl⟩
  .show hk E1 e2 λj2 H2 X2 E2 w hw=> ?_;split at e
   .rename_i n af key ed ek;cases ev:ve af key with
    |none=>rw[ev] at e;cases e
    |some z=>
     rw[ev] at e;cases e;have#[a,ks,rfl,hj,f1,f2]:=E2.dr (hu.mono X2) ed;have#[z',g1,g2]:=f2.val.1 _ ev;show#[a,z',rfl,?_,kk _ _ (X1.trans X2) E2 _ g2];rw[zaW hw ek,<-g1];show zbE.r f1
   cases e
  show hk E1 e2 (PX.mono kk X1)
 show hd En0 e1 kk
def zsf(neg:Bool)(k d:TwE):TwE:=λρ S=>rb (k ρ S) λy S1=>rb (d ρ S1) λx S2=>match zaV S2 x,zai y with
 |some (_,af),eV key=>eV (.ok (.bl (neg !=(ve af key).isSome)) S2)
 |_,_=>gi
def Tr(f1:H a=eV (.dK ks))(f2:KX K j H af ks):∃o,zbE H a (kV key) o/\o.isSome=(ve af key).isSome/\∀z zd,Xis K j H z zd->Xis K j H ((ve af key).getD z) (o.getD zd):=by
 show#[_,zbE.k f1,?_,λz zd hz=> ?_]
 .cases ev:ve af key with
  |none=>rw[f2.val.2 ev];rfl
  |some y=>have#[w,g1,_]:=f2.val.1 _ ev;rw[g1];rfl
 cases ev:ve af key with
 |none=>rw[f2.val.2 ev];show hz
 |some y=>have#[w,g1,g2]:=f2.val.1 _ ev;rw[g1];show g2
set_option tactic.hygienic true in
def zlW(hk:RE K E ty k)(hd:RE K E td d):RE K E (zkB ty td) (zsf hG k d):=by
 intro F j σ H ρ S r Q En0 e kk;rcases zI e with⟨y,S1,e1,e⟩|⟨c,S1,e1,rfl⟩
 .show hk En0 e1 λj1 H1 X1 E1 u hu=> ?_;rcases zI e with⟨x,S2,e2,e⟩|⟨c,S2,e2,rfl⟩
  .show hd E1 e2 λj2 H2 X2 E2 w hw=> ?_;split at e;rename_i n af key ed ek;cases e;have#[a,ks,rfl,hj,f1,f2]:=E2.dk hw ed;have#[o,g1,g2,_]:=Tr (key:=key) f1 f2;show#[a,o,rfl,by rw[zaW (hu.mono X2) ek];show g1,kk _ _ (X1.trans X2) E2 _ ?_];rw[g2,Bool.true_bne];show .bl _;cases e
  show hd E1 e2 (PX.mono kk X1)
 show hk En0 e1 kk
def zjy(d k v:TwE):TwS:=λρ S=>sb (v ρ S) λz S1=>sb (d ρ S1) λx S2=>sb (k ρ S2) λy S3=>match zaV S3 x,zai y with
 |some (n,af),eV key=>if af.length<FU then eV (.nx ρ (S3.set n (.dk (zdx af key z)))) else gi
 |_,_=>gi
set_option tactic.hygienic true in
def zp1{td ty tv:TE}{d k v:TwE}(hd:RE K E td d)(hk:RE K E ty k)(hv:RE K E tv v):RS K E (zq8 td ty tv) (zjy d k v):=by
 intro F j D' σ H ρ S fl E0 e kk;rcases xZ e with⟨z,S1,e1,e⟩|⟨c,S1,e1,rfl⟩
 .show hv E0 e1 λj1 H1 X1 E1 wz nE=> ?_;rcases xZ e with⟨x,S2,e2,e⟩|⟨c,S2,e2,rfl⟩
  .show hd E1 e2 λj2 H2 X2 E2 u hu=> ?_;rcases xZ e with⟨y,S3,e3,e⟩|⟨c,S3,e3,rfl⟩
   .show hk E2 e3 λj3 H3 X3 E3 w hw=> ?_;split at e;rename_i n af key ed ek;split at e;rename_i hl;cases e;have#[a,ks,rfl,hj,f1,f2]:=E3.dk (hu.mono X3) ed;have#[E4,X4]:=E3.wdk ed hj (f2.put (k:=key) (nE.mono (X2.trans X3)));show#[a,_,rfl,?_,kk _ _ _ (X1.trans (X2.trans (X3.trans X4))) E4];rw[zaW hw ek];show zi8.k f1 (by rw[f2.len];show hl);cases e;cases e
   show hk E2 e3 (PX.mono kk (X1.trans X2))
  show hd E1 e2 (PX.mono kk X1)
 show hv E0 e1 kk
end
open PySem.Builtin.Int (intBits)
def W{α:Type}(r:pf (Rs α))(P:α->Sto->Prop):Prop:=∃a S,r=eV (.ok a S)/\P a S
def WO(r:pf (Xv×Sto))(P:Xv->Sto->Prop):Prop:=∃a S,r=eV (a,S)/\P a S
def WS(r:pf Fl)(N:Rho->Sto->Prop)(R:Xv->Sto->Prop):Prop:=(∃ρ S,r=eV (.nx ρ S)/\N ρ S)\/∃x S,r=eV (.rt x S)/\R x S
section
variable{s t:TwS}{PB:Bool->Sto->Prop}{PL:kx Xv->Sto->Prop}{PO:pf Int->Sto->Prop}
def W.of{α:Type}{r:pf (Rs α)}{a:α}{P:α->Sto->Prop}(e:r=eV (.ok a S))(h:P a S):W r P:=#[a,S,e,h]
def WO.of(e:r=eV (x,S))(h:P x S):WO r P:=#[x,S,e,h]
def W.imp{α:Type}{r:pf (Rs α)}{P Q:α->Sto->Prop}(h:W r P)(k:∀a S,P a S->Q a S):W r Q:=by
 have#[a,S,e,h]:=h;show#[a,S,e,k _ _ h]
theorem W.zW0{r:Option (Rs Xv)}{f:Sto->Xv}{Q:Sto->Prop}{P:Xv->Sto->Prop}(h:W r fun v S=>v=f S/\Q S)(k:∀S,Q S->P (f S) S):W r P:=W.imp h fun v S z=>by cases z.1;exact k S z.2
theorem W.zW1{ta:Type _}{r:Option (Rs Xv)}{f:ta->Sto->Xv}{Q:ta->Sto->Prop}{P:Xv->Sto->Prop}(h:W r fun v S=>∃a,v=f a S/\Q a S)(k:∀a,∀S,Q a S->P (f a S) S):W r P:=W.imp h fun v S z=>by cases z with|_ a z=> cases z.1;exact k a S z.2
theorem W.zW2{ta:Type _}{tb:Type _}{r:Option (Rs Xv)}{f:ta->tb->Sto->Xv}{Q:ta->tb->Sto->Prop}{P:Xv->Sto->Prop}(h:W r fun v S=>∃a,∃b,v=f a b S/\Q a b S)(k:∀a,∀b,∀S,Q a b S->P (f a b S) S):W r P:=W.imp h fun v S z=>by cases z with|_ a z=> cases z with|_ b z=> cases z.1;exact k a b S z.2
def WS.nx(e:r=eV (.nx ρ S))(h:N ρ S):WS r N R:= .inl #[ρ,S,e,h]
def WS.rt(e:r=eV (.rt x S))(h:R x S):WS r N R:= .inr #[x,S,e,h]
def W.bind{α β:Type}{r:pf (Rs α)}{f:α->Sto->pf (Rs β)}{P:β->Sto->Prop}(h:W r λa S=>W (f a S) P):W (rb r f) P:=by
 have#[a,S,rfl,h]:=h;show h
def WS.bind{α:Type}{r:pf (Rs α)}{f:α->Sto->pf Fl}(h:W r λa S=>WS (f a S) N R):WS (sb r f) N R:=by
 have#[a,S,rfl,h]:=h;show h
def W.okP(h:WO r P):W (okP r) P:=by
 have#[a,S,rfl,h]:=h;show#[a,S,rfl,h]
def zq(h:ρ[i]? =eV (eV d))(k:P d S):W (zi i ρ S) P:= .of (by unfold zi;rw[h]) k
def wm(k:P d S):W (eC d ρ S) P:= .of rfl k
def zM(h:W (a ρ S) λx S1=>W (b ρ S1) λy S2=>WO (f x y S2) P):W (eOp f a b ρ S) P:=W.bind (h.imp λ_ _ h=>W.bind (h.imp λ_ _ h=>W.okP h))
def znS{f:Xv->Sto->pf (Xv×Sto)}(h:W (a ρ S) λx S1=>WO (f x S1) P):W (eUn f a ρ S) P:=W.bind (h.imp λ_ _ h=>W.okP h)
def xg(h:W (a ρ S) λx S1=>∃v,x= .bl v/\PB v S1):W (bE a ρ S) PB:=W.bind (h.imp λx S1 h=>by have#[v,rfl,k]:=h;show .of rfl k)
def ztO(h:W (c ρ S) λv S1=>P (.bl v) S1):W (eB c ρ S) P:=W.bind (h.imp λ_ _ k=> .of rfl k)
def zge(h:W (c ρ S) λv S1=>PB (!v) S1):W (Um c ρ S) PB:=W.bind (h.imp λ_ _ k=> .of rfl k)
def Wg(h:W (c ρ S) λv S1=>(v=hG->W (c2 ρ S1) PB)/\(v=mK->PB mK S1)):W (zbI c c2 ρ S) PB:=W.bind (h.imp λv S1 k=>by
 cases v with
 |true=>rw[GO rfl];show k.1 rfl
 |false=>show .of rfl (k.2 rfl))
def zcf(h:W (c ρ S) λv S1=>(v=hG->PB hG S1)/\(v=mK->W (c2 ρ S1) PB)):W (bOr c c2 ρ S) PB:=W.bind (h.imp λv S1 k=>by
 cases v with
 |true=>show .of rfl (k.1 rfl)
 |false=>rw[GP (by simp)];show k.2 rfl)
def Vi(h:W (a ρ S) λx S1=>∃v,x= .bl v/\(v=hG->W (b ρ S1) P)/\(v=mK->P (.bl mK) S1)):W (zf4 a b ρ S) P:=W.bind ((xg h).imp λv S1 k=>by
 cases v with
 |true=>rw[GO rfl];show k.1 rfl
 |false=>show .of rfl (k.2 rfl))
def Wh(h:W (c ρ S) λv S1=>(v=hG->W (a ρ S1) P)/\(v=mK->W (b ρ S1) P)):W (eIf c a b ρ S) P:=W.bind (h.imp λv S1 k=>by
 cases v with
 |true=>rw[GO rfl];show k.1 rfl
 |false=>rw[GP (by simp)];show k.2 rfl)
def yi(k:PL [] S):W (evL [] ρ S) PL:= .of rfl k
def zm(h:W (m ρ S) λd S1=>W (evL ms ρ S1) λds S2=>PL (d::ds) S2):W (evL (m::ms) ρ S) PL:=W.bind (h.imp λ_ _ h=>W.bind (h.imp λ_ _ k=> .of rfl k))
def Zz(h:W (evL ms ρ S) λds S1=>P (.tup ds) S1):W (xc ms ρ S) P:=W.bind (h.imp λ_ _ k=> .of rfl k)
def zbP(h:W (evL ms ρ S) λds S1=>P (.ref S1.length) (S1++[.lst ds])):W (zbJ ms ρ S) P:=W.bind (h.imp λ_ _ k=> .of rfl k)
def xF(h:W (evL ms ρ S) λds S1=>WO (f ds S1) P):W (eFn f ms ρ S) P:=W.bind (h.imp λ_ _ h=>W.okP h)
def ya(h:W (evL ms ρ S) λds S1=>W (tw ds S1) P):W (zx tw ms ρ S) P:=W.bind h
def zsg(k:PO gi S):W (oNo ρ S) PO:= .of rfl k
def znT(h:W (m ρ S) λx S1=>∃k,x= .int k/\PO (eV k) S1):W (VQ m ρ S) PO:=W.bind (h.imp λx S1 h=>by have#[v,rfl,k]:=h;show .of rfl k)
def zrf{f:Xv->pf Int->pf Int->Sto->pf (Xv×Sto)}{lo hi:TwO}(h:W (m ρ S) λx S1=>W (lo ρ S1) λu S2=>W (hi ρ S2) λv S3=>WO (f x u v S3) P):W (eSl f m lo hi ρ S) P:=
 W.bind (h.imp λ_ _ h=>W.bind (h.imp λ_ _ h=>W.bind (h.imp λ_ _ h=>W.okP h)))
def zcg(h:W (o ρ S) λx S1=>(∃l,yn S1 x=eV l)/\W (evL ms ρ S1) λys S2=>WO (f x ys S2) P):W (eMt f o ms ρ S) P:=W.bind (h.imp λx S1 h=>by
 have#[#[l,e],h]:=h;rw[e,z0]
 show W.bind (h.imp λ_ _ h=>W.okP h))
def znU(k:P (.ref S.length) (S++[.dk []])):W (Vh ρ S) P:= .of rfl k
def znV(h:W (a ρ S) λx S1=>W (b ρ S1) λy S2=>∃n af k z,zlV S2 x=eV (n,af)/\zai y=eV k/\ve af k=eV z/\P z S2):W (zkS a b ρ S) P:=
 W.bind (h.imp λ_ _ h=>W.bind (h.imp λ_ _ h=>by have#[n,af,k,z,e1,e2,e3,q]:=h;rw[e1,e2];dsimp only;rw[e3];show .of rfl q))
def zp2(h:W (a ρ S) λx S1=>W (b ρ S1) λy S2=>∃n af k z,zaV S2 x=eV (n,af)/\zai y=eV k/\ve af k=eV z/\P z S2):W (zkS a b ρ S) P:=znV (h.imp λ_ _ h=>h.imp λ_ _ ⟨n,af,k,z,e,r⟩=>#[n,af,k,z,zpZ e,r])
def zsh(h:W (a ρ S) λy S1=>W (b ρ S1) λx S2=>∃n af k,zaV S2 x=eV (n,af)/\zai y=eV k/\P (.bl (neg !=(ve af k).isSome)) S2):W (zsf neg a b ρ S) P:=
 W.bind (h.imp λ_ _ h=>W.bind (h.imp λ_ _ h=>by have#[n,af,k,e1,e2,q]:=h;rw[e1,e2];show .of rfl q))
def zp3(h:W (m ρ S) λz S1=>W (a ρ S1) λx S2=>W (b ρ S2) λy S3=>∃n af k,zaV S3 x=eV (n,af)/\zai y=eV k/\af.length<FU/\N ρ (S3.set n (.dk (zdx af k z)))):WS (zjy a b m ρ S) N R:=
 WS.bind (h.imp λ_ _ h=>WS.bind (h.imp λ_ _ h=>WS.bind (h.imp λ_ _ h=>by have#[n,af,k,e1,e2,e3,q]:=h;rw[e1,e2];dsimp only;rw[GO e3];show .nx rfl q)))
def zo(h:WS (s ρ S) (λρ1 S1=>WS (t ρ1 S1) N R) R):WS (zw s t ρ S) N R:=by
 unfold zw;rcases h with⟨ρ1,S1,e,h⟩|⟨x,S1,e,h⟩
 .rw[e];show h
 rw[e];show .rt rfl h
def zv(h:N ρ S):WS (zK ρ S) N R:= .nx rfl h
def zO(h:W (m ρ S) λd S1=>N (ρ.set i (eV d)) S1):WS (zH m (gN i) ρ S) N R:=WS.bind (h.imp λ_ _ k=> .nx rfl k)
def zhR(h:W (m ρ S) λd S1=>W (a ρ S1) λx S2=>W (b ρ S2) λy S3=>∃n l q j,zag S3 x=eV (n,l)/\y= .int q/\ixN l.length q=eV j/\N ρ (S3.set n (.lst (l.set j d)))):WS (zH m (zf7 a b) ρ S) N R:=
 WS.bind (h.imp λd S1 h=>WS.bind (W.bind (h.imp λx S2 h=>W.bind (h.imp λy S3 h=>by
  have#[n,l,q,j,e1,rfl,e2,k]:=h;rw[e1];dsimp only;rw[e2]
  show .of rfl (.nx rfl k)))))
def zcW(h:W (m ρ S) λ_ S1=>N ρ S1):WS (zcd m ρ S) N R:=WS.bind (h.imp λ_ _ k=> .nx rfl k)
def ye(h:W (m ρ S) λd S1=>R d S1):WS (zR m ρ S) N R:=WS.bind (h.imp λ_ _ k=> .rt rfl k)
def zG(h:W (c ρ S) λv S1=>(v=hG->WS (s ρ S1) N R)/\(v=mK->WS (t ρ S1) N R)):WS (sIf c s t ρ S) N R:=WS.bind (h.imp λv S1 k=>by
 cases v with
 |true=>rw[GO rfl];show k.1 rfl
 |false=>rw[GP (by simp)];show k.2 rfl)
def zaj(I:Rho->Sto->Prop)(h:WS r I R)(k:∀ρ S,I ρ S->N ρ S):WS r N R:=by
 rcases h with⟨ρ,S,e,h⟩|h;show .inl #[ρ,S,e,k ρ S h];show .inr h
def zkT(h:WS (zbL c s n ρ S) N R):WS (sWh n c s ρ S) N R:=h
def Tt(h:W (c ρ S) λv S1=>(v=hG->WS (s ρ S1) (λρ2 S2=>WS (zbL c s n ρ2 S2) N R) R)/\(v=mK->N ρ S1)):WS (zbL c s (n+1) ρ S) N R:=by
 unfold zbL;show WS.bind (h.imp λv S1 k=> ?_);cases v with
 |true=>
  rw[GO rfl];rcases k.1 rfl with⟨ρ2,S2,e2,h⟩|⟨x,S2,e2,h⟩
  .rw[e2];show h
  rw[e2];show .rt rfl h
 |false=>show .nx rfl (k.2 rfl)
def xM(h:W (n ρ S) λget S1=>∃xs,get S1=eV xs/\WS (TW get g s (xs.length+1) 0 ρ S1) N R):WS (Zs n g s ρ S) N R:=WS.bind (h.imp λget S1 h=>by
 have#[xs,e,h]:=h;rw[e,z0]
 show h)
def yZ{get:Sto->pf (kx Xv)}(J:Nat->Rho->Sto->Prop)(hg:∀i ρ S,i<=xs.length->J i ρ S->get S=eV xs)
  (h:∀(i:Nat) (x:Xv) ρ S,xs[i]? =eV x->J i ρ S->W (g x ρ S) λρ1 S1=>WS (s ρ1 S1) (λρ2 S2=>J (i+1) ρ2 S2) R) (h0:J 0 ρ S) (k:∀ρ S,J xs.length ρ S->N ρ S):WS (TW get g s (xs.length+1) 0 ρ S) N R:=by
 have aux:∀(n i:Nat) (ρ:Rho) (S:Sto),i+n=xs.length->J i ρ S->WS (TW get g s (n+1) i ρ S) N R:=by
  intro n
  induction n with
  |zero=>
   intro i ρ S e hj;unfold TW;rw[hg i ρ S ⋯ hj,z0,z5 ⋯];dsimp only;rw[GO ⋯];show .nx rfl (k ρ S (by rw[show xs.length=i by omega];show hj))
  |succ n ih=>
   intro i ρ S e hj;unfold TW;have hi:i<xs.length:=by omega
   rw[hg i ρ S ⋯ hj,z0,uV hi];show WS.bind ((h i _ ρ S (uV hi) hj).imp λρ1 S1 h1=> ?_);rcases h1 with⟨ρ2,S2,e2,h2⟩|⟨x,S2,e2,h2⟩
   .rw[e2];show ih (i+1) ρ2 S2 ⋯ h2
   rw[e2];show .rt rfl h2
 show aux xs.length 0 ρ S ⋯ h0
def TX(h:W (m ρ S) λx S1=>∃l,yn S1 x=eV l/\Q' (λS=>yn S x) S1):W (iL m ρ S) Q':=W.bind (h.imp λx S1 h=>by
 have#[l,e,k]:=h;rw[e]
 show .of rfl k)
def zch{Q':(Sto->pf (kx Xv))->Sto->Prop}(h:W (m ρ S) λx S1=>∃l,x.tupOf=eV l/\Q' (λ_=>eV l) S1):W (iT m ρ S) Q':=W.bind (h.imp λx S1 h=>by
 have#[l,e,k]:=h;rw[e]
 show .of rfl k)
def wT{Q':(Sto->pf (kx Xv))->Sto->Prop}(h:W (m ρ S) λx S1=>∃k:Int,x= .int k/\(-(2^62)<=k/\k<2^62)/\Q' (λ_=>eV (wk 0 k.toNat)) S1):W (iR1 m ρ S) Q':=W.bind (h.imp λx S1 h=>by
 have#[k,rfl,hk,q]:=h;dsimp only;rw[GO hk]
 show .of rfl q)
def xu{lo:Int}{n i:Nat}{x:Xv}(h:(wk lo n)[i]? =eV x):i<n/\x= .int (lo+i):=by
 unfold wk at h;rw[uY] at h;have hi:i<n:=by
  apply Cj;intro hn;rw[z5 (by simp;omega)] at h;cases h
 rw[Dd hi] at h;cases h;show#[hi,rfl]
def yg{lo:Int}{n:Nat}:(wk lo n).length=n:=by simp[wk]
def xi(h:W (n ρ S) λget S1=>∃xs,get S1=eV xs/\W (YV get g c m (vw cap ρ) (xs.length+1) 0 [] S1) P):W (xt cap n g c m ρ S) P:=W.bind (h.imp λget S1 h=>by
 have#[xs,e,h]:=h;rw[e,z0]
 show h)
def yR{get:Sto->pf (kx Xv)}(hl:xs.length<=FU)(J:Nat->kx Xv->Sto->Prop)(hg:∀i es S,i<=xs.length->J i es S->get S=eV xs)
  (h:∀(i:Nat) (x:Xv) es S,xs[i]? =eV x->es.length=i->J i es S->W (g x ρc S) λρ1 S1=>W (c ρ1 S1) λb S2=>b=hG/\W (m ρ1 S2) λy S3=>J (i+1) (es++[y]) S3) (h0:J 0 [] S)
  (k:∀es S,es.length=xs.length->J xs.length es S->P (.ref S.length) (S++[.lst es])):W (YV get g c m ρc (xs.length+1) 0 [] S) P:=by
 have aux:∀(n i:Nat) (es:kx Xv) (S:Sto),i+n=xs.length->es.length=i->J i es S->W (YV get g c m ρc (n+1) i es S) P:=by
  intro n
  induction n with
  |zero=>
   intro i es S e el hj;unfold YV;rw[hg i es S ⋯ hj,z0,z5 ⋯];dsimp only;rw[GO ⋯];show .of rfl (k es S ⋯ (by rw[show xs.length=i by omega];show hj))
  |succ n ih=>
   intro i es S e el hj;unfold YV;have hi:i<xs.length:=by omega
   rw[hg i es S ⋯ hj,z0,uV hi];have#[ρ1,S1,e1,b,S2,e2,rfl,y,S3,e3,q]:=h i _ es S (uV hi) el hj;dsimp only[rn];rw[e1];dsimp only[rn];rw[e2];dsimp only[rn];rw[GO rfl,e3];dsimp only[rn];rw[GO ⋯];show ih (i+1) (es++[y]) S3 ⋯ (by simp[el]) q
 show aux xs.length 0 [] S ⋯ rfl h0
def zp4(k:PB hG S):W (xl ρ S) PB:= .of rfl k
def zsi{ρ0:Rho}(hn:xs.length=n)(h0:xs.map eV++z4 k gi=ρ0)(h:WS (s ρ0 S) (λ_ S1=>P .non S1) P):W (zL n k s xs S) P:=by
 unfold zL;rw[GO hn,h0];rcases h with⟨ρ,S1,e,h⟩|⟨x,S1,e,h⟩
 .rw[e];show .of rfl h
 rw[e];show .of rfl h
def zsj(k:P (.int (p+q)) S):WO (wL (.int p) (.int q) S) P:= .of rfl k
def zsk(k:P (.int (p-q)) S):WO (zjs (.int p) (.int q) S) P:= .of rfl k
def ztP(k:P (.bl (decide (p<q))) S):WO (dLt (.int p) (.int q) S) P:= .of rfl k
def ztQ(k:P (.bl (decide (q<p))) S):WO (dGt (.int p) (.int q) S) P:= .of rfl k
def ztR(k:P (.bl (decide (q<=p))) S):WO (dGe (.int p) (.int q) S) P:= .of rfl k
def zsl(k:P (.bl (decide (p=q))) S):WO (YE (.int p) (.int q) S) P:= .of rfl k
def zsm(k:P (.bl (!decide (p=q))) S):WO (zga (.int p) (.int q) S) P:= .of rfl k
def vQ(h:0<q)(k:P (.int (p % q)) S):WO (Xz (.int p) (.int q) S) P:= .of (by unfold Xz xIC;show GO (by simpa using h)) k
def xx(h:intBits p+intBits q<=134217728)(k:P (.int (p*q)) S):WO (ww (.int p) (.int q) S) P:= .of (by unfold ww xIC;show GO (by simpa using h)) k
def zsn(h:(-(2^64)<p/\p<2^64)\/(-(2^64)<q/\q<2^64))(k:P (.int (p*q)) S):WO (zpV (.int p) (.int q) S) P:= .of (by unfold zpV xIC;show GO (decide_eq_true h)) k
def zso(h:0<=q/\q<=1000000/\p.natAbs<2^64)(k:P (.int (p^q.toNat)) S):WO (znC (.int p) (.int q) S) P:= .of (by unfold znC xIC;show GO (decide_eq_true h)) k
def zgf(h:0<q/\q<1073741824)(k:P (.int (p / q)) S):WO (zce (.int p) (.int q) S) P:= .of (by unfold zce xIC;show GO (decide_eq_true h)) k
def zdy(h:q≠0/\intBits q<=9000)(k:P (.int (p.fdiv q)) S):WO (zbN (.int p) (.int q) S) P:= .of (by unfold zbN xIC;show GO (decide_eq_true h)) k
def zsp(k:P (.int (if q<p then q else p)) S):WO (zsd [.int p,.int q] S) P:= .of rfl k
def znW(k:P (.int (if q>p then q else p)) S):WO (zlU [.int p,.int q] S) P:= .of rfl k
def zdz(h:yn S x=eV l)(k:P (.int l.length) S):WO (wM [x] S) P:= .of (by
 unfold wM Yw;dsimp only;have:x.tupOf=gi:=by cases x<;>first|rfl|cases h
 rw[this];dsimp only;rw[h]
 rfl) k
def wD(h:yn S x=eV l)(e:atI l p=eV z)(k:P z S):WO (YD x (.int p) S) P:= .of (by unfold YD;rw[h];dsimp only;rw[e];rfl) k
def zE(h:x.tupOf=eV l)(e:atI l p=eV z)(k:P z S):WO (zB x (.int p) S) P:= .of (by unfold zB;rw[h];dsimp only;rw[e];rfl) k
def WL{β:Type}{x:β}{l:kx β}:atI (x::l) 0=eV x:=by
 unfold atI ixN;rw[GO (show(0:Int)<=0 by decide),GO (by simp only[y4];omega)];rfl
def ZW{β:Type}{x y:β}{l:kx β}:atI (x::y::l) 1=eV y:=by
 unfold atI ixN;rw[GO (show(0:Int)<=1 by decide),GO (by simp only[y4];omega)];rfl
def zsq(k:P x S):WO (zB (.tup (x::l)) (.int 0) S) P:=zE rfl WL k
def zsr(k:P y S):WO (zB (.tup (x::y::l)) (.int 1) S) P:=zE rfl ZW k
def zbQ{β:Type}{l:kx β}{z:β}(h0:0<=k)(h:l[k.toNat]? =eV z):atI l k=eV z:=by
 have hk:=(uT.1 h).1;unfold atI ixN;rw[GO h0,GO ⋯];show h
def Tu(h:zag S x=eV (n,l))(hz:l.length<FU)(k:P .non (S.set n (.lst (l++[y])))):WO (XF x [y] S) P:= .of (by unfold XF;rw[h];dsimp only;rw[GO hz]) k
def znX{l:kx Xv}{lo hi:pf Int}(h:yn S x=eV l)(k:P (.ref S.length) (S++[.lst (zbK l lo hi)])):WO (zhJ x lo hi S) P:= .of (by unfold zhJ;rw[h];rfl) k
def zrg(h:Yw S y=eV l)(hf:(wx x&&l.all wx)=hG)(k:P (.bl (neg !=l.any λz=>zep z x)) S):WO (dIn neg x y S) P:= .of (by unfold dIn;rw[h,z0,GO hf]) k
def vR(h:znR c S x=eV v)(k:P (.bl v) S):WO (Vg c x S) P:= .of (by unfold Vg;rw[h];rfl) k
end
def xW:yn (S++[.lst l]) (.ref S.length)=eV l:=by simp[yn]
def ZL(h:S[n]? =eV (.lst l)):zag S (.ref n)=eV (n,l):=by simp[zag,h]
def zC(h:S[n]? =eV (.lst l)):yn S (.ref n)=eV l:=by simp[yn,h]
def zaX(h:S[n]? =eV (.dk l)):zaV S (.ref n)=eV (n,l):=by simp[zaV,h]
end L2
namespace L2
open PySem.Calls
section
variable{E:XK}
noncomputable def zdA(xs ys:kx Xv):kx Xv:=(xs.zip ys).map λp=> .tup [p.1,p.2]
def zkU{xs ys:kx Xv}{i:Nat}{z:Xv}(h:(zdA xs ys)[i]? =eV z):∃x y,xs[i]? =eV x/\ys[i]? =eV y/\z= .tup [x,y]:=by
 unfold zdA at h;rw[uY] at h;cases e:(xs.zip ys)[i]? with
 |none=>rw[e] at h;cases h
 |some p=>
  rw[e] at h;cases h;have:=Ck.1 e;show#[p.1,p.2,this.1,this.2,rfl]
def zhS(xs ys:kx Xv):(zdA xs ys).length=min xs.length ys.length:=by simp[zdA]
end
end L2
namespace L2
open PySem.Calls PySem.W
section
variable{cmp:Nat->Nat->(Bool->pA->Prop)->pA->Prop}{r:Nat->Int}{n:Nat}
end
section
variable{w:World}
end
open PySem.AutoSeq1 (wpAny_loadPart')
open PySem.MeetsSeq PySem.MeetsSeq2 PySem.MeetsSeq3
section
variable{w:World}
end
end L2
namespace L2
open PySem.Calls PySem.W
section
variable{a:p8}{d:V}{u r:ph}{af:kx (Key×V)}{k:Key}
end
section
variable{o e f:Expr}{apos c7:Pos}{td ty tx:TE}
end
open PySem.AutoSeq1 (wpAny_loadPart')
section
variable{w:World}
end
end L2
namespace L2
open PySem.Calls PySem.W
section
variable{w:World}
end
open PySem.AutoSeq1 (wpAny_loadPart')
section
variable{w:World}
end
end L2
namespace L2
open PySem.Calls
mutual
inductive vW(h:Heap):NK->Value->Prop where
 |int (i:Int) (t:Tok):vW h (.int i) (.int i t)
 |str (x:Str) (t:Tok):vW h (.str x) (.str x t)
 |tup {a:Addr} {o:Obj} {items:Array Value} {n:Nat} {l:List NK}:h.get? a=eV o->o.cls= .type "tuple"->o.data= .seq items n->Zv h l items.toList->vW h (.tup l) (.ref a)
inductive Zv(h:Heap):List NK->List Value->Prop where
 |nil:Zv h [] []
 |cons {k:NK} {v:Value} {ks:List NK} {vs:List Value}:vW h k v->Zv h ks vs->Zv h (k::ks) (v::vs)
end
mutual
noncomputable def TY:NK->Nat
 | .int _=>1
 | .str _=>1
 | .tup l=>vY l+1
noncomputable def vY:kx NK->Nat
 |[]=>0
 |k::r=>TY k+vY r
end
section
def vW.inj(hx:vW h x v):vW h y v->x=y:=by
 show vW.rec (motive_1:=λx v _=>∀y,vW h y v->x=y) (motive_2:=λx v _=>∀y,Zv h y v->x=y) ?_ ?_ ?_ ?_ ?_ hx y;intro i t y hy;cases hy;rfl;intro x t y hy;cases hy;rfl
 .intro a o items n l e1 e2 e3 l1 ih y hy;cases hy with
  |tup f1 f2 f3 l2=>
   rw[e1] at f1;cases f1;rw[e3] at f3;injection f3 with g1 g2;subst g1;rw[ih _ l2]
 .intro y hy;cases hy;rfl
 intro k v ks vs a l i1 i2 y hy;cases hy with
 |cons b m=>rw[i1 _ b,i2 _ m]
def Zv.ind{m:kx NK->kx ph->Prop}(h0:m [] [])(h1:∀{k:NK} {v:ph} {ks:kx NK} {vs:kx ph},vW h k v->Zv h ks vs->m ks vs->m (k::ks) (v::vs)){v:kx ph}(hx:Zv h x v):m x v:=
 Zv.rec (motive_1:=λ_ _ _=>True) (motive_2:=λx v _=>m x v) (λ_ _=>trivial) (λ_ _=>trivial) (λ_ _ _ _ _=>trivial) h0 (λa b _ c=>h1 a b c) hx
def vW.keeps(ho:h.get? d=eV o)(hd:o.data= .dict es ep)(hs:Heap.SameBut d h h')(hx:vW h x v):vW h' x v:=
 vW.rec (motive_1:=λx v _=>vW h' x v) (motive_2:=λx v _=>Zv h' x v) .int .str (λ{a} {_ _ _ _} e1 e2 e3 _ ih=>by
  have dD:a≠d:=by
   rintro rfl;rw[ho] at e1;cases e1;rw[hd] at e3;show nomatch e3
  show .tup ((hs.2 a dD).trans e1) e2 e3 ih) .nil (λ_ _ a l=> .cons a l) hx
def Zv.len(hx:Zv h x v):x.length=v.length:=hx.ind (m:=λx v=>x.length=v.length) rfl λ_ _ e=>congrArg (· +1) e
def Zv.get{x:kx NK}{v:kx ph}{i:Nat}{k:NK}(hx:Zv h x v):x[i]? =eV k->∃u,v[i]? =eV u/\vW h k u:=
 hx.ind (m:=λx v=>∀i,x[i]? =eV k->∃u,v[i]? =eV u/\vW h k u) (λi e=>by simp at e) (λa _ ih i e=>by
  cases i with
  |zero=>simp at e;subst e;show#[_,rfl,a]
  |succ i=>show ih i e) i
end
theorem Tv:∀{l:kx NK} {k:NK},k∈l->Zx k<=VP l
 |[],_,h=>by cases h
 |a::r,k,h=>by
  unfold VP;rcases x8.1 h with rfl|h;show Nat.le_max_left _ _;show v7 (Tv h) (Fd _ _)
section
def zp5:∀(n:Nat) {A:Around} {s:pA} {k:NK} {v:ph} {Q:Int->pA->Prop},Zx k<=n->A.units+n<cLine->vW s.heap k v->Q (VO w k) {s with toks:=s.toks+TY k}->wpAny (model prog w) A (pyHash v) Q E s:=by
 intro n
 induction n with
 |zero=>
  intro A s k v Q hn hu hk h;cases hk with
  |int i t=>show wpAny_pyHash_int (by simpa [VO,TY,ziS] using h)
  |str x t=>show wpAny_pyHash_str (by simpa [VO,TY,ziS] using h)
  |tup _ _ _ _=>unfold Zx at hn;omega
 |succ n ih=>
  intro A s k v Q hn hu hk h;cases hk with
  |int i t=>show wpAny_pyHash_int (by simpa [VO,TY,ziS] using h)
  |str x t=>show wpAny_pyHash_str (by simpa [VO,TY,ziS] using h)
  | @tup a o items m ks ho hc hd hi=>
   have ty:s.TypeIs (.ref a) "tuple":=#[o,ho,hc];have iU:VP ks<=n:=by unfold Zx at hn;omega
   have sl:=F.slot_tuple_hash;unfold pyHash
   (try unfold pyHashByItsType)
   have main:∀{R:ph->pA->Prop},R (.int (Builtin.Tuple.tupleHashOf (Wc w ks)) (s.toks+vY ks)) {s with toks:=s.toks+vY ks+1}->wpAny (model prog w) A.in1 (GD.«tuple.__hash__» #[[.ref a],[]]) (λfin s'=>∃v,fin=PySem.Fin.done (.ret v)/\R v s') E s:=λ{R} hR=>by
    show qR (m:=Builtin.Tuple.tupleItemsOf (.ref a)) (wpAny_tupleItemsOf ho hd (qR ?_));rw[<-EL];show wpAny_forIn_list _ (λrest (acc:Array Int) s'=>∃pre post,ks=pre++post/\Zv s.heap post rest/\acc.toList=Wc w pre/\s'={s with toks:=s.toks+vY pre}) _ ?_ ?_ _ _ #[[],ks,rfl,hi,by simp[Wc],by simp[vY]]
    .intro v1 more acc _ #[pre,post,rfl,hl,hb,rfl];cases hl with
     | @cons k _ post' _ h1 iF=>
      have app:∀(l:kx NK) (k:NK),Wc w (l++[k])=Wc w l++[VO w k]/\vY (l++[k])=vY l+TY k:=λl k=>by
       induction l with
       |nil=>simp[Wc,vY]
       |cons a r ih=>show#[by simp[Wc,ih.1],by simp[vY,ih.2];omega]
      show qR (ih (v7 (Tv (by simp)) iU) (show A.units+1+n<cLine by omega) (show vW s.heap k v1 from h1) ?_);have goal:∃jA jd,pre++k::post'=jA++jd/\Zv s.heap jd more/\(acc.push (VO w k)).toList=Wc w jA/\({s with toks:=s.toks+vY pre+TY k}:pA)={s with toks:=s.toks+vY jA}:=#[pre++[k],post',by simp,iF,by rw[(app pre k).1];simp[hb],by rw[(app pre k).2,Ez]]
      first|exact uh goal|exact qR (uh (uh goal))
    intro acc _ #[pre,post,rfl,hl,hb,rfl];cases hl;rw[Bb] at hR;change wpAny _ _ (retInt (Builtin.Tuple.tupleHashOf acc.toList)) _ _ _;rw[hb];show wpAny_ret_mkInt ?_;show hR
   show qR (wpAny_cRoomFor_or (.inr (show A.units<cLine by omega)) (qR (Gh ty sl.lookup ?_)));show Gy (λz=>absurd z (by rw[beq_builtin_none];decide)) λ_=>qR (Gh ty sl.lookup ?_);show qR (m:=callSpecialIfBoundUnlessNone? (.ref a) "__hash__" _) (wpAny_callSpecialIfBoundUnlessNone?_slot ty sl (Ga sl ty F.entry_tuple_hash (main ?_) (F.args_tuple_hash_1 _)));unfold VO TY reduceHash at h;have en:({s with toks:=s.toks+vY ks+1}:pA)={s with toks:=s.toks+(vY ks+1)}:=by rw[Ez]
   rw[en];show Gy (λz=> ?_) λz=>qR (wpAny_rule ?_);rw[GO z] at h;show uh h;rw[GP z] at h;show uh h
def zaY(hu:A.units<cLine)(hk:vW s.heap k v)(hj:vW s.heap j u)(hd:(∀l,k≠ .tup l)\/∀l,j≠ .tup l):SeqAt.EqAt A s v u (decide (k=j)):=by
 have tp:∀{a:p8} {o:Obj} {items:Array ph} {n:Nat},s.heap.get? a=eV o->o.cls= .type "tuple"->o.data= .seq items n->s.heap.IsTuple a items:=λa b c=>#[_,a,b,_,c];cases hk with
 |int i t=>
  cases hj with
  |int j t'=>
   rw[show decide (NK.int i=NK.int j)=(i==j) by rw[AV,decide_eq_true_iff,beq_iff_eq];show#[λe=>by cases e;rfl,λe=>by rw[e]]];show SeqAt.EqAt.int_int _ _ _ _
  |str y t'=>rw[decide_eq_false (by intro e;cases e)];show SeqAt.EqAt.int_str _ _ _ _
  |tup a b c _=>rw[decide_eq_false (by intro e;cases e)];show SeqAt.EqAt.int_tuple _ _ (tp a b c) hu
 |str x t=>
  cases hj with
  |int j t'=>rw[decide_eq_false (by intro e;cases e)];show SeqAt.EqAt.str_int _ _ _ _
  |str y t'=>
   rw[show decide (NK.str x=NK.str y)=(x==y) by rw[AV,decide_eq_true_iff,beq_iff_eq];show#[λe=>by cases e;rfl,λe=>by rw[e]]];show SeqAt.EqAt.str_str _ _ _ _
  |tup a b c _=>rw[decide_eq_false (by intro e;cases e)];show SeqAt.EqAt.str_tuple _ _ (tp a b c) hu
 |tup a b c _=>
  cases hj with
  |int j t'=>rw[decide_eq_false (by intro e;cases e)];show SeqAt.EqAt.tuple_int _ _ (tp a b c) hu
  |str y t'=>rw[decide_eq_false (by intro e;cases e)];show SeqAt.EqAt.tuple_str _ _ (tp a b c) hu
  |tup _ _ _ _=>
   rcases hd with h|h;show (h _ rfl).elim;show (h _ rfl).elim
def zhT{α:Type}(l m:kx α)(e:Nat->Bool)(he:∀(j:Nat) a b,l[j]? =eV a->m[j]? =eV b->(e j=hG↔a=b)):((Ac (min l.length m.length)).all e&&(l.length==m.length))=hG↔l=m:=by
 rw[Aj,AB,beq_iff_eq];constructor
 .intro#[h1,h2];show C8 λj=> ?_;by_cases hj:j<l.length
  .have mo:j<m.length:=by omega
   rw[uV hj,uV mo];show congrArg eV ((he j _ _ (uV hj) (uV mo)).1 (h1 j (Ba.2 ⋯)))
  rw[z5 ⋯,z5 ⋯]
 rintro rfl;show#[λj hj=> ?_,rfl];have hj:=Ba.1 hj;have hj:j<l.length:=by omega
 show(he j _ _ (uV hj) (uV hj)).2 rfl
def ztS:∀(n:Nat) {A:Around} {s:pA} {k j:NK} {v u:ph},Zx k<=n->A.units+n<cLine->vW s.heap k v->vW s.heap j u->SeqAt.EqAt A s v u (decide (k=j)):=by
 intro n
 induction n with
 |zero=>
  intro A s k j v u hn hu hk hj;show zaY ⋯ hk hj (.inl λl e=> ?_);subst e;unfold Zx at hn;omega
 |succ n ih=>
  intro A s k j v u hn hu hk hj;cases hk with
  |int i t=>show zaY ⋯ (.int i t) hj (.inl λl e=>by cases e)
  |str i t=>show zaY ⋯ (.str i t) hj (.inl λl e=>by cases e)
  | @tup a o items m l ho hc hd hi=>
   cases hj with
   |int i t=>show zaY ⋯ (.tup ho hc hd hi) (.int i t) (.inr λl e=>by cases e)
   |str i t=>show zaY ⋯ (.tup ho hc hd hi) (.str i t) (.inr λl e=>by cases e)
   | @tup a' o' items' m' l' iE iH gX jO=>
    have iU:VP l<=n:=by unfold Zx at hn;omega
    by_cases iq:a=a';subst iq;have e:=(vW.tup ho hc hd hi).inj (vW.tup iE iH gX jO);rw[decide_eq_true e];show SeqAt.EqAt.same _
    show SeqAt.EqAt.of_refs iq ?_;have s1:items.size=l.length:=by have:=hi.len;simpa using this.symm
    have s2:items'.size=l'.length:=by have:=jO.len;simpa using this.symm
    have:=SeqAt.RcAt.tuples (A:=A) (s:=s) (e:=λq=>decide (l[q]? =l'[q]?)) #[o,ho,hc,m,hd] #[o',iE,iH,m',gX] ⋯ (λq h1 h2=>by
     have q1:l[q]? =eV l[q]:=uV ⋯;have q2:l'[q]? =eV l'[q]:=uV ⋯;have#[u1,f1,g1]:=hi.get q1;have#[u2,f2,g2]:=jO.get q2;have e1:items[q]=u1:=by rw[BG] at f1;rw[DB h1] at f1;show A0 f1
     have e2:items'[q]=u2:=by rw[BG] at f2;rw[DB h2] at f2;show A0 f2
     rw[e1,e2];have:=ih (A:=A.in1) (v7 (Tv (A9 ⋯)) iU) (by change A.units+1+n<cLine;omega) g1 g2
     rwa [show decide (l[q]? =l'[q]?)=decide (l[q]=l'[q]) by rw[q1,q2,decide_eq_decide,Ar]])
    rw[s1,s2] at this;have oq:((Ac (min l.length l'.length)).all (λq=>decide (l[q]? =l'[q]?))&&(l.length==l'.length))=decide (NK.tup l=NK.tup l'):=by
     rw[AV,decide_eq_true_iff,zhT l l' _ λj a b ha hb=>by rw[decide_eq_true_iff,ha,hb,Ar]];show#[λe=>by rw[e],λe=>by cases e;rfl]
    rwa [oq] at this
def znY:∀(n:Nat) {A:Around} {s:pA} {k:NK} {v:ph} {Q:Bool->pA->Prop},Zx k<=n->vW s.heap k v->Q hG s->wpAny (model prog w) A (eqIsQuiet n v) Q E s:=by
 intro n
 induction n with
 |zero=>
  intro A s k v Q hn hk h;cases hk with
  |int i t=>rw[eqIsQuiet_byValue _ rfl];show uh h
  |str x t=>rw[eqIsQuiet_byValue _ rfl];show uh h
  |tup _ _ _ _=>unfold Zx at hn;omega
 |succ n ih=>
  intro A s k v Q hn hk h;cases hk with
  |int i t=>rw[eqIsQuiet_byValue _ rfl];show uh h
  |str x t=>rw[eqIsQuiet_byValue _ rfl];show uh h
  | @tup a o items m ks ho hc hd hi=>
   have ty:s.TypeIs (.ref a) "tuple":=#[o,ho,hc];have iU:VP ks<=n:=by unfold Zx at hn;omega
   unfold eqIsQuiet;show qR (Gh ty F.slot_tuple_eq.lookup (qR (m:=isInstance (.ref a) (.type "tuple")) (Gp ty isSubtype_tuple_tuple ?_)));show Gy nofun λ_=>qR (Ge ho hd (qR (m:=forIn items _ _) ?_));rw[<-EL];show wpAny_forIn_list _ (λrest acc s'=>acc.1=gi/\s'=s/\∃post,(∀k∈post,Zx k<=n)/\Zv s.heap post rest) _ ?_ ?_ _ _ #[rfl,rfl,ks,λk hk=>v7 (Tv hk) iU,hi]
   .intro v1 rest acc _ #[ha,rfl,post,f7,hl];cases hl with
    | @cons k _ post' _ h1 iF=>show qR (ih (f7 k (by simp)) h1 (Gy nofun λ_=>uh #[rfl,rfl,post',λu hu=>f7 u (w6 _ hu),iF]))
   intro#[a1,a2] _ #[ha,rfl,_];cases ha;show uh h
end
noncomputable def zaZ(prog:Program)(w:World):HeapKind prog w NK where
 is:=λh k a=>vW h k (.ref a)/\Zx k<=8
 hash:=VO w
 draws:=TY
 room:=λA=>A.units+8<cLine
 inj:=λhx hy=>hx.1.inj hy.1
 keeps:=λx ho hd hs=>#[x.1.keeps ho hd hs,x.2]
 pyHash:=λhu hk h=>zp5 8 hk.2 hu hk.1 h
 eqBool:=λhu hx hy h=>ztS 8 hx.2 hu hx.1 hy.1 _ _ _ _ h
 quiet:=λhk h=>znY 8 hk.2 hk.1 h
mutual
inductive NIs(K:uU)(H:Hp):V->NK->Prop where
 |int (i:Int):NIs K H (.int i) (.int i)
 |str (x:Str):NIs K H (.str x) (.str x)
 |tup {a:Addr} {vs:List V} {l:List NK}:SqT K H a vs->znZ K H vs l->NIs K H (.ref a) (.tup l)
inductive znZ(K:uU)(H:Hp):List V->List NK->Prop where
 |nil:znZ K H [] []
 |cons {v:V} {k:NK} {vs:List V} {ks:List NK}:NIs K H v k->znZ K H vs ks->znZ K H (v::vs) (k::ks)
end
def NIs.isNK(I:Inv X pins σ H s)(hv:NIs X.K H v k):yt v u->vW s.heap k u:=by
 show NIs.rec (motive_1:=λv k _=>∀u,yt v u->vW s.heap k u) (motive_2:=λv k _=>∀u,ym v u->Zv s.heap k u) ?_ ?_ ?_ ?_ ?_ hv u;intro i u r;have#[t,rfl]:=(show ∃t,_=Value.int i t from r);show .int i t;intro x u r;have#[t,rfl]:=(show ∃t,_=Value.str x t from r);show .str x t;intro a vs l h _ ih u r;cases (show _=Value.ref a from r);have#[ah,r1,#[o,p1,p2,n,p3],_]:=I.tuple h;show .tup p1 p2 p3 (ih _ (by simpa using r1));intro u r;cases r;show .nil
 intro v k vs ks _ _ i1 i2 u r;cases r with
 |cons a b=>show .cons (i1 _ a) (i2 _ b)
def zlX(K:uU)(H:Hp)(ks:kx (NK×p8×V)):Prop:=∀p∈ks,NIs K H (.ref p.2.1) p.1/\Zx p.1<=8
noncomputable def Vj(ks:kx (NK×p8×V))(k:NK):pf V:=(ks.find? λp=>decide (p.1=k)).map (·.2.2)
noncomputable def zgg(ks:kx (NK×p8×V))(k:NK)(b:p8)(v:V):kx (NK×p8×V):=if (Vj ks k).isSome=hG then ks.map (λp=>if p.1=k then (p.1,p.2.1,v) else p) else ks++[(k,b,v)]
def zhU(ks:kx (NK×p8×V))(k:NK)(b:p8)(v:V):(zgg ks k b v).length<=ks.length+1:=by
 unfold zgg;split;rw[uZ];omega;simp
noncomputable abbrev PN:kx (NK×p8×V)->kx (NK×p8×ph)->Prop:=Paired λ(p:NK×p8×V) (q:NK×p8×ph)=>p.1=q.1/\p.2.1=q.2.1/\yt p.2.2 q.2.2
def PN.val(r:PN ks xs)(k:NK):WW (Vj ks k) ((atKey xs k).map (·.2)):=by
 induction r with
 |nil=>show AY
 | @cons p q ps qs h t ih=>
  have#[h1,_,h2]:=h;by_cases e:p.1=k
  .have e':q.1=k:=h1.symm.trans e;have b:atKey (q::qs) k=eV q.2:=by simp[atKey,A5,e']
   have a:Vj (p::ps) k=eV p.2.2:=by simp[Vj,A5,e]
   rw[a,b];show h2
  have e':¬q.1=k:=λz=>e (h1.trans z);have b:atKey (q::qs) k=atKey qs k:=by simp[atKey,A5,e']
  have a:Vj (p::ps) k=Vj ps k:=by simp[Vj,A5,e]
  rw[a,b];show ih
def PN.put(r:PN ks xs)(k:NK)(ry:yt y u):PN (zgg ks k b y) (storedH xs k b u):=by
 have e:(Vj ks k).isSome=(atKey xs k).isSome:=by rw[(r.val k).isSome_eq,CI]
 unfold zgg storedH;rw[e];by_cases q:(atKey xs k).isSome=hG
 .rw[GO q,GO q];clear q e
  induction r with
  |nil=>show .nil
  | @cons p q ps qs h t ih=>
   rw[y8,y8];show .cons ?_ ih;have#[h1,h2,h3]:=h;unfold putAt;by_cases e:p.1=k;rw[GO e,GO (h1.symm.trans e)];show#[h1,h2,ry];rw[GP e,GP (λz=>e (h1.trans z))];show#[h1,h2,h3]
 rw[GP q,GP q];show Paired.snoc r #[rfl,rfl,ry]
def PN.all{P:NK->p8->Prop}(r:PN ks xs)(h:∀p∈ks,P p.1 p.2.1):∀x∈xs,P x.1 x.2.1:=by
 induction r with
 |nil=>intro x hx;cases hx
 | @cons p q ps qs h' t ih=>
  intro x hx;rcases x8.1 hx with rfl|hx;have#[e1,e2,_]:=h';rw[<-e1,<-e2];show h p (by simp);show ih (λp hp=>h p (by simp[hp])) x hx
section
def zrh(I:Inv X pins σ H s)(e:Rd H a (.dN ks))(hk:zlX X.K H ks):ks.length<=FU/\(a==Gk)=mK/\∃xs,PN ks xs/\s.heap.DictOfH (zaZ X.prog X.w) a xs:=by
 have q:xb X.prog X.w H s.heap a (.dN ks):=by
  rcases e with e|⟨o,e⟩
  .show I.hok a _ e
  show (show xb X.prog X.w H s.heap a (.frz o (.dN ks)) from I.hok a _ e).2
 have#[z,y,xs,r,o,es,ep,h1,h2,h3,h4,h5]:=q;show#[z,y,xs,r,o,es,ep,h1,h2,h3,h4,?_,h5];show PN.all r (P:=λk b=>(zaZ X.prog X.w).is s.heap k b) λp hp=>#[(hk p hp).1.isNK I rfl,(hk p hp).2]
def ztT(I:Inv X pins σ H s)(e:H a=eV (.dN ks))(hk:zlX X.K H ks):ks.length<=FU/\(a==Gk)=mK/\∃xs,PN ks xs/\s.heap.DictOfH (zaZ X.prog X.w) a xs:=zrh I (.inl e) hk
def zn0(I:Inv X pins σ H s)(e:H a=eV (.dK [])):(a==Gk)=mK/\s.heap.DictOfH (zaZ X.prog X.w) a []:=by
 have#[z,y,vs,r,o,es,ep,h1,h2,h3,h4,h5,_]:=zq6 I.hok e;cases r;show#[y,o,es,ep,h1,h2,h3,?_,by simp,by simp];have:es.toList=[]:=by
  have:=h5.length;simpa using this
 rw[this];rfl
end
def zfg(K:uU)(H:Hp)(a:p8)(y:V)(r:pf V):Prop:=
 zbE H a y r\/∃k b,y= .ref b/\NIs K H y k/\Zx k<=8/\((∃ks,Rd H a (.dN ks)/\zlX K H ks/\r=Vj ks k)\/(H a=eV (.dK [])/\r=gi))
def zn1(K:uU)(H:Hp)(a:p8)(y v:V)(H':Hp):Prop:=
 zi8 H a y v H'\/∃k b,y= .ref b/\NIs K H y k/\Zx k<=8/\((∃ks,H a=eV (.dN ks)/\zlX K H ks/\ks.length<FU/\H'=upd H a (.dN (zgg ks k b v)))\/(H a=eV (.dK [])/\H'=upd H a (.dN [(k,b,v)])))
section
def dgN(I:Inv X pins σ H s)(h:(∃ks,Rd H a (.dN ks)/\zlX X.K H ks/\o=Vj ks k)\/(H a=eV (.dK [])/\o=gi)):(a==Gk)=mK/\∃xs,s.heap.DictOfH (zaZ X.prog X.w) a xs/\WW o ((atKey xs k).map (·.2)):=by
 rcases h with⟨ks,e,hk,rfl⟩|⟨e,rfl⟩
 .obtain⟨_,hd,xs,rel,dd⟩:=zrh I e hk;show#[hd,xs,dd,rel.val k]
 have#[hd,dd]:=zn0 I e;show#[hd,[],dd,AY]
def zjz(hu:A.units+9<cLine)(I:Inv X pins σ H s)(g:zfg X.K H a y (eV v))(ry:yt y u)(h:∀w' s',Inv X pins σ H s'->yt v w'->Q w' s'):wpAny (model X.prog X.w) A (getItem (.ref a) u) Q E s:=by
 rcases g with g|⟨k,b,rfl,hk,hd,g⟩
 .show ze1 ⋯ I g ry h
 cases (show u=Value.ref b from ry);have#[_,xs,dd,rel]:=dgN I g;have#[w',hw,rw']:=WW.some_of rel;have#[p,hp,kT]:=y3.mp hw;show wpAny_getItem_heap (knd:=zaZ X.prog X.w) (by change A.units+1+8<cLine;omega) #[hk.isNK I rfl,hd] dd hp ?_;rw[kT];show h w' _ (I.tok _) rw'
def zn2(hu:A.units+9<cLine)(I:Inv X pins σ H s)(g:zfg X.K H a y o)(ry:yt y u)(h:∀s',Inv X pins σ H s'->Q (.bool (!o.isSome)) s'):wpAny (model X.prog X.w) A (compareOp .NotIn u (.ref a)) Q E s:=by
 rcases g with g|⟨k,b,rfl,hk,hd,g⟩
 .show zkz ⋯ I g ry h
 cases (show u=Value.ref b from ry);have#[hs,xs,dd,rel]:=dgN I g;show wpAny_notIn_heap (knd:=zaZ X.prog X.w) (by change A.units+1+8<cLine;omega) #[hk.isNK I rfl,hd] hs dd ?_;have q:=rel.isSome_eq;rw[CI] at q;rw[<-q];show h _ (I.tok _)
def zjA{Q:Unit->pA->Prop}(hu:A.units+9<cLine)(I:Inv X pins σ H s)(g:zn1 X.K H a y v H')(ry:yt y u)(rv:yt v r)(h:∀s',Inv X pins σ H' s'->Q () s'):
  wpAny (model X.prog X.w) A (setItem (.ref a) u r) Q E s:=by
 rcases g with g|⟨k,b,rfl,hk,hd,⟨ks,e,eZ,hl,rfl⟩|⟨e,rfl⟩⟩
 .show ze2 ⋯ I g ry rv h
 .cases (show u=Value.ref b from ry);have#[z,hs,xs,rel,dd]:=ztT I e eZ;have hz:xs.length<=FU:=by rw[<-Paired.length rel];show z
  have eR:(zgg ks k b v).length<=FU:=by have:=zhU ks k b v;omega
  show wpAny_setItem_heap (knd:=zaZ X.prog X.w) (hsz:=hz) (by change A.units+1+8<cLine;omega) #[hk.isNK I rfl,hd] dd λh' dd' gJ=>h _ ?_;have#[q,es,ep,hq,h2,h3,h4,_,h5]:=dd';show zaN I (by rw[e];show AY) gJ #[q,hq] #[eR,hs,_,rel.put k rv,q,es,ep,hq,h2,h3,h4,h5]
 cases (show u=Value.ref b from ry);have#[hs,dd]:=zn0 I e;show wpAny_setItem_heap (knd:=zaZ X.prog X.w) (hsz:=BK _) (by change A.units+1+8<cLine;omega) #[hk.isNK I rfl,hd] dd λh' dd' gJ=>h _ ?_;have#[q,es,ep,hq,h2,h3,h4,_,h5]:=dd';show zaN I (by rw[e];show AY) gJ #[q,hq] #[by simp;decide,hs,_,?_,q,es,ep,hq,h2,h3,h4,h5];show .cons #[rfl,rfl,rv] .nil
def zgh(I:Inv X pins σ H s)(g:zfg X.K H a y o):s.TypeIs (.ref a) "dict":=by
 rcases g with g|⟨k,b,rfl,hk,hd,g⟩
 .show zcb I g
 have#[_,xs,dd,_]:=dgN I g;show dd.typeIs
end
def zn3(K:uU)(td ty:TE):TE:=λσ H Q=>td σ H λx H1=>ty σ H1 λy H2=>∃a v,x= .ref a/\zfg K H2 a y (eV v)/\Q v H2
def zri(K:uU)(neg:Bool)(ty td:TE):TE:=λσ H Q=>ty σ H λy H1=>td σ H1 λx H2=>∃a o,x= .ref a/\zfg K H2 a y o/\Q (.bl (neg !=o.isSome)) H2
def zn4(K:uU)(td ty tv:TE):TS:=λD σ H=>tv σ H λv H1=>td σ H1 λx H2=>ty σ H2 λy H3=>∃a H4,x= .ref a/\zn1 K H3 a y v H4/\D.nx σ H4
section
def zn5(hr:wC r X.A):X.A.units+9<cLine:=by have:=hr.un;omega
def vg(hr:wC r X.A)(ho:PE X o td)(hi:PE X i ty)(hs:zrY i)(hK:X.K=K:=by rfl):PE X (.Subscript o i pos) (zn3 K td ty):=by
 subst hK;intro pins s σ H Q I h;show zkA Dz.lookup hs (thn (ho pins s σ H _ I h) ?_);intro u s1 #[x,H1,I1,rx,q1];show thn (hi pins s1 σ H1 _ I1 q1) ?_;intro iv s2 #[y,H2,I2,ry,a,v,ex,g,q2];subst ex;obtain rfl:u=Value.ref a:=rx;show#[zgh I2 g,zjz (zn5 hr) I2 g ry λw' s3 I3 rw'=>#[v,H2,I3,rw',q2]]
def zdB(hr:wC r X.A)(hi:PE X i ty)(ho:PE X o td)(hK:X.K=K:=by rfl):PC X .NotIn i o (zri K hG ty td):=by
 subst hK;intro pins s σ H Q I h;show thn (hi pins s σ H _ I h) ?_;intro iv s1 #[y,H1,I1,ry,q1];show thn (ho pins s1 σ H1 _ I1 q1) ?_;intro u s2 #[x,H2,I2,rx,a,ov,ex,g,q2];subst ex;obtain rfl:u=Value.ref a:=rx;show zn2 (zn5 hr) I2 g ry λs3 I3=>#[.bl (hG !=ov.isSome),H2,I3,by cases ov.isSome<;>rfl,q2]
def za0(hr:wC r X.A)(ho:PE X o td)(hi:PE X i ty)(hv:PE X value tv)(hs:swapsWith value (eV (.Subscript o i pos')) pos.line X.env=pure mK)(hK:X.K=K:=by rfl):
  PS X (.Assign [.Subscript o i pos'] value pos) (zn4 K td ty tv):=by
 subst hK;intro pins s σ H D I h;show wpAny_Assign_Subscript (thn (hv pins s σ H _ I h) ?_) hs;intro r s1 #[v,H1,I1,rv,q1];show thn (ho pins s1 σ H1 _ I1 q1) ?_;intro u s2 #[x,H2,I2,rx,q2];show thn (hi pins s2 σ H2 _ I2 q2) ?_;intro iv s3 #[y,H3,I3,ry,a,H4,ex,g,q3];subst ex;obtain rfl:u=Value.ref a:=rx;show zjA (zn5 hr) I3 g ry rv λs4 I4=>#[σ,H4,I4,q3]
end
end L2
namespace L2
open PySem.Calls PySem.W
def zlY(h:Heap)(a:p8)(es:Array DictEntry)(ep:Nat):Prop:=∃o,h.get? a=eV o/\o.ExactDict/\o.data= .dict es ep
section
def zlY.type(x:zlY s.heap d es ep):s.TypeIs (.ref d) "dict":=by
 have#[o,h1,h2,_]:=x;show#[o,h1,h2.1]
def zn6(lo:(d==Gk)=mK)(x:zlY s.heap d es ep)(q:Q (.ref #v[s]) {s with heap:=s.heap.push {cls:= .type "dict_keyiterator",data:= .fields [.ref d,.int 0 0,.int es.size 0,.int ep 0].toArray}}):
  wpAny (model prog w) A (pyIter (.ref d)) Q E s:=by
 have ty:=x.type;have#[o,h1,h2,h3]:=x;show wpAny_pyIter_slot ty F.slot_dict_iter (Ga F.slot_dict_iter ty F.entry_dict_iter ?_ (F.args_dict_iter_1 _));unfold GD.«dict.__iter__» Builtin.Dict.dictSlotNone;show qR (qR (wpAny_notOrdered_dict ty (uh (a:=Value.ref d) (qR (m:=Builtin.Dict.showsAll d) ?_))));unfold Builtin.Dict.showsAll;show Gy (λz=>by rw[lo] at z;cases z) λ_=>uh (qR (wpAny_dictEntries h1 h3 (qR (wpAny_dictEpoch h1 h3 (qR (FZ (uh #[_,rfl,"dict_keyiterator",_,#[_,Heap.get?_push_size _ rfl,rfl],F.slot_dict_keyiterator_next.lookup,?_])))))));simpa [Gu] using q
def zn7{Q:pf ph->pA->Prop}(hit:s.heap.IsKeyIter it d i es.size ep)(x:zlY s.heap d es ep)(he:es[i]? =eV e)
  (q:∀h',h'.IsKeyIter it d (i+1) es.size ep->Heap.SameBut it s.heap h'->Q (eV e.key) {s with heap:=h'}):wpAny (model prog w) A (pyNext (.ref it)) Q E s:=by
 have ty:=hit.typeIs;have#[o,ho,hc,hd]:=id hit;have#[od,h1,h2,h3]:=x;have own:Builtin.Dict_items.ownsTuple "dict_keyiterator"=mK:=by decide
 unfold pyNext;show qR (Gq (FY (name:=Str.ofString "__next__") ty F.slot_dict_keyiterator_next (Ga F.slot_dict_keyiterator_next ty F.entry_dict_keyiterator_next (qR (uh (qR (qR ?_)))) (F.args_dict_keyiterator_next_1 _))));have hsz:i<es.size:=(Cd.1 he).1;have ku:(s.heap.update it (Obj.mapFields (·.setIfInBounds 1 (Gu ((i:Int)+1))))).IsKeyIter it d (i+1) es.size ep:=
  #[_,Heap.get?_update_self _ ho (Obj.isFreed_of_fields (Obj.data_mapFields hd _)),(Obj.cls_mapFields ..).trans hc,by rw[Obj.data_mapFields hd];simp[Gu]]
 have nm:∀{R:String->pA->Prop},R "dict_keyiterator" s->wpAny (model prog w) A.in1 (typeNameOfWhole (.ref it)) R E s:=λh=>Gf ty h;show qR (Gf ty (uh (qR (wpAny_fieldsOf ho hd ?_))));simp only[own,Dm,if_false];show Gy (c:=(Value.ref d==Value.none)=hG) nofun λ_=>qR (uh (qR (wpAny_dictEntries h1 h3 ?_)));rw[GP (by simp)];show qR (uh (qR (wpAny_dictEpoch h1 h3 ?_)));rw[GP (by simp)];show uh ?_;simp only[show ¬((i:Int)<0) from by omega,if_false,z7,he];show qR (qR (Gf ty (uh (qR (wpAny_isOneOf_keyiter ty ?_)))));show qR (m:=setField (.ref it) 1 (Gu ((i:Int)+1))) (wpAny_setField ho hd (by simp) (qR (Gm (qR (wpAny_isOneOf_keyiter (s:={s with heap:=s.heap.update it (Obj.mapFields (·.setIfInBounds 1 (Gu ((i:Int)+1))))}) ku.typeIs ?_)))));show uh (a:=e.key) (uh #[_,rfl,uh (q _ ku (Heap.SameBut.update ..))])
def zp6{Q:pf ph->pA->Prop}(hh:A.handled=gi)(hit:s.heap.IsKeyIter it d i es.size ep)(x:zlY s.heap d es ep)(he:es[i]? =gi)(q:∀h',Heap.ExtBut it s.heap h'->Q gi {s with heap:=h'}):wpAny (model prog w) A (pyNext (.ref it)) Q E s:=by
 have ty:=hit.typeIs;have#[o,ho,hc,hd]:=id hit;have#[od,h1,h2,h3]:=x;have own:Builtin.Dict_items.ownsTuple "dict_keyiterator"=mK:=by decide
 unfold pyNext;show qR (Gq (FY (name:=Str.ofString "__next__") ty F.slot_dict_keyiterator_next (Ga F.slot_dict_keyiterator_next ty F.entry_dict_keyiterator_next (qR (uh (qR (qR ?_)))) (F.args_dict_keyiterator_next_1 _))));show qR (Gf ty (uh (qR (wpAny_fieldsOf ho hd ?_))));simp only[own,Dm,if_false];show Gy (c:=(Value.ref d==Value.none)=hG) nofun λ_=>qR (uh (qR (wpAny_dictEntries h1 h3 ?_)));rw[GP (by simp)];show qR (uh (qR (wpAny_dictEpoch h1 h3 ?_)));rw[GP (by simp)];show uh ?_;simp only[show ¬((i:Int)<0) from by omega,if_false,z7,he];show qR (qR (Gf ty (uh (qR (m:=setField (.ref it) 0 .none) (wpAny_setField ho hd (by simp) (qR (m:=newExc (.type "StopIteration") []) ?_))))));simp only[newExc,newTuple];show qR (FZ (qR (m:=GF _ _) (Gs (a:=Value.none) (by first|rfl|(simp only[GF];rfl)) (FZ ?_ (by size_fits)))) (by size_fits));simp only[raiseNew];show qR (wpAny_handled ?_);rw[show A.in1.handled=gi from hh];show qR (uh (wpAny_throw ?_));show qR (Gp (b:=hG) (T:="StopIteration") #[_,Heap.get?_push_size _ rfl,rfl] isSubtype_stop ?_);show uh (q _ (((Heap.SameBut.update ..).extBut.push _).push _))
end
section
variable{w:World}
end
section
variable{w:World}{T:String}{r d:p8}{n:Nat}{P:Nat->ph->Prop}{OK:Heap->Prop}
end
end L2
namespace L2
open PySem.Calls
open AutoSeq1 (wpAny_loadPart')
section
variable{w:World}{it t:p8}{ah:Array ph}
end
end L2
namespace L2
open PySem.Calls PySem.W
section
variable{cmp:Nat->Nat->(Bool->pA->Prop)->pA->Prop}{r:Nat->Int}{n:Nat}
end
section
variable{w:World}{κ:SortKind}{it:Array Keyed}
end
section
variable{h':Heap}
end
section
variable{k:Nat}{f:p8}{fd:Gn}{ps:kx Str}{sp:Sp}
end
end L2
namespace L2
namespace Sm
noncomputable def inB(b j:Nat):Bool:=b.testBit j
noncomputable def plL(b:Nat):kx Nat:=(Ac 8).filter (inB b)
noncomputable def pl(b:Nat):Array Nat:=(plL b).toArray
noncomputable def st(h:Int):Nat->Nat×Nat
 |0=>(SetTable.bits h % 8,SetTable.bits h)
 |n+1=>SetTable.leap 7 (st h n).1 (st h n).2
noncomputable def pos(h:Int)(n:Nat):Nat:=(st h n).1
structure Tb(t:SetTable)(b:Nat):Prop where
 mask:t.mask=7
 place:t.place=pl b
 uS:t.dummies= [].toArray
noncomputable def ix(b j:Nat):Nat:=((Ac j).filter (inB b)).length
end Sm
open PySem.Calls PySem.W
section
variable{w:World}
variable{a:p8}{b:Nat}{f:Nat->Int×ph}{kf:Nat->NK}{o:Obj}{ep:Nat}{t:SetTable}
end
section
variable{h h':Heap}
end
section
variable{w:World}
variable{a:p8}{b:Nat}{f:Nat->Int×ph}{kf:Nat->NK}{o:Obj}{ep:Nat}{t:SetTable}
end
section
variable{h h':Heap}
end
section
variable{w:World}
variable{R:Result->pA->Prop}{I:p8}{fp wr:kx p8}{G:Array GH->Array GH->Prop}{n:Nat}{P:Nat->ph->Prop}{St:Nat->pA->Prop}
end
section
variable{w:World}
end
end L2
set_option maxHeartbeats 3200000
namespace L2
open PySem.Calls PySem.W
section
variable{w:World}
end
section
variable{w:World}{d it:p8}
variable{b:Nat}{f:Nat->Int×ph}{o:Obj}{ep:Nat}{t:SetTable}
variable{b:Nat}{f:Nat->Int×ph}{o:Obj}{ep:Nat}{t:SetTable}{i:Nat}
end
mutual
noncomputable def cp:NK->NK->Bool
 | .int _,.int _=>hG
 | .tup x,.tup y=>cpL x y
 |_,_=>mK
noncomputable def cpL:kx NK->kx NK->Bool
 |a::x,b::y=>cp a b&&cpL x y
 |_,_=>hG
end
section
open PySem.SeqAt
open PySem.AutoSeq1 (wpAny_loadPart')
open PySem.MeetsSeq PySem.MeetsSeq2 PySem.MeetsSeq3
variable{w:World}
end
section
variable{w:World}
end
section
variable{w:World}
end
section
variable{w:World}
end
section
variable{H':Hp}{h':Heap}
end
open PySem.AutoSeq1 (wpAny_loadPart')
open PySem.MeetsSeq PySem.MeetsSeq2 PySem.MeetsSeq3
section
variable{w:World}
end
end L2
namespace L2
open PySem.Calls
section
variable{tg:Expr}
end
section
variable{w:World}{I:p8}{fp wr:kx p8}{G:Array GH->Array GH->Prop}{n:Nat}{P:Nat->ph->Prop}{St:Nat->pA->Prop}{R:Result->pA->Prop}
end
section
variable{w:World}
end
section
variable{w:World}{h:Heap}{g:Array GH}{d:Drawn}{t:Nat}{os:OsState}{a:p8}
end
section
variable{w:World}{I:p8}{fp wr:kx p8}{G:Array GH->Array GH->Prop}{n:Nat}{P:Nat->ph->Prop}{St:Nat->pA->Prop}{R:Result->pA->Prop}{KK:Type}[DecidableEq KK]{knd:KeyKind prog w KK}
end
section
variable{w:World}{I:p8}{fp wr:kx p8}{G:Array GH->Array GH->Prop}{n:Nat}{P:Nat->ph->Prop}{St:Nat->pA->Prop}{R:Result->pA->Prop}
end
section
variable{w:World}
end
section
variable{E:XK}
end
section
variable{x y:Xv}{p q:Int}
end
section
variable{E:XK}
end
noncomputable def Up(y:Xv):pf NK:=match y with
 | .tup l=>(YT (.tup l)).bind λk=>if Zx k<=8 then eV k else gi
 | .ct l=>(YT (.ct l)).bind λk=>if Zx k<=8 then eV k else gi
 |_=>gi
noncomputable def yN(af:kx (NK×Xv×Xv))(k:NK):pf Xv:=(af.find? λp=>decide (p.1=k)).map (·.2.2)
noncomputable def XI(af:kx (NK×Xv×Xv))(k:NK)(x y:Xv):kx (NK×Xv×Xv):=if (yN af k).isSome=hG then af.map (λp=>if p.1=k then (p.1,p.2.1,y) else p) else af++[(k,x,y)]
noncomputable def YY(S:Sto)(x y:Xv):pf (pf Xv):=match x with
 | .ref n=>match S[n]? with
  |some (.dk af)=>match zai y with
   |some key=>eV (ve af key)
   |none=>if af.isEmpty=hG/\(Up y).isSome=hG then eV gi else gi
  |some (.dn af)=>(Up y).map (yN af)
  |some (.fdn af)=>(Up y).map (yN af)
  |_=>gi
 |_=>gi
noncomputable def TZ(S:Sto)(x y z:Xv):pf Sto:=match x with
 | .ref n=>match S[n]? with
  |some (.dk af)=>match zai y with
   |some key=>if af.length<FU then eV (S.set n (.dk (zdx af key z))) else gi
   |none=>if af.isEmpty=hG then (Up y).map λk=>S.set n (.dn [(k,y,z)]) else gi
  |some (.dn af)=>if af.length<FU then (Up y).map λk=>S.set n (.dn (XI af k y z)) else gi
  |_=>gi
 |_=>gi
section
variable{E:XK}
def Xis.nis(h:Xis K j H x v):YT x=eV k->NIs K H v k:=by
 show Xis.rec (motive_1:=λx v _=>∀k:NK,YT x=eV k->NIs K H v k) (motive_2:=λx v _=>∀k:kx NK,WJ x=eV k->znZ K H v k) ?_ ?_ ?_ ?_ ?_ ?_ ?_ ?_ ?_ ?_ h k;intro k e;simp[YT] at e;intro b k e;simp[YT] at e;intro i k e;simp[YT] at e;subst e;show .int i;intro i k e;simp[YT] at e;subst e;show .str i;intro a vs xs h l ih k e;simp only[YT,y3] at e;have#[m,e1,rfl]:=e;show .tup (SqT.of h) (ih m e1);intro a vs xs h l ih k e;simp only[YT,y3] at e;have#[m,e1,rfl]:=e;show .tup (h H) (ih m e1);intro n a h k e;simp[YT] at e;intro f vs L xs h l ih k e;simp[YT] at e;intro k e;simp[WJ] at e;subst e;show .nil;intro x v xs vs h l r9 r6 k e;simp only[WJ,An,y3] at e;have#[a,e1,b,e2,rfl]:=e;show .cons (r9 a e1) (r6 b e2)
def za1(h:Xis K j H x v)(e:Up x=eV k):∃b,v= .ref b/\NIs K H v k/\Zx k<=8/\YT x=eV k:=by
 cases h with
 |tup h l=>
  simp only[Up,An] at e;have#[k',e1,e2]:=e;split at e2;cases e2;show#[_,rfl,(Xis.tup h l).nis e1,by assumption,e1];cases e2
 |ct h l=>
  simp only[Up,An] at e;have#[k',e1,e2]:=e;split at e2;cases e2;show#[_,rfl,(Xis.ct h l).nis e1,by assumption,e1];cases e2
 |_=>simp[Up] at e
def NX.len(h:NX K j H af ks):ks.length=af.length:=by
 induction h with
 |nil=>rfl
 |cons _ _ _ _ ih=>show congrArg (· +1) ih
def NX.nis(h:NX K j H af ks):zlX K H ks:=by
 induction h with
 |nil=>intro p hp;cases hp
 |cons e h1 _ _ ih=>
  intro p hp;rcases x8.1 hp with rfl|hp;show#[h1.nis e.1,e.2];show ih p hp
def NX.val(h:NX K j H af ks):(∀y,yN af k=eV y->∃w,Vj ks k=eV w/\Xis K j H y w)/\(yN af k=gi->Vj ks k=gi):=by
 induction h with
 |nil=>show#[λ_ e=>by simp[yN] at e,λ_=>rfl]
 | @cons k1 x1 y1 b1 w1 r rs ek h1 h l ih=>
  have#[i1,i2]:=ih;by_cases e:k1=k;subst e;show#[λy ey=> ?_,λey=> ?_];simp[yN] at ey;subst ey;show#[w1,by simp[Vj],h];simp[yN] at ey
  have e1:yN ((k1,x1,y1)::r) k=yN r k:=by simp[yN,A5,e]
  have e2:Vj ((k1,b1,w1)::rs) k=Vj rs k:=by simp[Vj,A5,e]
  rw[e1,e2];show#[i1,i2]
def NX.append(h:NX K j H af ks)(g:NX K j H r rs):NX K j H (af++r) (ks++rs):=by
 induction h with
 |nil=>show g
 |cons e h1 h _ ih=>show .cons e h1 h ih
set_option tactic.hygienic true in
def NX.put(hk:YT x=eV k/\Zx k<=8)(hx:Xis K j H x (.ref b))(hy:Xis K j H y v)(h:NX K j H af ks):NX K j H (XI af k x y) (zgg ks k b v):=by
 have e:(Vj ks k).isSome=(yN af k).isSome:=by
  cases ev:yN af k with
  |none=>rw[h.val.2 ev];rfl
  |some z=>have#[w,g,_]:=h.val.1 _ ev;rw[g];rfl
 unfold XI zgg;rw[e];split
 .rename_i hc;clear hc e
  induction h with
  |nil=>show .nil
  | @cons k1 x1 y1 b1 v1 r rs ek h1 h l ih=>
   rw[y8,y8];by_cases e:k1=k;rw[GO e,GO e];show .cons ek h1 hy ih;rw[GP e,GP e];show .cons ek h1 h ih
 show h.append (.cons hk hx hy .nil)
def En.dn(E1:En K F j H σ ρ S)(hx:Xis K j H (.ref n) v)(h:S[n]? =eV (.dn af)):∃a ks,v= .ref a/\j[n]? =eV a/\H a=eV (.dN ks)/\NX K j H af ks:=by
 have#[a,rfl,hj]:=hx.ref_inv;have#[ks,e1,e2]:=E1.cel _ _ _ h hj;show#[a,ks,rfl,hj,e1,e2]
set_option tactic.hygienic true in
def En.dgetN(E1:En K F j H σ ρ S)(hx:Xis K j H x u)(hy:Xis K j H y w)(h:YY S x y=eV r):∃a o,u= .ref a/\zfg K H a w o/\o.isSome=r.isSome/\(∀z zd,Xis K j H z zd->Xis K j H (r.getD z) (o.getD zd))/\∀z,r=eV z->∃z',o=eV z'/\Xis K j H z z':=by
 unfold YY at h;split at h
 .rename_i n;split at h
  .rename_i af hs;have hd:zaV S (.ref n)=eV (n,af):=zaX hs;have#[a,ks,rfl,hj,f1,f2]:=E1.dk hx hd;split at h
   .rename_i key ek;cases h;have#[o,g1,g2,g3]:=Tr (key:=key) f1 f2;show#[a,o,rfl,.inl (by rw[zaW hy ek];show g1),g2,g3,λz hz=> ?_];have:=g3 .non .non .non;rw[hz] at this g2;cases o with
    |none=>cases g2
    |some z'=>show#[z',rfl,this]
   split at h;rename_i hc;cases h;have#[k,hk]:=Ay.1 hc.2;have#[b,rfl,hn,ik,_]:=za1 hy hk;have:af=[]:=Fe.1 hc.1;subst this;cases f2;show#[a,gi,rfl,.inr #[k,b,rfl,hn,ik,.inr #[f1,rfl]],rfl,λz zd hz=>hz,λz hz=>by cases hz];cases h
  .rename_i af hs;have#[a,ks,rfl,hj,f1,f2]:=E1.dn hx hs;rw[y3] at h;have#[k,hk,rfl]:=h;have#[b,rfl,hn,ik,_]:=za1 hy hk;show#[a,Vj ks k,rfl,.inr #[k,b,rfl,hn,ik,.inl #[ks,.inl f1,f2.nis,rfl]],?_,λz zd hz=> ?_,λz hz=>f2.val.1 z hz]
   .cases ev:yN af k with
    |none=>rw[f2.val.2 ev];rfl
    |some z=>have#[w,g,_]:=f2.val.1 _ ev;rw[g];rfl
   cases ev:yN af k with
   |none=>rw[f2.val.2 ev];show hz
   |some z=>have#[w,g,g2]:=f2.val.1 _ ev;rw[g];show g2
  .rename_i af hs;have#[a,rfl,hj]:=hx.ref_inv;have#[o,ks,f1,f2]:=E1.cel _ _ _ hs hj;rw[y3] at h;have#[k,hk,rfl]:=h;have#[b,rfl,hn,ik,_]:=za1 hy hk;show#[a,Vj ks k,rfl,.inr #[k,b,rfl,hn,ik,.inl #[ks,.inr #[o,f1],f2.nis,rfl]],?_,λz zd hz=> ?_,λz hz=>f2.val.1 z hz]
   .cases ev:yN af k with
    |none=>rw[f2.val.2 ev];rfl
    |some z=>have#[w,g,_]:=f2.val.1 _ ev;rw[g];rfl
   cases ev:yN af k with
   |none=>rw[f2.val.2 ev];show hz
   |some z=>have#[w,g,g2]:=f2.val.1 _ ev;rw[g];show g2
  cases h
 cases h
set_option tactic.hygienic true in
def En.dputN(E1:En K F j H σ ρ S)(hx:Xis K j H x u)(hy:Xis K j H y w)(hz:Xis K j H z v)(h:TZ S x y z=eV S'):∃a H',u= .ref a/\zn1 K H a w v H'/\En K F j H' σ ρ S'/\Ext j H j H':=by
 unfold TZ at h;split at h;rename_i n;split at h;rename_i af hs;have hd:zaV S (.ref n)=eV (n,af):=zaX hs;have#[a,ks,rfl,hj,f1,f2]:=E1.dk hx hd;split at h;rename_i key ek;split at h;rename_i hl;cases h;have#[E4,X4]:=E1.wdk hd hj (f2.put (k:=key) hz);show#[a,_,rfl,.inl ?_,E4,X4];rw[zaW hy ek];show zi8.k f1 (by rw[f2.len];show hl);cases h;split at h;rename_i hc;rw[y3] at h;have#[k,hk,rfl]:=h;have#[b,rfl,hn,ik,nD]:=za1 hy hk;have:af=[]:=Fe.1 hc;subst this;cases f2;have#[E4,X4]:=E1.write (o:= .dN [(k,b,v)]) (c':= .dn [(k,y,z)]) hs rfl hj rfl λX=>#[_,zW,.cons #[nD,ik] (hy.mono X) (hz.mono X) .nil];show#[a,_,rfl,.inr #[k,b,rfl,hn,ik,.inr #[f1,rfl]],E4,X4];cases h;rename_i af hs;have#[a,ks,rfl,hj,f1,f2]:=E1.dn hx hs;split at h;rename_i hl;rw[y3] at h;have#[k,hk,rfl]:=h;have#[b,rfl,hn,ik,nD]:=za1 hy hk;have#[E4,X4]:=E1.write (o:= .dN (zgg ks k b v)) (c':= .dn (XI af k y z)) hs rfl hj rfl λX=>#[_,zW,(f2.put #[nD,ik] hy hz).mono X];show#[a,_,rfl,.inr #[k,b,rfl,hn,ik,.inl #[ks,f1,f2.nis,by rw[f2.len];show hl,rfl]],E4,X4];cases h;cases h;cases h
noncomputable def wE(d k:TwE):TwE:=λρ S=>rb (d ρ S) λx S1=>rb (k ρ S1) λy S2=>(YY S2 x y).bind λo=>o.map λz=> .ok z S2
def zhV(hd:RE K E td d)(hk:RE K E ty k):RE K E (zn3 K td ty) (wE d k):=by
 intro F j σ H ρ S r Q En0 e kk;rcases zI e with⟨x,S1,e1,e⟩|⟨c,S1,e1,rfl⟩
 .show hd En0 e1 λj1 H1 X1 E1 u hu=> ?_;rcases zI e with⟨y,S2,e2,e⟩|⟨c,S2,e2,rfl⟩
  .show hk E1 e2 λj2 H2 X2 E2 w hw=> ?_;cases ed:YY S2 x y with
   |none=>rw[ed] at e;cases e
   |some o=>
    rw[ed,z0] at e;cases o with
    |none=>cases e
    |some z=>
     cases e;have#[a,o,rfl,g,_,_,g3]:=E2.dgetN (hu.mono X2) hw ed;have#[z',rfl,hz]:=g3 z rfl;show#[a,z',rfl,g,kk _ _ (X1.trans X2) E2 _ hz]
  show hk E1 e2 (PX.mono kk X1)
 show hd En0 e1 kk
noncomputable def zkV(neg:Bool)(k d:TwE):TwE:=λρ S=>rb (k ρ S) λy S1=>rb (d ρ S1) λx S2=>(YY S2 x y).map λo=> .ok (.bl (neg !=o.isSome)) S2
def zkW(hk:RE K E ty k)(hd:RE K E td d):RE K E (zri K neg ty td) (zkV neg k d):=by
 intro F j σ H ρ S r Q En0 e kk;rcases zI e with⟨y,S1,e1,e⟩|⟨c,S1,e1,rfl⟩
 .show hk En0 e1 λj1 H1 X1 E1 u hu=> ?_;rcases zI e with⟨x,S2,e2,e⟩|⟨c,S2,e2,rfl⟩
  .show hd E1 e2 λj2 H2 X2 E2 w hw=> ?_;cases ed:YY S2 x y with
   |none=>rw[ed] at e;cases e
   |some o=>
    rw[ed] at e;cases e;have#[a,o',rfl,g,g1,_,_]:=E2.dgetN hw (hu.mono X2) ed;show#[a,o',rfl,g,kk _ _ (X1.trans X2) E2 _ ?_];rw[g1];show .bl _
  show hd E1 e2 (PX.mono kk X1)
 show hk En0 e1 kk
def ZM(d k v:TwE):TwS:=λρ S=>sb (v ρ S) λz S1=>sb (d ρ S1) λx S2=>sb (k ρ S2) λy S3=>(TZ S3 x y z).map λS4=> .nx ρ S4
def zhW(hd:RE K E td d)(hk:RE K E ty k)(hv:RE K E tv v):RS K E (zn4 K td ty tv) (ZM d k v):=by
 intro F j D' σ H ρ S fl E0 e kk;rcases xZ e with⟨z,S1,e1,e⟩|⟨c,S1,e1,rfl⟩
 .show hv E0 e1 λj1 H1 X1 E1 wz nE=> ?_;rcases xZ e with⟨x,S2,e2,e⟩|⟨c,S2,e2,rfl⟩
  .show hd E1 e2 λj2 H2 X2 E2 u hu=> ?_;rcases xZ e with⟨y,S3,e3,e⟩|⟨c,S3,e3,rfl⟩
   .show hk E2 e3 λj3 H3 X3 E3 w hw=> ?_;cases ed:TZ S3 x y z with
    |none=>rw[ed] at e;cases e
    |some S4=>
     rw[ed] at e;cases e;have#[a,H4,rfl,g,E4,X4]:=E3.dputN (hu.mono X3) hw (nE.mono (X2.trans X3)) ed;show#[a,H4,rfl,g,kk _ _ _ (X1.trans (X2.trans (X3.trans X4))) E4]
   show hk E2 e3 (PX.mono kk (X1.trans X2))
  show hd E1 e2 (PX.mono kk X1)
 show hv E0 e1 kk
end
section
variable{j:kx p8}
end
section
def vh(h:W (a ρ S) λx S1=>W (b ρ S1) λy S2=>∃z,YY S2 x y=eV (eV z)/\P z S2):W (wE a b ρ S) P:=
 W.bind (h.imp λ_ _ h=>W.bind (h.imp λ_ _ h=>by have#[z,e1,q]:=h;rw[e1];show .of rfl q))
def zkX(h:W (a ρ S) λy S1=>W (b ρ S1) λx S2=>∃o,YY S2 x y=eV o/\P (.bl (neg !=o.isSome)) S2):W (zkV neg a b ρ S) P:=
 W.bind (h.imp λ_ _ h=>W.bind (h.imp λ_ _ h=>by have#[o,e1,q]:=h;rw[e1];show .of rfl q))
def Uq(h:W (m ρ S) λz S1=>W (a ρ S1) λx S2=>W (b ρ S2) λy S3=>∃S4,TZ S3 x y z=eV S4/\N ρ S4):WS (ZM a b m ρ S) N R:=
 WS.bind (h.imp λ_ _ h=>WS.bind (h.imp λ_ _ h=>WS.bind (h.imp λ_ _ h=>by have#[S4,e1,q]:=h;rw[e1];show .nx rfl q)))
end
noncomputable def zdC(S:Sto)(x:Xv)(nm:Str):pf (Nat×kx (Str×Xv)):=match x with
 | .ref n=>match S[n]? with
  |some (.ins nm' fs)=>if nm'=nm then eV (n,fs) else gi
  |_=>gi
 |_=>gi
set_option tactic.hygienic true in
def zfh(h:zdC S x nm=eV (n,fs)):x= .ref n/\S[n]? =eV (.ins nm fs):=by
 unfold zdC at h;split at h;split at h;split at h;rename_i e1 e2;cases h;subst e2;show#[rfl,e1];cases h;cases h;cases h
def zgi(h:S[n]? =eV (.ins nm fs)):zdC S (.ref n) nm=eV (n,fs):=by
 unfold zdC;dsimp only;rw[h];dsimp only;rw[GO rfl]
noncomputable def zeq(f:Str)(v:Xv):kx (Str×Xv)->kx (Str×Xv)
 |[]=>[(f,v)]
 |(g,x)::r=>if g=f then (g,v)::r else (g,x)::zeq f v r
section
variable{E:XK}{F:Fm}{j:kx p8}{x:Xv}{v:V}{nm f m:Str}{C:p8}
def KX.look(h:KX K j H fs vs):(∀y,fs.lookup f=eV y->∃w,vs.lookup f=eV w/\Xis K j H y w)/\(fs.lookup f=gi->vs.lookup f=gi):=by
 induction h with
 |nil=>show#[(λ_ e=>by cases e),λ_=>rfl]
 | @cons g y1 w1 r rs h l ih=>
  have#[i1,i2]:=ih;rw[AA,AA];cases hb:(f==g) with
  |true=>show#[(λy e=>by cases e;show#[w1,rfl,h]),(λe=>by cases e)]
  |false=>show#[i1,i2]
def KX.putF(hx:Xis K j H x v)(h:KX K j H fs vs):KX K j H (zeq f x fs) (WY f v vs):=by
 induction h with
 |nil=>show .cons hx .nil
 | @cons g y1 w1 r rs h l ih=>
  unfold zeq L2.WY;by_cases e:g=f;rw[GO e,GO e];show .cons hx l;rw[GP e,GP e];show .cons h ih
def En.ins{n:Nat}{fs:kx (Str×Xv)}(dX:y9 K FV nm=eV (eV (.ref C)))(E1:En K F j H σ ρ S)(hx:Xis K j H x v)(h:zdC S x nm=eV (n,fs)):∃a dx vs,v= .ref a/\j[n]? =eV a/\H a=eV (.ins C dx vs)/\KX K j H fs vs:=by
 have#[rfl,hs]:=zfh h;have#[a,rfl,hj]:=hx.ref_inv;have#[C',dx,vs,e0,e1,e2]:=E1.cel _ _ _ hs hj;rw[dX] at e0;cases e0;show#[a,dx,vs,rfl,hj,e1,e2]
noncomputable def wA(nm f:Str)(o:TwE):TwE:=λρ S=>rb (o ρ S) λx S1=>(zdC S1 x nm).bind λp=>(p.2.lookup f).map λy=> .ok y S1
def vK(dX:y9 K FV nm=eV (eV (.ref C)))(hc:Cls K C)(hn:YQ K C f)(h:RE K E to o):RE K E (ztn K to f) (wA nm f o):=by
 walk_at "!a"
 .show h En0 e1 λj1 H1 X1 E1 u hu=> ?_;rw[An] at e;have#[#[n,fs],e2,e]:=e;rw[y3] at e;have#[y,e3,rfl]:=e;have#[a,dx,vs,rfl,hj,f1,f2]:=E1.ins dX hu e2;have#[w,g1,g2]:=f2.look.1 y e3;show#[a,C,dx,vs,w,rfl,f1,hc,hn,g1,k _ _ X1 E1 _ g2]
 show h En0 e1 k
def zhX(nm f:Str)(o m:TwE):TwS:=λρ S=>sb (m ρ S) λy S1=>sb (o ρ S1) λx S2=>(zdC S2 x nm).bind λp=>if p.2.length<1000 then eV (.nx ρ (S2.set p.1 (.ins nm (zeq f y p.2)))) else gi
def KX.len2{fs:kx (Str×Xv)}{vs:kx (Str×V)}(h:KX K j H fs vs):vs.length=fs.length:=by
 induction h with
 |nil=>rfl
 |cons h _ ih=>show congrArg (· +1) ih
set_option tactic.hygienic true in
def zkY{to tv:TE}{o m:TwE}(dX:y9 K FV nm=eV (eV (.ref C)))(hc:Cls K C)(hn:YQ K C f)(ho:RE K E to o)(hv:RE K E tv m):RS K E (zto K to tv f) (zhX nm f o m):=by
 intro F j D' σ H ρ S fl E0 e kk;rcases xZ e with⟨y,S1,e1,e⟩|⟨c,S1,e1,rfl⟩
 .show hv E0 e1 λj1 H1 X1 E1 wy rG=> ?_;rcases xZ e with⟨x,S2,e2,e⟩|⟨c,S2,e2,rfl⟩
  .show ho E1 e2 λj2 H2 X2 E2 u hu=> ?_;rw[An] at e;have#[#[n,fs],e3,e]:=e;dsimp only at e;split at e;rename_i hl;cases e;have#[a,dx,vs,rfl,hj,f1,f2]:=E2.ins dX hu e3;have#[E4,X4]:=E2.write (o:= .ins C dx (L2.WY f wy vs)) (c':= .ins nm (zeq f y fs)) (zfh e3).2 rfl hj rfl λX=>#[C,dx,_,dX,zW,(KX.putF (rG.mono X2) f2).mono X];show#[a,C,dx,vs,rfl,f1,hc,hn,by rw[f2.len2];show hl,kk _ _ _ (X1.trans (X2.trans X4)) E4];cases e
  show ho E1 e2 (PX.mono kk X1)
 show hv E0 e1 kk
noncomputable def yy(nm m:Str)(tw:TwF)(o:TwE)(ms:kx TwE):TwE:=λρ S=>rb (o ρ S) λx S1=>(zdC S1 x nm).bind λp=>if p.2.lookup m=gi then rb (evL ms ρ S1) λxs S2=>tw (x::xs) S2 else gi
set_option tactic.hygienic true in
def wN(dX:y9 K FV nm=eV (eV (.ref C)))(ho:RE K E to o)(h:RL K E t (evL ms))(hn:ms.length+1=n:=by rfl):RE K E (zmH C m (sTw K n tw) [] E to t) (yy nm m tw o ms):=by
 walk_at "!a"
 .show ho En0 e1 λj1 H1 X1 E1 u hu=> ?_;rw[An] at e;have#[#[q,fs],e2,e]:=e;dsimp only at e;split at e
  .rename_i o6;have#[a,dx,mL,rfl,hj,f1,f2]:=E1.ins dX hu e2;show#[a,dx,mL,rfl,f1,f2.look.2 o6,?_];rcases zI e with⟨xs,S2,e3,e⟩|⟨c,S2,e3,rfl⟩
   .show h E1 e3 λj2 H2 X2 E2 vs hv=> ?_;rw[Bb];show WK E2 (.cons (hu.mono X2) hv) (by rw[y4,hv.len,XE e3,hn]) e (k.step (X1.trans X2))
   show h E1 e3 (k.step X1)
  cases e
 show ho En0 e1 k
noncomputable def zgj(nm:Str)(tw:TwF)(ms:kx TwE):TwE:=λρ S=>rb (evL ms ρ S) λxs S1=>match tw (.ref S1.length::xs) (S1++[.ins nm []]) with
 |some (.ok .non S2)=>eV (.ok (.ref S1.length) S2)
 |_=>gi
set_option tactic.hygienic true in
def zhY(dX:y9 K FV nm=eV (eV (.ref C)))(h:RL K E t (evL ms))(hn:ms.length+1=n:=by rfl):RE K E (zq2 C (sTw K n tw) [] E t) (zgj nm tw ms):=by
 walk_at "!d"
 .show h En0 e1 λj1 H1 X1 E1 vs hv=> ?_;intro x dx hx sS dD;rw[Bb];split at e
  .rename_i S2 e2;cases e;have kK:upd H1 dx (.own x) x=gi:=by rw[zS (λz=>dD z.symm)];show hx
   have#[E2,X2]:=E1.new (p:=dx) (o:= .own x) sS;have#[E3,X3]:=E2.cell (p:=x) (o:= .ins C dx []) (c:= .ins nm []) kK #[C,dx,[],dX,zW,.nil];have X23:=X2.trans X3;have hr:Xis K (j1++[x]) (upd (upd H1 dx (.own x)) x (.ins C dx [])) (.ref S1.length) (.ref x):= .ref (by rw[<-E1.jl];simp);show WK E3 (.cons hr (hv.mono X23)) (by rw[y4,hv.len,XE e1,hn]) e2 λj' H' X E4 v hw=> ?_;show#[hw.non_inv,k _ _ (X1.trans (X23.trans X)) E4 _ (hr.mono X)]
  cases e
 show h En0 e1 k
end
section
def xm(h:W (o ρ S) λx S1=>∃n fs y,x= .ref n/\S1[n]? =eV (.ins nm fs)/\fs.lookup f=eV y/\P y S1):W (wA nm f o ρ S) P:=
 W.bind (h.imp λ_ _ h=>by have#[n,fs,y,rfl,e1,e2,q]:=h;rw[zgi e1,z0,e2];show .of rfl q)
def zgk(h:W (m ρ S) λy S1=>W (o ρ S1) λx S2=>∃n fs,x= .ref n/\S2[n]? =eV (.ins nm fs)/\fs.length<1000/\N ρ (S2.set n (.ins nm (zeq f y fs)))):WS (zhX nm f o m ρ S) N R:=
 WS.bind (h.imp λ_ _ h=>WS.bind (h.imp λ_ _ h=>by have#[n,fs,rfl,e1,e2,q]:=h;rw[zgi e1,z0,GO e2];show .nx rfl q))
def yo(h:W (o ρ S) λx S1=>∃n fs,x= .ref n/\S1[n]? =eV (.ins nm fs)/\fs.lookup f=gi/\W (evL ms ρ S1) λxs S2=>W (tw (x::xs) S2) P):W (yy nm f tw o ms ρ S) P:=
 W.bind (h.imp λ_ _ h=>by have#[n,fs,rfl,e1,e2,q]:=h;rw[zgi e1,z0,GO e2];show W.bind (q.imp λ_ _ h=>h))
def zp7(h:W (evL ms ρ S) λxs S1=>W (tw (.ref S1.length::xs) (S1++[.ins nm []])) λv S2=>v= .non/\P (.ref S1.length) S2):W (zgj nm tw ms ρ S) P:=
 W.bind (h.imp λxs S1 h=>by
  have#[v,S2,e,rfl,q]:=h;rw[e]
  show .of rfl q)
end
def zcX(h:X.K=K:=by rfl):IxR X (rIx K):=h ▸ zrT
section
variable{E:XK}{j:kx p8}
end
section
variable{E:XK}{F:Fm}{j:kx p8}{x:Xv}{v:V}{c:Str}{C:p8}
end
end L2
namespace L2
section
variable{S':Sto}{x y:Xv}{a b m o:TwE}{c:TwT}{s t:TwS}{i k:Nat}{PL:kx Xv->Sto->Prop}{X:Str->Sto->Prop}
end
open PySem.Calls
section
variable{E:XK}
noncomputable def zdD:OpM:=λx ys S=>match zag S x,ys with
 |some (_,l),[y]=>if wx y&&l.all wx then (l.findIdx? λz=>zep z y).map λ(k:Nat)=>(Xv.int (k:Int),S) else gi
 |_,_=>gi
set_option tactic.hygienic true in
def zhZ:zlR K zm6 zdD:=by
 intro F j σ H ρ S S' x z ys u vs Q E0 hx hy h k;unfold zdD at h;split at h
 .rename_i n l y e;split at h
  .rename_i hf;have hf:=Er.1 hf;rw[y3] at h;have#[q,e3,h]:=h;cases h;have#[a,ws,rfl,hj,h1,h2]:=E0.wl hx e;have#[w0,rfl,hw]:=hy.d1;have#[gL,sL,mo]:=Bf.1 e3;have#[w,w1,w2]:=h2.get (uV gL);have fl:∀(m:Nat) (hm:m<l.length),wx l[m]=hG:=λm hm=>AB.1 hf.2 _ (A9 hm);show#[a,ws,w0,q,rfl,rfl,h1,?_,?_,#[w,w1,?_],λm z hm hz=> ?_,k _ _ _ Ext.refl E0 (.int _)];rw[zdv hw];show hf.1;rw[zkP h2];show hf.2;rw[zjw w2 hw (fl _ gL) hf.1];show sL
   have kX:m<l.length:=by omega
   have#[y',y1,y2]:=h2.get (uV kX);rw[hz] at y1;cases y1;rw[zjw y2 hw (fl _ kX) hf.1];have:=mo m hm;simpa using this
  cases h
 cases h
def zn8(h:zag S x=eV (n,l))(hf:(wx y&&l.all wx)=hG)(e:(l.findIdx? λz=>zep z y)=eV k)(q:P (.int (k:Int)) S):WO (zdD x [y] S) P:= .of (by unfold zdD;rw[h];dsimp only;rw[GO hf,e];rfl) q
noncomputable def zp8(m:TwE):TwI:=λρ S=>rb (m ρ S) λx S1=>x.tupOf.map λl=> .ok (λ_=>eV l.reverse) S1
def zp9(h:RE K E t m):RI K E (zty K (zb8 t zlz)) (zp8 m):=by
 walk_at "!c"
 .cases el:x.tupOf with
  |none=>rw[el] at e;cases e
  |some l=>
   rw[el] at e;cases e;show h En0 e1 λj1 H1 X1 E1 u hu=> ?_;have#[a,vs,rfl,h1,nF]:=hu.tupO el;show#[a,vs,rfl,h1,k _ _ X1 E1 _ ?_];intro F2 j2 H2 σ2 ρ2 S2 xs i X2 E2 e2;cases e2;have#[a',ws,ea,g1,g2]:=(hu.mono X2).tupO el;cases ea;have n1:=nF.len;have n2:=g2.len;show#[λy ey=> ?_,λhle=> ?_]
   .have hi:i<l.length:=by
     have:=(uT.1 ey).1;simpa using this
    rw[CV hi] at ey;have#[w,f1,f2]:=g2.get ey;show#[#[⋯,ws,g1,⋯],?_];intro v' H' #[rfl,hx];have:=hx ws g1;rw[show vs.length-1-i=l.length-1-i by omega,f1] at this;cases this;show#[YS.refl _,f2]
   change i=vs.length;simp at hle;omega
 show h En0 e1 k
def zkZ{Q':(Sto->pf (kx Xv))->Sto->Prop}(h:W (m ρ S) λx S1=>∃l,x.tupOf=eV l/\Q' (λ_=>eV l.reverse) S1):W (zp8 m ρ S) Q':=W.bind (h.imp λx S1 h=>by
 have#[l,e,k]:=h;rw[e]
 show .of rfl k)
noncomputable def zh0:Op2:=λx y S=>match x,y with
 | .tup u,.int k=>if -(2^63)<=k/\k<2^63/\u.length*k.toNat<=FU then eV (.tup (z4 k.toNat u).flatten,S) else gi
 |_,_=>gi
theorem zh1(h:yr K j H xs vs):∀n:Nat,yr K j H (z4 n xs).flatten (z4 n vs).flatten
 |0=> .nil
 |n+1=>by
  rw[AG,AG,AH,AH];show h.append (zh1 h n)
set_option tactic.hygienic true in
def zk0:Xy K (zre K) zh0:=by
 walk_at "!g";unfold zh0 at h;split at h
 .rename_i ds q;split at h
  .rename_i hz;cases h;have#[p,xs,rfl,h1,h2]:=hx.tup_inv;show#[p,_,xs,rfl,hy.int_inv,SqT.of h1,hz.1,hz.2.1,by rw[h2.len];show hz.2.2,λhc=> ?_,λhc l hl=> ?_]
   .have e:(z4 q.toNat ds).flatten=ds:=by
     rcases hc with hc|hc;subst hc;obtain rfl:=CD.1 h2.len.symm;simp;subst hc;simp
    rw[e] at k;show k _ _ _ Ext.refl E1 hx
   have#[E2,X2]:=E1.new (o:= .tup (z4 q.toNat xs).flatten) hl;show k _ _ _ X2 E2 (.tup zW ((zh1 h2 _).mono X2))
  cases h
 cases h
def zqa(h:0<=p/\p<=1000000/\u.length*p.toNat<=FU)(k:P (.tup (z4 p.toNat u).flatten) S):WO (zh0 (.tup u) (.int p) S) P:= .of (by unfold zh0;show GO #[⋯,⋯,h.2.2]) k
end
section
variable{E:XK}{j:kx p8}
end
section
variable{E:XK}{F:Fm}{j:kx p8}
end
section
variable{E:XK}
def zn9(h:S[n]? =eV c):S.set n c=S:=by
 have#[hi,e]:=uT.1 h;rw[<-e];show List.set_getElem_self hi
end
section
variable{x y:Xv}
end
section
variable{E:XK}
end
section
variable{m:TwE}
end
section
variable{E:XK}
end
section
variable{x:Xv}
end
section
def zrk(K:uU)(tl:TE):TI:=λσ H R=>tl σ H λx H1=>∃a,x= .ref a/\(((∃xs,SqL K H1 a xs)/\R (Itl K a) H1)\/((∃xs,SqT K H1 a xs)/\R (Itt K a) H1))
def zgl(hl:PE X l tl)(hK:X.K=K:=by rfl):PI X tg l (zrk K tl):=by
 subst hK;intro pins s σ H R I h;show thn (hl pins s σ H _ I h) ?_;rintro v s1 ⟨x,H1,I1,r1,a,rfl,⟨⟨xs,hq⟩,q⟩|⟨⟨xs,hq⟩,q⟩⟩
 .cases r1;have#[ah,rv,p,hz]:=I1.list hq;show Gw p.isList ?_;show#[#v[s1],[#v[s1]],_,_,H1,rfl,I1.kept (t':=s1.toks) λb o e=>Heap.get?_push_of_some _ e,zeU a _,#[_,Heap.get?_push_size _ rfl,rfl,rfl],λb hb=> ?_,q];have e:b=#v[s1]:=by simpa using hb
  (subst e;exact I1.fpOk (v3 _) (I1.hok.fresh (v3 _)))
 cases r1;have#[ah,rv,p,hz]:=I1.tuple hq;show wpAny_pyIter_tuple (show s1.heap.IsTuple a ah.toArray from p) ?_;show#[#v[s1],[#v[s1]],_,_,H1,rfl,I1.kept (t':=s1.toks) λb o e=>Heap.get?_push_of_some _ e,zc1 a _,#[_,Heap.get?_push_size _ rfl,rfl,rfl],λb hb=> ?_,q];have e:b=#v[s1]:=by simpa using hb
 (subst e;exact I1.fpOk (v3 _) (I1.hok.fresh (v3 _)))
end
noncomputable def iA(m:TwE):TwI:=λρ S=>rb (m ρ S) λx S1=>match x with
 | .ref n=>(yn S1 (.ref n)).map λ_=> .ok (λS=>yn S (.ref n)) S1
 |y=>y.tupOf.map λl=> .ok (λ_=>eV l) S1
section
variable{E:XK}
set_option tactic.hygienic true in
def zk1(h:RE K E t m):RI K E (zrk K t) (iA m):=by
 walk_at "!c"
 .have mM:∀y:Xv,x=y->y.tupOf.map (λl=>Rs.ok (λ_=>eV l) S1)=eV r->t σ H (λx H1=>∃a,x= .ref a/\(((∃xs,SqL K H1 a xs)/\R (Itl K a) H1)\/((∃xs,SqT K H1 a xs)/\R (Itt K a) H1))):=by
   rintro y rfl e;cases el:x.tupOf with
   |none=>rw[el] at e;cases e
   |some l=>
    rw[el] at e;cases e;show h En0 e1 λj1 H1 X1 E1 u hu=> ?_;have#[a,vs,rfl,h1,_]:=hu.tupO el;show#[a,rfl,.inr #[#[vs,h1],k _ _ X1 E1 _ ?_]];intro F2 j2 H2 σ2 ρ2 S2 xs i X2 E2 e2;cases e2;have#[a',ws,ea,g1,g2]:=(hu.mono X2).tupO el;cases ea;show#[λy ey=> ?_,λhle=>#[ws,g1,by rw[g2.len];omega]];have#[w,f1,f2]:=g2.get ey;show#[#[ws,w,g1,f1],?_];intro v' H' #[rfl,hx];have:=hx ws g1;rw[f1] at this;cases this;show#[YS.refl _,f2]
  split at e
  .rename_i n;cases el:yn S1 (.ref n) with
   |none=>rw[el] at e;cases e
   |some l=>
    rw[el] at e;cases e;show h En0 e1 λj1 H1 X1 E1 u hu=> ?_;have#[a,vs,rfl,h1,_]:=E1.lstAt hu el;show#[a,rfl,.inl #[#[vs,h1.sql],k _ _ X1 E1 _ ?_]];intro F2 j2 H2 σ2 ρ2 S2 xs i X2 E2 e2;have#[a',ws,ea,g1,g2]:=E2.lstAt (hu.mono X2) e2;cases ea;show#[λy ey=> ?_,λhle=>#[ws,g1.sql,by rw[g2.len];omega]];have#[w,f1,f2]:=g2.get ey;show#[#[ws,w,g1.sql,f1],?_];intro v' H' #[rfl,hx];have:=hx ws g1.sql;rw[f1] at this;cases this;show#[YS.refl _,f2]
  show mM _ rfl e
 show h En0 e1 k
end
section
def zjC{Q':(Sto->pf (kx Xv))->Sto->Prop}(h:W (m ρ S) λx S1=>∃l,x= .tup l/\Q' (λ_=>eV l) S1):W (iA m ρ S) Q':=W.bind (h.imp λx S1 h=>by
 have#[l,rfl,k]:=h
 show .of rfl k)
end
end L2
namespace L2
open PyProof
open Builtin Builtin.Str
end L2
namespace L2
open PyProof
end L2
namespace L2
section
variable{E:XK}{F:Fm}{j:kx p8}
end
section
variable{E:XK}{j:kx p8}
end
section
variable{o m:TwE}{x y:Xv}
end
open PyProof
section
variable{E:XK}
end
end L2
namespace L2
theorem zfi:∀{ns:kx (Str×Gr)} {cs:kx (Str×p8)} {p:Str×p8},p∈zcB env ns cs->p∈cs\/(p.1,NameKind.free)∈ns
 |[],_,_,h=> .inl h
 |(n,k)::r,cs,p,h=>by
  unfold zcB at h;rcases zfi h with h|h
  .by_cases hk:(k== .free)=hG
   .rw[GO hk] at h;have jn:k= .free:=by simpa using hk
    cases e:env.cells.lookup n with
    |none=>rw[e] at h;show .inl h
    |some c=>
     rw[e] at h;rcases x8.mp h with rfl|h;show .inr (by rw[jn];show y6);show .inl h
   rw[GP hk] at h;show .inl h
  show .inr (w6 _ h)
set_option tactic.hygienic true in
def zjD(l:kx ph)(h:TriplesOk l):codeAmong pos (l++[Gu a,Gu b,c])=eV cv->codeAmong pos l=eV cv\/cv=c:=by
 fun_induction TriplesOk l with
 |case1=>
  intro e;simp only[DX,codeAmong,Gu] at e;split at e;cases e;show .inr rfl;cases e
 |case2 a t b u x rest ih=>
  intro e;simp only[B5,codeAmong] at e ⊢;split at e;rename_i hc;rw[GO hc];show .inl e;rename_i hc;rw[GP hc];show ih h e
 |case3 l h1 h2=>show h.elim
section
def Inv.freeze(I:Inv X pins σ H s)(hx:X.env.cells.lookup x=eV c)(hz:X.zn x=hG)(hf:X.fn x=mK):∃H' o,Inv X pins σ H' s/\YS H H'/\H' c=eV (.frz o (.own 0))/\s.heap.get? c=eV o:=by
 have#[v,o,ho,hd]:=I.cell x c hx;rcases I.freeC x c hx with hn|⟨_,o',h'⟩
 .have iq:=I.ok.cab x c (.inr hz) hx;have ne:∀b u,H b=eV u->b≠c:=λb u e z=>by rw[z,hn] at e;cases e
  show#[upd H c (.frz o (.own 0)),o,#[I.ok,I.os,I.bare,#[I.base.keep,I.base.slot,λb ob e n kK=> ?_,I.base.there,λb xs e=> ?_,λb ob u e=> ?_,λb ps e=> ?_],I.loc,I.cell,?_,λy d e=> ?_,λp hp=> ?_,λb u e=> ?_,I.len],wI hn,zW,ho];rw[zS (z8 (z6 (Heap.lt_size e) iq))];show I.base.free b ob e n kK;have:=I.base.tups b xs e;rw[zS (ne b _ this)];show this;have:=I.base.frzs b ob u e;rw[zS (ne b _ this)];show this;have#[m,q]:=I.base.tbls b ps e;show#[m,by rw[zS (ne b _ q)];show q];rw[zS (AX (I.cne x c hx))];show I.free;by_cases qg:d=c;subst qg;obtain rfl:=I.ok.inj y x d e hx;show .inr #[hf,o,zW];rw[zS qg];show I.freeC y d e;have#[e,n,r1,r2,r3]:=I.pin p hp;show#[e,?_,r1,r2,r3];rw[zS];show n;intro q;rw[q,ho] at e;cases e;show r3 v hd;by_cases hb:b=c;subst hb;rw[zW] at e;cases e;show#[ho,o,ho]
  rw[zS hb] at e;show(I.hok b u e).stay (λ_ _ _ q=>q) (λd q=>by rw[zS (ne d _ q)];show q) λd xs q=>by rw[zS (ne d _ q)];show q
 show#[H,o',I,λ_ _ e=>e,h',(I.hok c _ h').1]
theorem Inv.freezeL(I:Inv X pins σ H s):∀(l:kx (Str×p8)),(∀p∈l,X.env.cells.lookup p.1=eV p.2/\X.zn p.1=hG/\X.fn p.1=mK)->∃H',Inv X pins σ H' s/\YS H H'/\∀p∈l,∃o,H' p.2=eV (.frz o (.own 0))/\s.heap.get? p.2=eV o
 |[],_=>#[H,I,λ_ _ e=>e,λp hp=>nomatch hp]
 |p::r,h=>by
  have#[H1,I1,S1,f1]:=I.freezeL r λq hq=>h q (w6 _ hq);have#[a1,a2,a3]:=h p y6;have#[H2,o,I2,S2,e1,e2]:=I1.freeze a1 a2 a3;show#[H2,I2,λb u e=>S2 b u (S1 b u e),λq hq=> ?_];rcases x8.mp hq with rfl|hq;show#[o,e1,e2];have#[o',e3,e4]:=f1 q hq;show#[o',S2 _ _ e3,e4]
def Inv.lamMade{P c f:p8}(I:Inv X pins σ H s)(hP:H P=eV (.tbl ps))(hx:∀b o,b≠P->s.heap.get? b=eV o->h'.get? b=eV o)
  (ql:h'.get? P=eV (C9 (ps++more))) (hc:#v[s]<=c) (kj:h'.get? c=eV oc) (hf:#v[s]<=f) (jP:h'.get? f=eV fo) (uL:c≠f):
  Inv X pins σ (upd (upd (upd H P (.tbl (ps++more))) c (.frz oc (.own 0))) f (.frz fo (.own 0))) {s with heap:=h',toks:=t'}:=by
 have lX:P<#v[s]:=(I.hok P _ hP).lt;have gt:∀a b:Nat,a<#v[s]->#v[s]<=b->b≠a:=λa b h1 h2=>by omega
 have cP:c≠P:=gt P c lX hc;have fP:f≠P:=gt P f lX hf;have old:∀b,b<#v[s]->b≠P->upd (upd (upd H P (.tbl (ps++more))) c (.frz oc (.own 0))) f (.frz fo (.own 0)) b=H b:=λb hb hp=>by
  rw[zS (AX (gt b f hb hf)),zS (AX (gt b c hb hc)),zS hp]
 have kI:∀b u,H b=eV u->b<#v[s]:=λb u e=>(I.hok b u e).lt;have u9:upd (upd (upd H P (.tbl (ps++more))) c (.frz oc (.own 0))) f (.frz fo (.own 0)) P=eV (.tbl (ps++more)):=by
  rw[zS (AX fP),zS (AX cP),zW]
 have nP:∀b,H b=gi->b≠P:=λb n z=>by rw[z,hP] at n;cases n
 show I.step (g':=s.gens) (d':=s.drawn) (ch:=[]) (λ_ z=>nomatch z) (λb o _ _ _ e n=>hx b o (nP b n) e) (λb o _ _ _ e n=>#[o.slots,hx b o (nP b n) e]) (λb o _ e n=>by rw[old b (Heap.lt_size e) (nP b n)];show n)
  (λb o _ e=> ?_) (λb xs e=> ?_) (λb o u e=> ?_) (λb qs e=> ?_) (λm hm=> ?_) (λb u e=> ?_) I.bare
 .by_cases hb:b=P;subst hb;show#[_,ql];show#[o,hx b o hb e]
 .rw[old b (kI b _ e) (λz=>by rw[z,hP] at e;cases e)];show e
 .rw[old b (kI b _ e) (λz=>by rw[z,hP] at e;cases e)];show e
 .by_cases hb:b=P;subst hb;rw[hP] at e;cases e;show#[more,u9];show#[[].toArray,by rw[old b (kI b _ e) hb,e];simp]
 .obtain⟨o,es,ep,ho,r⟩:=hm;show#[o,es,ep,hx _ o (nP _ I.free) ho,r]
 by_cases h1:b=f;subst h1;rw[zW] at e;cases e;show#[jP,fo,jP];rw[zS h1] at e;by_cases h2:b=c;subst h2;rw[zW] at e;cases e;show#[kj,oc,kj];rw[zS h2] at e;by_cases h3:b=P;subst h3;rw[zW] at e;cases e;show ql;rw[zS h3] at e;show(I.hok b u e).stay (λd o q r=>hx d o ?_ r) (λd q=> ?_) λd xs q=> ?_;rcases q with q|q;rw[q];show h3;intro z;rw[z,hP] at q;cases q;rw[old d (kI d _ q) (λz=>by rw[z,hP] at q;cases q)];show q;rw[old d (kI d _ q) (λz=>by rw[z,hP] at q;cases q)];show q
end
structure zst(X:Cx)(sc:Scope)(fr:kx Str)(is:kx Nat):Prop where
 blk:zfT X sc
 fre:∀(i:Nat) x,fr[i]? =eV x->sc.names.lookup x=eV .free/\∃k,is[i]? =eV k/\X.N[k]? =eV x
 all:∀y∈sc.names,y.2= .free->X.zn y.1=hG/\X.fn y.1=mK
def zsu(L:xD)(P:p8)(is:kx Nat):TE:=λσ H Q=>∃(ps:Array ph) (vs:kx V),H P=eV (.tbl ps)/\TriplesOk ps.toList/\(∀pos cv,codeAmong pos ps.toList=eV cv->∃c,cv= .ref c/\TV H L.q c)/\
 is.map (λi=>(σ[i]?).join)=vs.map eV/\
 ∀f ps' H',YS (upd H P (.tbl ps')) H'->TriplesOk ps'.toList->(∀pos cv,codeAmong pos ps'.toList=eV cv->∃c,cv= .ref c/\TV H' L.q c)->zdl H' L f vs->Q (.ref f) H'
def zsv{id:Nat}{par:Arguments}{body:Expr}{sc:Scope}{pos:Pos}{tn:Ul}{fr:kx Str}{is:kx Nat}{c P:p8}(S:zst X sc fr is)(hq:X.env.qual=tn.d++".<locals>.")(gy:X.env.code= .ref c)(hC:Cb X.K c P=hG)
  (jR:defaultsOf par X.env=([],[]):=by rfl):PE X (.Lambda par body sc pos) (zsu #[id,par,body,sc,tn,fr] P is):=by
 have hq:X.env.qual++"<lambda>"=tn.q:=by rw[hq];rfl
 generalize nQ:tn.q=q at hq;intro pins s σ H Q I hh;have#[ps,vs,hP,ht,gx,nF,k]:=hh;simp only[xD.q,nQ] at gx k;have mF:s.heap.get? P=eV (C9 ps):=I.hok P _ hP;have hg:s.heap.Ns FV X.mg:=I.mod.glob.keeps I.bk;have sO:FV≠P:=λz=>by
  have#[o,es,ep,e,hd,_]:=hg;rw[z,mF] at e;cases e;cases hd
 have C:PySem.W.CodeHd s.heap c P:=EB I.kIn hC;have hb:s.heap.BuiltinsAt X.mg P:=by
  have#[bm,ob,b1,b2,b3,b4,b5,b6]:=I.mod.bmn;have b3:=I.bk _ _ b3;show#[bm,ob,b1,b2,λz=> ?_,λz=> ?_,b3,b4,b5,b6];have#[o,es,ep,e,hd,_]:=hg;rw[z,e] at b3;cases b3;rw[hd] at b6;cases b6;rw[z,mF] at b3;cases b3;cases b4
 have fin:∀(f c':p8) (pm dY:ph) (ps':Array ph) (H1:Hp) (s1:pA),Inv X pins σ H1 s1->YS (upd H P (.tbl ps')) H1->TriplesOk ps'.toList->(∀pos cv,codeAmong pos ps'.toList=eV cv->∃c,cv= .ref c/\TV H1 q c)->
   H1 f=eV (.frz (Bn "<lambda>" q par body sc (Vb sc X.env) pm c' dY) (.own 0))->TV H1 q c'->EP X pins σ Q (.ref f) s1:=by
  intro f c' pm dY ps' H1 s1 I1 S1 t1 c1 hf iH;have cl:∀p∈Vb sc X.env,X.env.cells.lookup p.1=eV p.2/\X.zn p.1=hG/\X.fn p.1=mK:=λp hp=>by
   show#[zc9 (cs:=[]) (λp hp=>nomatch hp) p hp,?_];rcases zfi hp with z|z;cases z;show S.all _ z rfl
  have#[H2,I2,S2,f2]:=I1.freezeL (Vb sc X.env) cl;show#[.ref f,H2,I2,rfl,k f ps' H2 (λb u e=>S2 b u (S1 b u e)) t1 (λp cv e=> ?_) #[Vb sc X.env,pm,dY,c',by rw[show xD.q #[id,par,body,sc,tn,fr]=q from nQ];show S2 _ _ hf,by rw[show xD.q #[id,par,body,sc,tn,fr]=q from nQ];show iH.mono (vB.same S2),λi x v e1 e2=> ?_,λx y a e1 e2=> ?_,λy hy e=> ?_,λx a e=> ?_]];have#[d,e1,e2]:=c1 p cv e;show#[d,e1,e2.mono (vB.same S2)]
  .obtain⟨h1,n,h2,h3⟩:=S.fre i x e1;have hm:(x,NameKind.free)∈sc.names:=A8 h1;have hs:σ[n]? =eV (eV v):=by
    have e:=congrArg (λl=>l[i]?) nF;simp only[uY,h2,e2,Bd,Ar] at e;cases q:σ[n]? with
    |none=>rw[q] at e;cases e
    |some z=>rw[q] at e;show congrArg eV e
   have#[m,hn,hl]:=I2.loc;have hk:=S.blk.free _ hm rfl;have#[u,r,l]:=hl n x v h3 hs (by rcases hk with k|k;show .inr (.inl k);show .inr (.inr k));rcases l with⟨k',_⟩|⟨_,a,ha,o,ho,hd⟩
   .rcases hk with k''|k'';rw[k'] at k'';cases k'';rw[k'] at k'';cases k''
   have lx:(Vb sc X.env).lookup x=eV a:=zda hm ha;have#[o',e3,e4]:=f2 (x,a) (A8 lx);rw[ho] at e4;cases e4;show#[a,o,u,lx,e3,hd,r]
  .show I1.ok.inj x y a (WI e1) (WI e2)
  .obtain⟨a,ha⟩:=I1.ok.has y.1 (S.blk.free y hy e);show#[a,zda (by rw[<-e];show hy) ha]
  have#[o,e3,e4]:=f2 (x,a) (A8 e);have#[u,o',e5,hd]:=I2.cell x a (WI e);rw[e4] at e5;cases e5;show#[o,u,e3,hd]
 show PySem.W.kla_eval jR ?_;rw[hq];cases oC:codeAmong pos ps.toList with
 |none=>
  show PySem.W.kla_makeFunction (I.closure S.blk) I.ok.glob hg gy C mF ht oC sO hb λc' dY h' tk hx mr gL nO rV=> ?_;have#[c₂,oc,fs,t,e2,mj,hd,hv]:=nO;cases e2;have I1:=I.lamMade (t':=tk) (h':=h'.push (Bn "<lambda>" q par body sc (Vb sc X.env) ((X.mg "__name__").getD .none) c' dY)) (fo:=Bn "<lambda>" q par body sc (Vb sc X.env) ((X.mg "__name__").getD .none) c' dY) (more:= [Gu pos.line,Gu pos.col,.ref c'].toArray) hP (λb o gY e=>Heap.get?_push_of_some _ (hx b o gY e)) (Heap.get?_push_of_some _ rV) mr (Heap.get?_push_of_some _ mj) (v7 mr (A3 gL)) (Heap.get?_push_size _ rfl) (z8 gL);have lX:P<#v[s]:=(I.hok P _ hP).lt;have S1:YS (upd H P (.tbl (ps++ [Gu pos.line,Gu pos.col,.ref c'].toArray))) (upd (upd (upd H P (.tbl (ps++ [Gu pos.line,Gu pos.col,.ref c'].toArray))) c' (.frz oc (.own 0))) h'.objs.size (.frz (Bn "<lambda>" q par body sc (Vb sc X.env) ((X.mg "__name__").getD .none) c' dY) (.own 0))):=λb u e=>by
   have gY:b<#v[s]:=by
    by_cases gY:b=P;rw[gY];show lX;rw[zS gY] at e;show(I.hok b u e).lt
   rw[zS (z8 (z6 gY (v7 mr (A3 gL)))),zS (z8 (z6 gY mr))];show e
  have mC:TV (upd (upd (upd H P (.tbl (ps++ [Gu pos.line,Gu pos.col,.ref c'].toArray))) c' (.frz oc (.own 0))) h'.objs.size (.frz (Bn "<lambda>" q par body sc (Vb sc X.env) ((X.mg "__name__").getD .none) c' dY) (.own 0))) q c':=#[oc,fs,t,by rw[zS (z8 gL),zW],hd,hv];show fin _ c' _ dY _ _ _ I1 S1 (by rw[De];show TriplesOk_snoc _ _ _ _ ht) (λp cv e=> ?_) zW mC;rw[De] at e;rcases zjD ps.toList ht e with e|rfl;have#[d,e1,oc',fs',t',e2,r]:=gx p cv e;show#[d,e1,oc',fs',t',S1 _ _ ?_,r];rw[zS (λz=>by rw[z,hP] at e2;cases e2)];show e2;show#[c',rfl,mC]
 |some cv=>
  have#[c',rfl,mC]:=gx pos cv oC;show PySem.W.kla_makeFunctionHit (I.closure S.blk) I.ok.glob hg gy C mF ht oC hb λdY h' tk hk hsz=> ?_;have mv:H h'.objs.size=gi:=I.hok.fresh hsz;have I1:=I.laid (t':=tk) (a:=h'.objs.size) (o:= .frz (Bn "<lambda>" q par body sc (Vb sc X.env) ((X.mg "__name__").getD .none) c' dY) (.own 0)) (λb o e=>Heap.get?_push_of_some _ (hk b o e)) hsz #[Heap.get?_push_size _ rfl,_,Heap.get?_push_size _ rfl];have S1:YS H (upd H h'.objs.size (.frz (Bn "<lambda>" q par body sc (Vb sc X.env) ((X.mg "__name__").getD .none) c' dY) (.own 0))):=wI mv;show fin _ c' _ dY ps _ _ I1 (λb u e=>S1 b u ?_) ht (λp cv e=> ?_) zW (mC.mono (vB.same S1));by_cases gY:b=P;subst gY;rw[zW] at e;cases e;show hP;rw[zS gY] at e;show e;have#[d,e1,e2]:=gx p cv e;show#[d,e1,e2.mono (vB.same S1)]
noncomputable def zfj(P:Program)(w:World)(K:uU)(mg:Str->pf ph)(base:Heap)(N:kx Str)(L:xD)(aZ:kx (Str×p8))(f c:p8)(A:Around)(outer:kx Env)(s:pA)(H:Hp):Cx where
 prog:=P
 w:=w
 K:=K
 mg:=mg
 base:=base
 A:=A.deeper (DJ L.q L.sc #v[s] f (.ref c) aZ)
 N:=N
 s₀:=s
 H₀:=H
 env:=DJ L.q L.sc #v[s] f (.ref c) aZ
 outer:=outer
 stack:=DJ L.q L.sc #v[s] f (.ref c) aZ::outer
 ex:=[]
 calm:=hG
 fn:=λ_=>mK
 zn:=λ_=>mK
 pn:=[]
 xe:=λ_ _=>False
structure zh2(ps fr:kx Str)(sc:Scope):Prop where
 kind:sc.kind= .function
 co:sc.isCoroutine=mK
 gen:sc.isGenerator=mK
 nd:ps.Nodup
 par:∀x∈ps,sc.names.lookup x=eV .local
 fre:∀x∈fr,sc.names.lookup x=eV .free
 noc:∀y∈sc.names,y.2≠ .cell
theorem za2:∀{l:kx (Str×ph)},(l.map (·.1)).Nodup->(x,u)∈l->l.lookup x=eV u
 |[],_,h=>by cases h
 |(y,v)::r,nd,h=>by
  rw[y8,Bc] at nd;rw[AA];rcases x8.mp h with h'|h';cases h';simp
  have:x≠y:=by
   intro z;subst z;show nd.1 (Ad.mpr #[_,h',rfl])
  rw[show(x==y)=mK by simpa using this];show za2 nd.2 h'
def zoa{ps:kx Str}{us:kx ph}{i:Nat}{x:Str}{u:ph}(nd:ps.Nodup)(hl:us.length=ps.length)(h1:ps[i]? =eV x)(h2:us[i]? =eV u):(ps.zip us).reverse.lookup x=eV u:=by
 show za2 ?_ (List.mem_reverse.mpr (uX (i:=i) ?_));rw[Ff,(List.reverse_perm _).nodup_iff,List.map_fst_zip ⋯];show nd;rw[Ck];show#[h1,h2]
def CL(outer:kx Env)(P:Program)(w:World)(H:Hp)(s:pA)(Q:VK)(r:Result)(s':pA):Prop:=match r with
 | .ok (.ret u)=>CE outer P w H s Q u s'
 |_=>False
def zqb{P:Program}{mg:Str->pf ph}(S:zh2 ps L.fr L.sc)
  (hb:∀(aZ:kx (Str×p8)) (pm dY:ph) (c:p8) (us:kx ph),us.length=ps.length->bindArgs (Fz "<lambda>" L.q L.par L.body L.sc aZ pm (.ref c) dY) #[us,[]]=pure (ps.zip us)) {us:kx ph} {Q:VK} (hr:wC (k+1) A) (e0:zei P w K mg base A outer s H) (hL:zdl H L f vs) (rN:vs.length=L.fr.length) (r:ym as us) (hl:as.length=ps.length)
  (dB:∀(aZ:kx (Str×p8)) (c:p8),wC k (zfj P w K mg base (ps++L.fr) L aZ f c A outer s H).A->∃t,PE (zfj P w K mg base (ps++L.fr) L aZ f c A outer s H) L.body t/\t ((as++vs).map eV) H Q):
  GL (model P w) A (.call (.ref f) #[us,[]]) (CL outer P w H s Q) s:=by
 have#[aZ,pm,dY,c,h1,#[oc,fs,t,sY,iY,sX],h3,h4,h5,h6]:=hL.ex;have jP:=(e0.hok f _ h1).1;have kj:=(e0.hok c _ sY).1;have lim:s.heap.NoLimit:=e0.mod.nolimit.keeps λb o e=>(e0.bs b o e).1;have kN:us.length=ps.length:=by rw[<-r.length];show hl
 show PySem.W.kla_callFunE hr.depth jP rfl S.co S.gen rfl #[c,oc,fs,t,rfl,kj,iY,sX] ?_;rw[hb aZ pm dY c us kN];show uh (wpAny_newFunctionEnv S.noc (λy hy=>S.par _ (BX hy).1) (λh₁ dX iR=>#[lim.fresh _ iR,?_]) S.kind);change GL _ _ (.expr L.body (DJ L.q L.sc #v[s] f (.ref c) aZ)) _ _;have hk:∀b o,s.heap.get? b=eV o->h₁.get? b=eV o:=λb o e=>iR.extBut b o (z8 (Heap.lt_size e)) (Heap.get?_push_of_some _ e);have iK:∀b:p8,b∉(zfj P w K mg base (ps++L.fr) L aZ f c A outer s H).ex:=λb z=>absurd (show b∈([]:kx p8) from z) (by simp);have I:Inv (zfj P w K mg base (ps++L.fr) L aZ f c A outer s H) [] ((as++vs).map eV) H {s with heap:=h₁,toks:=s.toks+(ps.zip us).length}:=by
  show#[#[e0.mod,S.kind,rfl,rfl,v3 _,λy z a e1 e2=>h4 y z a e1 e2,λy hy=> ?_,λy a z _=>(z.elim (λz=>CU z) λz=>CU z),λ_=>hr.hd,Around.frames_deeper e0.frames,.inr #[rfl,rfl],λb z=>absurd z (iK b),e0.bs,e0.bsz,λb _ _=>iK b,λb z=>absurd z (iK b),e0.funs,e0.frf],
   rfl,e0.bare,Un.kept hk,#[_,dX,λi y v e1 e2 e3=> ?_],λy a e=> ?_,e0.hok.fresh (v3 _),λy a e=> ?_,λp hp=>absurd (show p∈([]:kx (p8×Obj)) from hp) (by simp),e0.hok.kept hk,?_]
  .have hy:L.sc.names.lookup y=eV .cell\/L.sc.names.lookup y=eV .free:=hy;rcases hy with hy|hy;show absurd rfl (S.noc _ (A8 hy));show h5 _ (A8 hy) rfl
  .have e1:(ps++L.fr)[i]? =eV y:=e1;rw[uY,y3] at e2;have#[v',e2,lH]:=e2;cases lH;by_cases hi:i<ps.length;rw[v5 hi] at e1;rw[v5 ⋯] at e2;have#[u,hu,rv]:=r.get e2;show#[u,rv,.inl #[S.par y (uX e1),zoa S.nd kN e1 hu]];rw[w5 ⋯] at e1;rw[w5 ⋯,hl] at e2;have#[a,o,u,g1,g2,g3,g4]:=h3 _ _ _ e1 e2;show#[u,g4,.inr #[.inr (S.fre y (uX e1)),a,g1,o,hk _ _ (e0.hok a _ g2).1,g3]]
  .obtain⟨o,u,g2,g3⟩:=h6 y a e;show#[u,o,hk _ _ (e0.hok a _ g2).1,g3]
  .obtain⟨o,u,g2,g3⟩:=h6 y a e;show .inr #[rfl,o,g2]
  change _=(ps++L.fr).length;rw[uZ,y7,y7,hl,rN]
 have#[tt,ht,hq]:=dB aZ c (hr.deeper _);show PySem.W.kla_codeExpr (Gi (ht [] _ _ H Q I hq) (λu s' hs=> ?_) λe s' z=>Au z);have#[v,H',J,rv,q]:=hs;show#[v,H',J.os,J.bare,J.base,J.hok,rv,q]
def FnG(H:Hp)(x:V)(f:p8):Prop:=x= .ref f/\∃(fd:Gn),H f=eV (.frz {cls:= .type "function",data:= .func fd} (.own 0))
def ztW(P:Program)(w:World)(K:uU)(mg:Str->pf ph)(base:Heap)(k:Nat)(R:V->kx V->Hp->VK->Prop):Prop:=
 ∀(A:Around) (outer:kx Env) (s:pA) (H:Hp) (f:p8) (as:kx V) (us:kx ph) (Q:VK),wC k A->zei P w K mg base A outer s H->ym as us->R (.ref f) as H Q->GL (model P w) A (.call (.ref f) #[us,[]]) (CL outer P w H s Q) s
def zob(i:Nat)(R:V->kx V->Hp->VK->Prop)(t:TA):TE:=λσ H Q=>∃x f,σ[i]? =eV (eV x)/\FnG H x f/\t σ H λas H2=>FnG H2 x f/\R x as H2 Q
def FnG.at{P:Program}(g:FnG H x f)(hok:HOk P w H h):PySem.W.FnAt f h:=by
 have#[_,fd,e]:=g;show#[_,_,_,_,(hok f _ e).1]
def zdE{i k:Nat}{x:Str}{p pos:Pos}{e:Expr}{es:kx Expr}{t:TA}{R:V->kx V->Hp->VK->Prop}(hN:X.N[i]? =eV x)(hv:Vis X.env.scope x)(F:ztW X.prog X.w X.K X.mg X.base k R)(hr:wC k X.A)(ha:PA X (e::es) t)
  (hd:(x==("__debug__":Str))=mK:=by decide) (dI:(x==("__classdict__":Str))=mK:=by decide) (he:FW (e::es) X.env=(mK,eval e X.env)::FW es X.env:=by rfl) (fJ:(backTo pos (FW es X.env)).any (·.1)=mK:=by rfl):
  PE X (.Call (.Name x p) (e::es) [] pos) (zob i R t):=by
 intro pins s σ H Q I h;have#[v,f,hs,hf,ht]:=h;have#[rfl,_]:=id hf;show Gj ?_;have hx:= @zms X i x p hN hv hd dI pins s σ H (λy H1=>y= .ref f/\H1=H) I #[.ref f,hs,rfl,rfl];show thn hx ?_;intro u s1 #[y,H1,I1,r1,e1,e2];subst e1;rw[e2] at I1;obtain rfl:u=Value.ref f:=r1;show PySem.W.callWith_F (hf.at I1.hok) (thn (ha pos pins s1 σ H _ I1 ht) ?_) he fJ;intro us s2 #[as,H2,I2,r2,f6,q2];show#[f6.at I2.hok,?_];show wpAny_call (codeAny_mono (F X.A X.stack s2 H2 f as us Q hr I2.env0 r2 q2) λr s' hq=> ?_);cases r with
 |error e=>show Au hq
 |ok fl=>
  cases fl with
  |ret u=>show I2.after hq
  |next=>show Au hq
  |brk=>show Au hq
  |cont=>show Au hq
noncomputable def zjE(ρ:Rho):kx Nat->pf (kx Xv)
 |[]=>eV []
 |i::r=>(ρ[i]?).join.bind λx=>(zjE ρ r).map (x:: ·)
noncomputable def zcD(L:xD)(n:Nat)(is:kx Nat):TwE:=λρ S=>match S[n]? with
 |some (.tab t)=> @ite _ (t=L.t) (Cw _) ((zjE ρ is).map λxs=> .ok (.lam L xs) S) gi
 |_=>gi
noncomputable def YZ:kx (xD×(kx Xv->TwF))->xD->pf (kx Xv->TwF)
 |[],_=>gi
 |(M,t)::r,L=> @ite _ (M=L) (Cw _) (eV t) (YZ r L)
noncomputable def zak(fns:kx (xD×(kx Xv->TwF)))(i:Nat)(ms:kx TwE):TwE:=λρ S=>match (ρ[i]?).join with
 |some (.lam L b7)=>rb (evL ms ρ S) λxs S1=>(YZ fns L).bind λtw=>match tw b7 xs S1 with
  |some (.ok x S2)=>eV (.ok x S2)
  |_=>gi
 |_=>gi
noncomputable def zcE(n m:Nat)(e:TwE):kx Xv->TwF:=λb7 xs S=>if xs.length=n/\b7.length=m then e ((xs++b7).map eV) S else gi
section
variable{E:XK}
def XJ{t:kx Xv->TwF}{r:kx (xD×(kx Xv->TwF))}:YZ ((L,t)::r) L=eV t:=by unfold YZ;show GO rfl
def Vk{t:kx Xv->TwF}{r:kx (xD×(kx Xv->TwF))}(h:M.id≠L.id):YZ ((M,t)::r) L=YZ r L:=by
 rw[YZ];show GP λz=>h (congrArg xD.id z)
theorem zh3{t:kx Xv->TwF}:∀{fns:kx (xD×(kx Xv->TwF))},YZ fns L=eV t->(L,t)∈fns
 |[],h=>by cases h
 |(M,u)::r,h=>by
  unfold YZ at h;by_cases e:M=L;rw[GO e] at h;cases h;rw[e];show y6;rw[GP e] at h;show w6 _ (zh3 h)
def En.writeS(E1:En K F j H σ ρ S)(hs:S[n]? =eV c)(z:c.fz=mK)(hj:j[n]? =eV a)(Sm:YS (upd H a o) H')(hc:zdm K j H' a c'):En K F j H' σ ρ (S.set n c')/\Ext j H j H':=by
 have#[o0,h0,m0]:=(E1.cel n c a hs hj).mu z;have S1:YS H (upd H' a o0):=λb u e=>by
  by_cases hb:b=a;subst hb;rw[zW];rw[h0] at e;show e;rw[zS hb];show Sm b u (by rw[zS hb];show e)
 have e2:upd (upd H' a o0) a o=H':=by
  funext b;by_cases hb:b=a;subst hb;rw[zW];show(Sm b o zW).symm;rw[zS hb,zS hb]
 have E2:=E1.heap S1;have#[E3,X3]:=E2.writeF (o:=o) (c':=c') hs z hj (λX=>by rw[e2];show hc);rw[e2] at E3 X3;show#[E3,(Ext.same S1).trans X3]
theorem zh4(E1:En K F j H σ ρ S):∀{is:kx Nat} {xs:kx Xv},zjE ρ is=eV xs->∃vs,is.map (λi=>(σ[i]?).join)=vs.map eV/\yr K j H xs vs
 |[],xs,h=>by cases h;show#[[],rfl,.nil]
 |i::r,xs,h=>by
  unfold zjE at h;cases e:(ρ[i]?).join with
  |none=>rw[e] at h;cases h
  |some x=>
   rw[e] at h;dsimp only[C4] at h;cases e2:zjE ρ r with
   |none=>rw[e2] at h;cases h
   |some ys=>
    rw[e2] at h;cases h;have#[vs,h1,h2]:=zh4 E1 e2;have e':ρ[i]? =eV (eV x):=by
     cases q:ρ[i]? with
     |none=>rw[q] at e;cases e
     |some z=>rw[q] at e;show congrArg eV e
    have#[v,h3,h4]:=E1.slot i x e';show#[v::vs,by simp[h3,h1],.cons h4 h2]
set_option tactic.hygienic true in
def Ur{c P:p8}(hP:vD K L.t=eV (c,P)):RE K E (zsu L P is) (zcD L n is):=by
 intro F j σ H ρ S r Q En0 e k;unfold zcD at e;split at e
 .rename_i t es;by_cases ht:t=L.t
  .rw[GO ht] at e;subst ht;cases e2:zjE ρ is with
   |none=>rw[e2] at e;cases e
   |some xs=>
    rw[e2] at e;cases e;have hn:n<j.length:=by rw[En0.jl];show(uT.1 es).1
    have hj:j[n]? =eV j[n]:=uV hn;have#[ps,d,hH,htk,ia,gx]:=En0.cel n _ _ es hj;rw[hP] at htk;cases htk;have#[vs,h1,h2]:=zh4 En0 e2;show#[ps,vs,hH,ia,gx,h1,λf ps' H' Sm t' c' la=> ?_];have#[E2,X2]:=En0.writeS (c':= .tab L.t) es rfl hj Sm #[ps',c,Sm _ _ zW,hP,t',c'];have nM:S.set n (.tab L.t)=S:=by
     apply C8;intro m;rw[Ai];split;rename_i q;subst q;rw[GO (uT.1 es).1,es];rfl
    rw[nM] at E2;show k _ _ X2 E2 _ (.lam la (h2.mono X2))
  rw[GP ht] at e;cases e
 cases e
def ztX(K:uU)(fns:kx (xD×(kx Xv->TwF))):V->kx V->Hp->VK->Prop:=λx as H Q=>∃(j:kx p8) (S S':Sto) (xs b7:kx Xv) (L:xD) (tw:kx Xv->TwF) (z:Xv),
 En K #[H,j,S] j H (as.map eV) (xs.map eV) S/\Xis K j H (.lam L b7) x/\YZ fns L=eV tw/\tw b7 xs S=eV (.ok z S')/\∀v j' H' σ ρ,En K #[H,j,S] j' H' σ ρ S'->Xis K j' H' z v->Q v H'
def ZX(P:Program)(w:World)(K:uU)(mg:Str->pf ph)(base:Heap)(k:Nat)(L:xD)(tw:kx Xv->TwF):Prop:=∀(A:Around) (outer:kx Env) (s:pA) (H:Hp) (f:p8) (vs as:kx V) (us:kx ph) (Q:VK) (j:kx p8) (S S':Sto) (xs b7:kx Xv) (z:Xv),
 wC k A->zei P w K mg base A outer s H->zdl H L f vs->yr K j H b7 vs->ym as us->En K #[H,j,S] j H (as.map eV) (xs.map eV) S->tw b7 xs S=eV (.ok z S')->
 (∀v j' H' σ ρ,En K #[H,j,S] j' H' σ ρ S'->Xis K j' H' z v->Q v H')->GL (model P w) A (.call (.ref f) #[us,[]]) (CL outer P w H s Q) s
def ZX.mono{P:Program}{mg:Str->pf ph}{tw:kx Xv->TwF}(h:ZX P w K mg base i L tw)(hk:i<=k):ZX P w K mg base k L tw:=
 λA outer s H f vs as us Q j S S' xs b7 z hr=>h A outer s H f vs as us Q j S S' xs b7 z (hr.mono hk)
def zgm{P:Program}{mg:Str->pf ph}{fns:kx (xD×(kx Xv->TwF))}(h:∀p∈fns,ZX P w K mg base k p.1 p.2):ztW P w K mg base k (ztX K fns):=by
 intro A outer s H f as us Q hr e0 r #[j,S,S',xs,b7,L,tw,z,E1,hx,hp,ht,q];cases hx with
 |lam la l=>show h (L,tw) (zh3 hp) A outer s H f _ as us Q j S S' xs b7 z hr e0 la l r E1 ht q
set_option tactic.hygienic true in
def Us{P:Program}{mg:Str->pf ph}(Sc:zh2 ps L.fr L.sc)(hn:ps.length=n)(hm:L.fr.length=mm)
  (hb:∀(aZ:kx (Str×p8)) (pm dY:ph) (c:p8) (us:kx ph),us.length=ps.length->bindArgs (Fz "<lambda>" L.q L.par L.body L.sc aZ pm (.ref c) dY) #[us,[]]=pure (ps.zip us))
  (pY:∀(aZ:kx (Str×p8)) (f c:p8) (A:Around) (outer:kx Env) (s:pA) (H:Hp),wC k (zfj P w K mg base (ps++L.fr) L aZ f c A outer s H).A->∃t,PE (zfj P w K mg base (ps++L.fr) L aZ f c A outer s H) L.body t/\RE K E0 t m):
  ZX P w K mg base (k+1) L (zcE n mm m):=by
 intro A outer s H f vs as us Q j S S' xs b7 z hr e0 la l r E1 ht q;unfold zcE at ht;split at ht
 .rename_i hl;have iI:as.length=xs.length:=by have:=E1.len;simpa using this
  show zqb Sc hb hr e0 la (by rw[l.len,hl.2,hm]) r (by rw[iI,hl.1,hn]) λaZ c mh=> ?_;have#[t,h1,h2]:=pY aZ f c A outer s H mh;show#[t,h1,h2 (E1.slots (σ':=(as++vs).map eV) (ρ':=(xs++b7).map eV) (by simp[iI,l.len]) λi x e=> ?_) ht λj' H' X E' v hv=>q _ _ _ _ _ E' hv];rw[uY,y3] at e;have#[y,e,e']:=e;cases e';by_cases hi:i<xs.length;rw[v5 hi] at e;have#[v,h3,h4]:=E1.slot i x (by rw[uY,e];rfl);rw[uY,y3] at h3;have#[v',h3,oM]:=h3;cases oM;show#[v,by rw[uY,v5 ⋯,h3];rfl,h4];rw[w5 ⋯] at e;have#[v,h3,h4]:=l.get e;show#[v,by rw[uY,w5 ⋯,iI,h3];rfl,h4]
 cases ht
set_option tactic.hygienic true in
def zdF{fns:kx (xD×(kx Xv->TwF))}(h:RL K E t (evL ms)):RE K E (zob i (ztX K fns) t) (zak fns i ms):=by
 intro F j σ H ρ S r Q En0 e k;unfold zak at e;split at e
 .rename_i L b7 er;have e':ρ[i]? =eV (eV (.lam L b7)):=by
   cases q:ρ[i]? with
   |none=>rw[q] at er;cases er
   |some z=>rw[q] at er;show congrArg eV er
  have#[v,e1,hx]:=En0.slot i _ e';have kK:=hx;cases hx with
  | @lam f vs _ _ la l=>
   have#[aZ,pm,dY,c,h1,_]:=la.ex;show#[.ref f,f,e1,#[rfl,_,h1],?_];rcases zI e with⟨xs,S1,e2,e⟩|⟨c,S1,e2,rfl⟩
   .show h En0 e2 λj1 H1 X1 E1 as hv=>#[#[rfl,_,X1.imm _ _ h1 rfl],?_];cases hp:YZ fns L with
    |none=>rw[hp] at e;cases e
    |some tw=>
     rw[hp] at e;dsimp only[C4] at e;split at e;rename_i x S2 e3;cases e;have#[l1,s1]:=zdr hv;show#[j1,S1,S2,xs,b7,L,tw,x,E1.enter l1 s1,kK.mono X1,hp,e3,λv j' H' σ' ρ' Ex hz=> ?_];have#[E2,X2]:=E1.leave Ex;show k j' H' (X1.trans X2) E2 v hz;cases e
   show h En0 e2 k
 cases e
def Ut(h:S[n]? =eV (.tab L.t))(hc:zjE ρ is=eV xs)(k:P (.lam L xs) S):W (zcD L n is ρ S) P:= .of (by
 unfold zcD;rw[h];dsimp only;rw[GO rfl,hc]
 rfl) k
def zdG{fns:kx (xD×(kx Xv->TwF))}{tw:kx Xv->TwF}(h:ρ[i]? =eV (eV (.lam L b7)))(hp:YZ fns L=eV tw)(k:W (evL ms ρ S) λxs S1=>W (tw b7 xs S1) P):W (zak fns i ms ρ S) P:=by
 unfold zak;rw[h];dsimp only[Option.join];show W.bind (k.imp λxs S1 k=> ?_);rw[hp];have#[x,S2,e,k]:=k;dsimp only[C4];rw[e];show .of rfl k
def XL(h1:xs.length=n)(h2:b7.length=m)(k:W (e ((xs++b7).map eV) S) P):W (zcE n m e b7 xs S) P:=by
 unfold zcE;rw[GO #[h1,h2]];show k
end
noncomputable def noE:Expr:= .Name Str.empty #[0,0,0,0]
def zjF(s:Stmt):Expr:=match s with
 | .Return (eV e) _=>e
 |_=>noE
def zh5(e:Expr)(i:Nat):Expr:=match e with
 | .Call _ es _ _=>es.getD i noE
 |_=>noE
noncomputable def zh6(s:Stmt)(i:Nat):Stmt:=(vI s).getD i (.Pass #[0,0,0,0])
noncomputable def Uu(e:Expr):Arguments:=match e with
 | .Lambda a _ _ _=>a
 |_=>{posonlyargs:=[],args:=[],vararg:=gi,kwonlyargs:=[],kw_defaults:=[],kwarg:=gi,defaults:=[]}
def XM(e:Expr):Expr:=match e with
 | .Lambda _ b _ _=>b
 |_=>noE
noncomputable def zci(e:Expr):Scope:=match e with
 | .Lambda _ _ s _=>s
 |_=>{kind:= .function,names:=[],isGenerator:=mK,isCoroutine:=mK}
set_option tactic.hygienic true in
def vi{f c P:p8}(h:zjo K f=eV (c,P)):Cb K c P=hG/\∀{oc:ph} {od:pf p8} {fd:Gn} {sl:Array (pf ph)},K.lookup f=eV #[oc,od,.func fd,sl]->fd.code= .ref c:=by
 unfold zjo at h;split at h;rename_i uP _ e1;split at h;rename_i c1 e2;split at h;split at h;split at h;rename_i hd;cases h;show#[hd,λe=> ?_];rw[e1] at e;cases e;show e2;cases h;cases h;cases h;cases h;cases h
noncomputable def zaa(fz:kx Str)(CX:CXT)(P:Program)(w:World)(K:uU)(mg:Str->pf ph)(base:Heap)(N:kx Str)(qual:Str)(scope:Scope)(f:p8)(cd:ph)(A:Around)(outer:kx Env)(s:pA)(H:Hp)(E:XK):Cx:=
 {TJ CX P w K mg base N qual scope f cd A outer s H E with fn:=λx=> !fz.contains x,zn:=λx=>fz.contains x}
def Inv.toZ{fz:kx Str}{CX:CXT}{P:Program}{w:World}{mg:Str->pf ph}{base:Heap}{N:kx Str}{qual:Str}{scope:Scope}{f:p8}{cd:ph}{outer:kx Env}{s1:pA}{H1:Hp}{E:XK}
  (I:Inv (TJ CX P w K mg base N qual scope f cd A outer s H E) pins σ H1 s1):Inv (zaa fz CX P w K mg base N qual scope f cd A outer s H E) pins σ H1 s1:=
 #[#[I.ok.mod,I.ok.kind,I.ok.glob,I.ok.blt,I.ok.above,I.ok.inj,I.ok.has,λx c _ e=>I.ok.cab x c (.inl rfl) e,I.ok.hd,I.ok.frames,I.ok.stk,I.ok.exf,I.ok.bs,I.ok.bsz,I.ok.noex,I.ok.exfs,I.ok.funs,I.ok.frf],I.os,I.bare,I.base,I.loc,I.cell,I.free,
  λx c e=> .inl ((I.freeC x c e).elim (λz=>z) λz=>CU (show hG=mK from z.1)),I.pin,I.hok,I.len]
def Fun.okZ{P:Program}{w:World}{mg:Str->pf ph}{base:Heap}{x qual:Str}{st:Stmt}{f c T:p8}{fd:Gn}{N ps:kx Str}{k:Nat}{sp:Sp}{fz:kx Str}(F:Fun K x qual st f fd)(hT:zjo K f=eV (c,T))(S:zy N ps (zr st))(len:∀vs H Q E,sp vs H Q E->vs.length=ps.length)
  (dB:∀(A:Around) (outer:kx Env) (s:pA) (H:Hp) (vs:kx V) (Q:VK) (E:XK),wC k (A.deeper (envOfC qual (zr st) #v[s] f (.ref c)))->sp vs H Q E->
   ∃t,PSs (zaa fz (CXE P w) P w K mg base N qual (zr st) f (.ref c) A outer s H E) (vI st) t/\t {nx:=λ_ H'=>Q .non H',rt:=Q} (Yu N vs) H):YB P w K mg base (CXE P w) (k+1) f fd ps sp:=by
 have#[oc,od,kV,doc,pm,an,bZ,ct,gj,rfl,lk,dI]:=F.ex;have hc:bZ= .ref c:=(vi hT).2 lk;subst hc;show#[len,λA outer s H args us vs Q E hr e0 hb r gU=> ?_];have hl:=len _ _ _ _ gU;have KX:K.In s.heap:=e0.mod.kin.keeps λb o e=>(e0.bs b o e).1;have lim:s.heap.NoLimit:=e0.mod.nolimit.keeps λb o e=>(e0.bs b o e).1;have fM:∀y∈ps.zip us,(zr st).names.lookup y.1=eV .local\/((zr st).names.lookup y.1=eV .cell/\((Gc (#v[s]+1) (zr st).names []).lookup y.1).isSome=hG):=λ⟨n,v⟩ hy=>by
  rcases S.par n (BX hy).1 with q|q;show .inl q;show .inr #[q,C3 _ _ _ (.inl q)]
 (refine codeAny_call_function hr.depth (KX _ _ lk) rfl S.co S.gen rfl (Dl KX dI) (hb _ _ _ _ ?_));show GC S.kind fM λenv he s1 x=> ?_;subst he;show#[lim.keeps x.toInCall.keep,codeAny_func ?_];have#[t,ht,hq]:=dB A outer s H vs Q E (hr.deeper _) gU;have I:Inv (zaa fz (CXE P w) P w K mg base N qual (zr st) f (.ref c) A outer s H E) [] (Yu N vs) H s1:=(zbC S hr.hd e0 hl r x).toZ;show Gi (ht [] s1 (Yu N vs) H _ I hq) (λfl s' hs=> ?_) λe s' hs=>hs;have fin:∀{σ':St} {H':Hp} {v:V} {u:ph},Inv (zaa fz (CXE P w) P w K mg base N qual (zr st) f (.ref c) A outer s H E) [] σ' H' s'->yt v u->Q v H'->CE outer P w H s Q u s':=
  λ{σ' H' v u} J rv q=>#[v,H',J.os,J.bare,J.base,J.hok,rv,q]
 cases fl with
 |ret u=>
  have#[v,σ',H',J,rv,q]:=hs;show fin J rv q
 |next=>
  have#[σ',H',J,q]:=hs;show fin (v:=V.non) (u:=Value.none) J rfl q
 |brk=>
  have#[_,_,_,q]:=hs;show Au q
 |cont=>
  have#[_,_,_,q]:=hs;show Au q
noncomputable def zoc(osc sc:Scope)(N fz fr:kx Str)(is:kx Nat):Bool:=zm5 osc sc&&fr.length==is.length&&(fr.zip is).all (λp=>sc.names.lookup p.1==eV .free&&N[p.2]? ==eV p.1)&&sc.names.all (λy=>y.2 != .free||fz.contains y.1)
def XN{N fz fr:kx Str}(hs:X.env.scope=osc)(hN:X.N=N)(hf:X.fn=λx=> !fz.contains x)(hz:X.zn=λx=>fz.contains x)(h:zoc osc sc N fz fr is=hG):zst X sc fr is:=by
 unfold zoc at h;simp only[Aj,AB,beq_iff_eq,bne_iff_ne,ne_eq,DW] at h;have#[#[#[h1,h2],h3],h4]:=h;show#[blk hs h1,λi x e=> ?_,λy hy e=> ?_]
 .have hi:i<is.length:=by rw[<-h2];show(uT.1 e).1
  have e2:is[i]? =eV is[i]:=uV hi;have#[g1,g2]:=h3 (x,is[i]) (uX (i:=i) (by rw[Ck];show#[e,e2]));show#[g1,is[i],e2,by rw[hN];show g2]
 have g:=(h4 y hy).resolve_left λz=>z e;rw[hf,hz];show#[g,by dsimp only;rw[g];rfl]
def XO{L:xD}{e:Expr}{pos:Pos}{is:kx Nat}{c P:p8}(S:zst X L.sc L.fr is)(hq:X.env.qual=L.t.d++".<locals>.")(gy:X.env.code= .ref c)(hC:Cb X.K c P=hG)
  (hL:e= .Lambda L.par L.body L.sc pos:=by rfl) (jR:defaultsOf L.par X.env=([],[]):=by rfl):PE X e (zsu L P is):=by
 rw[hL];show zsv (id:=L.id) S hq gy hC jR
section
variable{P:Program}{w:World}{mg:Str->pf ph}{base:Heap}
def zdH:∀p∈([]:kx (xD×(kx Xv->TwF))),ZX P w K mg base k p.1 p.2:=λp hp=>nomatch hp
def vV{tw:kx Xv->TwF}{fns:kx (xD×(kx Xv->TwF))}(h:ZX P w K mg base i L tw)(hk:i<=k)(r:∀p∈fns,ZX P w K mg base k p.1 p.2):∀p∈(L,tw)::fns,ZX P w K mg base k p.1 p.2:=λp hp=>by
 rcases x8.mp hp with rfl|hp;show h.mono hk;show r p hp
end
noncomputable def vZ(nm m:Str)(tw:TwF)(o:TwE)(ms:kx TwE):TwE:=λρ S=>rb (o ρ S) λx S1=>(zdC S1 x nm).bind λp=>if p.2.lookup m=gi then rb (evL ms ρ S1) λxs S2=>(match tw (x::xs) S2 with
  |some (.ok y S3)=>eV (.ok y S3)
  |_=>gi) else gi
section
variable{E:XK}
set_option tactic.hygienic true in
def vx(dX:y9 K FV nm=eV (eV (.ref C)))(ho:RE K E to o)(h:RL K E t (evL ms))(hn:ms.length+1=n:=by rfl):RE K E (zmH C m (sTw K n tw) [] E0 to t) (vZ nm m tw o ms):=by
 walk_at "!a"
 .show ho En0 e1 λj1 H1 X1 E1 u hu=> ?_;rw[An] at e;have#[#[q,fs],e2,e]:=e;dsimp only at e;split at e
  .rename_i o6;have#[a,dx,mL,rfl,hj,f1,f2]:=E1.ins dX hu e2;show#[a,dx,mL,rfl,f1,f2.look.2 o6,?_];rcases zI e with⟨xs,S2,e3,e⟩|⟨c,S2,e3,rfl⟩
   .show h E1 e3 λj2 H2 X2 E2 vs hv=> ?_;rw[Bb];split at e;rename_i y S3 e4;cases e;show WK E2 (.cons (hu.mono X2) hv) (by rw[y4,hv.len,XE e3,hn]) e4 (λj' H' X E3 v hw=>k _ _ ((X1.trans X2).trans X) E3 v hw);cases e
   show h E1 e3 (k.step X1)
  cases e
 show ho En0 e1 k
def Za(h:W (o ρ S) λx S1=>∃n fs,x= .ref n/\S1[n]? =eV (.ins nm fs)/\fs.lookup m=gi/\W (evL ms ρ S1) λxs S2=>W (tw (x::xs) S2) P):W (vZ nm m tw o ms ρ S) P:=
 W.bind (h.imp λx S1 h=>by
  have#[n,fs,rfl,e1,e2,k]:=h;have e3:zdC S1 (.ref n) nm=eV (n,fs):=by unfold zdC;simp[e1]
  rw[e3,z0];dsimp only;rw[GO e2];show W.bind (k.imp λxs S2 k=> ?_);have#[y,S3,e,k]:=k;rw[e]
  show .of rfl k)
end
def WM(h1:y9 K FV C=eV (eV (.ref g)))(h2:z3 K (.ref g) m=eV (eV (.ref f)))(h:(vD K #[eV C,m,d]).isSome=hG):∃c P,zjo K f=eV (c,P)/\vD K #[eV C,m,d]=eV (c,P):=by
 have#[#[c,P],e]:=Ay.1 h;show#[c,P,?_,e];unfold vD zjn at e;dsimp only at e;rw[h1] at e;dsimp only at e;rw[h2] at e;show e
noncomputable def Uv(K:uU)(eh:kx Ul):kx p8:=eh.filterMap λt=>(vD K t).map (·.2)
noncomputable def zgn:kx p8->Bool
 |[]=>hG
 |a::r=> !r.contains a&&zgn r
noncomputable def zfk(K:uU)(ts:kx p8)(eh:kx Ul):Bool:=eh.all (λt=>match vD K t with
 |some (_,P)=>ts.contains P&&(K.lookup P).isNone
 |none=>mK)&&zgn (Uv K eh)
theorem zfl:∀{l:kx p8},zgn l=hG->l.Nodup
 |[],_=>Ej
 |a::r,h=>by
  unfold zgn at h;simp only[Aj,Bool.not_eq_true',Es,decide_eq_false_iff_not] at h;show Bc.mpr #[h.1,zfl h.2]
structure zqc(K:uU)(ts:kx p8)(eh:kx Ul)(cw:kx p8):Prop where
 at_:∀(i:Nat) t,eh[i]? =eV t->∃c P,cw[i]? =eV P/\vD K t=eV (c,P)
 len:cw.length=eh.length
 nd:cw.Nodup
 sub:∀P∈cw,P∈ts/\K.lookup P=gi/\∃t c,vD K t=eV (c,P)
def zk2(h:zfk K ts eh=hG):zqc K ts eh (Uv K eh):=by
 unfold zfk at h;rw[Aj,AB] at h;have#[h1,h2]:=h;have key:∀(l:kx Ul),(∀t∈l,t∈eh)->(∀(i:Nat) t,l[i]? =eV t->∃c P,(Uv K l)[i]? =eV P/\vD K t=eV (c,P))/\(Uv K l).length=l.length/\∀P∈Uv K l,P∈ts/\K.lookup P=gi/\∃t c,vD K t=eV (c,P):=by
  intro l
  induction l with
  |nil=>intro _;show#[λi t e=>by simp at e,rfl,λP hP=>by cases hP]
  |cons t r ih=>
   intro hs;have#[g1,g2,g3]:=ih λt ht=>hs t (w6 _ ht);have ht:=h1 t (hs t y6);cases e:vD K t with
   |none=>rw[e] at ht;cases ht
   |some p=>
    have#[c,P]:=p;rw[e] at ht;simp only[Aj,Es,decide_eq_true_eq,Option.isNone_iff_eq_none] at ht;have e2:Uv K (t::r)=P::Uv K r:=by unfold Uv;rw[BV,e];rfl
    rw[e2];show#[λi u eu=> ?_,by simp[g2],λQ hQ=> ?_]
    .cases i with
     |zero=>simp at eu;subst eu;show#[c,P,rfl,e]
     |succ i=>
      have#[c',P',a,b]:=g1 i u (by simpa using eu);show#[c',P',by simpa using a,b]
    rcases x8.mp hQ with rfl|hQ;show#[ht.1,ht.2,t,c,e];show g3 Q hQ
 have#[g1,g2,g3]:=key eh λ_ h=>h;show#[g1,g2,zfl h2,g3]
def zqd{c P:p8}(h:vD K t=eV (c,P)):Cb K c P=hG:=by
 unfold vD at h;rw[An] at h;have#[f,_,h]:=h;show(vi h).1
structure zod(cw:kx p8)(H:Hp):Prop where
 all:∀b,H b=gi\/(∃o xs,H b=eV (.frz o (.lst xs)))\/(b∈cw/\H b=eV (.tbl [].toArray))
 tb:∀P∈cw,H P=eV (.tbl [].toArray)
def zdI(K:uU)(cw:kx p8):Sp:=λvs H Q _=>∃(a:p8) (ns:kx Int),vs=[V.ref a]/\zod cw H/\SqX K H a (ns.map V.int)/\ns.length<=63/\∀H',Q (.bl hG) H'
def zqe{P:Program}{mg:Str->pf ph}(Fn:YB P w K mg base CX k f fd ps (sTw K 1 tw))(hT:zqc K ts eh cw)
  (h:∀ns:kx Int,ns.length<=63->∃S,tw [.ref 0] (.frz (ns.map Xv.int)::eh.map .tab)=eV (.ok (.bl hG) S)):YB P w K mg base CX k f fd ps (zdI K cw):=by
 show Fn.imp ?_;intro vs H Q E #[a,ns,rfl,hO,hS,hl,q];have#[S',e]:=h ns hl;have hlen:(a::cw).length=(Ce.frz (ns.map Xv.int)::eh.map Ce.tab).length:=by simp[hT.len]
 show#[rfl,a::cw,.frz (ns.map Xv.int)::eh.map .tab,[.ref 0],_,?_,e,λv j' H' σ ρ E' hv=> ?_]
 .show#[rfl,λi x e=> ?_,hlen,λn m b c d e1 e2 e3 e4 z1 z2=> ?_,λn c b e1 e2=> ?_,Ext.refl,λn c e=>#[c,e,λz=>z,λ_=>rfl],hlen,λb u e=> .inl e,λn b hn e=> ?_,λb e=>e]
  .cases i with
   |zero=>simp at e;subst e;show#[_,rfl,.ref rfl]
   |succ i=>simp at e
  .cases n with
   |zero=>simp at e3;subst e3;cases z1
   |succ n=>
    cases m with
    |zero=>simp at e4;subst e4;cases z2
    |succ m=>
     simp only[BW] at e1 e2;have#[h1,g1]:=uT.1 e1;have#[h2,g2]:=uT.1 e2;rw[(CT hT.nd).mp (g1.trans g2.symm)]
  .cases n with
   |zero=>
    simp at e1 e2;subst e1 e2;show#[ns.map V.int,?_,yr.ints ns];rcases hS with (hS|⟨o,hS⟩)|hS
    .rcases hO.all a with z|⟨o,xs,z⟩|⟨_,z⟩
     .rw[z] at hS;cases hS
     .rw[z] at hS;cases hS
     rw[z] at hS;cases hS
    .show .inl #[o,hS]
    show .inr λH=> .inr hS
   |succ n=>
    simp only[BW,uY,y3] at e1 e2;have#[t,e1,rfl]:=e1;have#[c,P',g1,g2]:=hT.at_ n t e1;rw[g1] at e2;cases e2;show#[[].toArray,c,hO.tb _ (uX g1),g2,trivial,λpos cv q=>by cases q]
  dsimp only at hn;have:=(uT.1 e).1;omega
 rw[hv.bl_inv];show q H'
def zlZ{P:Program}{mg mb:Str->pf ph}
  (KX:K.In s₁.heap) (hT:zqc K ts eh cw) (nH:∀P∈ts,s₁.heap.get? P=eV (C9 [].toArray)) (dX:s₁.heap.Ns FV mg) (hb:s₁.heap.Ns builtinsNs mb) (qi:∀x:Str,x≠"__name__"->mb x=bootBuiltins x) (o7:s₁.heap.NoLimit)
  (qh:∃bm ob,mg "__builtins__"=eV (.ref bm)/\bm≠builtinsNs/\s₁.heap.get? bm=eV ob/\ob.cls= .type "module"/\ob.dict=eV builtinsNs/\ob.data= .plain) (pW:s₁.heap.NoSeer) (ia:P.given.tree=gi) (hg:s₁.gens= [].toArray)
  (ha:s₁.heap.get? a=eV {cls:= .type "list",data:= .seq vs.toArray}) (hi:IntsAre vs ns) (hl:ns.length<=FU) (hr:wC k callerA)
  (F:∀base:Heap,K.In base->base.Ns FV mg->YB P w K mg base CX k fa fd [x] sp) (lz:∀(s:pA) (u:ph),BindsTo s fd #[[u],[]] [(x,u)])
  (gU:∀H:Hp,zod cw H->SqX K H a (ns.map V.int)->sp [.ref a] H (λv _=>v= .bl hG) λ_ _ _=>False)
  (oJ:∀H e s',CX [] H s₁ (λ_ _ _=>False) e s'->False):
  GL (model P w) callerA (.call (.ref fa) #[[.ref a],[]]) (λr s'=>r= .ok (.ret (.bool hG))/\OldK s₁.heap s'.heap/\s'.os=s₁.os/\AllBare s'.gens) s₁:=by
 have rv:=ze3 hi;have n5:=hi.length;have ky:∀P∈cw,s₁.heap.get? P=eV (C9 [].toArray):=λP hP=>nH P (hT.sub P hP).1;have core:∀H:Hp,zod cw H->SqX K H a (ns.map V.int)->HOk P w H s₁.heap->(∀b,H b≠gi->b=a\/b∈cw)->(H a≠gi->K.lookup a=gi)->
   GL (model P w) callerA (.call (.ref fa) #[[.ref a],[]]) (λr s'=>r= .ok (.ret (.bool hG))/\OldK s₁.heap s'.heap/\s'.os=s₁.os/\AllBare s'.gens) s₁:=by
  intro H hO hS hok hA hK;have dZ:∀{b:p8} {o:Obj},s₁.heap.get? b=eV o->H b=gi->(zfG s₁.heap H).get? b=eV o:=λe n=>zmr e n;have pq:∀{b:p8} {o:Obj},s₁.heap.get? b=eV o->o.cls≠ .type "list"->(o.cls≠ .none\/∀ps,o.data≠ .fields ps)->H b=gi:=λ{b o} e d d'=>by
   cases q:H b with
   |none=>rfl
   |some u=>
    rcases hA b (by rw[q];simp) with rfl|hm;rw[ha] at e;cases e;show absurd rfl d;rw[ky b hm] at e;cases e;rcases d' with d'|d';show absurd rfl d';show absurd rfl (d' _)
  have iK:∀{b:p8} {o:Obj} {es:Array DictEntry} {ep:Nat},s₁.heap.get? b=eV o->o.data= .dict es ep->H b=gi:=λ{b o es ep} e d=>by
   cases q:H b with
   |none=>rfl
   |some u=>
    rcases hA b (by rw[q];simp) with rfl|hm;rw[ha] at e;cases e;have d':Data.seq vs.toArray _=Data.dict es ep:=d;cases d';rw[ky b hm] at e;cases e;cases d
  have je:∀{b:p8} {m:Str->pf ph},s₁.heap.Ns b m->(zfG s₁.heap H).Ns b m:=λ{b m} ⟨o,es,ep,e,d,r⟩=>#[o,es,ep,dZ e (iK e d),d,r]
  have qo:K.In (zfG s₁.heap H):=λb o e=>dZ (KX b o e) (by
   cases q:H b with
   |none=>rfl
   |some u=>
    rcases hA b (by rw[q];simp) with rfl|hm;rw[hK (by rw[q];simp)] at e;cases e
    rw[(hT.sub b hm).2.1] at e;cases e)
  have hM:Mod P K mg (zfG s₁.heap H):=#[qo,je dX,#[mb,je hb,qi],let ⟨mc,h1,h2⟩:=o7;#[mc,je h1,h2],let ⟨bm,ob,b1,b2,b3,b4,b5,b6⟩:=qh;#[bm,ob,b1,b2,dZ b3 (pq b3 (by rw[b4];simp) (.inl (by rw[b4];simp))),b4,b5,b6],let ⟨bm,ob,b1,b2,b3,b4,b5,b6⟩:=qh;let ⟨mc,c1,c2⟩:=pW.statics;let ⟨mm,m1,m2⟩:=pW.mods;#[#[mc,je c1,c2],#[mm,je m1,m2],#[mb,je hb,qi],#[mg,bm,ob,je dX,b1,dZ b3 (pq b3 (by rw[b4];simp) (.inl (by rw[b4];simp))),b4,b5]],ia];have e0:zei P w K mg (zfG s₁.heap H) callerA [] s₁ H:=#[rfl,hM,λb o e=>zpg e,Be (zlu _ _),trivial,λb hb=>absurd (show b∈([]:kx p8) from hb) (by simp),hok,.of_eq hg];show codeAny_mono ((F _ qo (je dX)).run callerA [] s₁ H #[[.ref a],[]] [.ref a] [.ref a] _ _ hr e0 (lz s₁ (.ref a)) (.cons rfl .nil) (gU H hO hS)) λr s' h=> ?_;cases r with
  |error e=>show(oJ H e s' h).elim
  |ok fl=>
   cases fl with
   |next=>show Au h
   |brk=>show Au h
   |cont=>show Au h
   |ret u=>
    have#[v,H',os,bare,un,kU,r',q]:=h;have q':v= .bl hG:=q;subst q';obtain rfl:u=Value.bool hG:=r';have old:∀b o,s₁.heap.get? b=eV o->b∉cw->s'.heap.get? b=eV o:=λb o e nb=>by
     cases q:H b with
     |none=>show un.keep b o e q (by intro z;show absurd (show b∈([]:kx p8) from z) (by simp)) (by simp)
     |some u=>
      rcases hO.all b with z|⟨ob,xs,z⟩|⟨z,_⟩
      .rw[q] at z;cases z
      .have z2:=un.frzs b ob _ z;have#[e1,_]:=hok b _ z;have#[e2,_]:=kU b _ z2;rw[e] at e1;cases e1;show e2
      show absurd z nb
    show#[rfl,#[λb o e=> ?_,λb o e=>un.there b o e (by simp)],os,bare];by_cases hb:b∈cw;have#[_,_,t,c,ht]:=hT.sub b hb;have#[o2,qG,_,_,_,_,_,_,_,c1,c2,c3,c4,_]:=EB KX (zqd ht);have#[more,e1]:=un.tbls b _ (hO.tb b hb);have e2:=kU b _ e1;have e3:=ky b hb;rw[e] at e3;cases e3;show .inr (.inl #[#[c,o2,qG,c1,c2,c3,c4],rfl,[].toArray,more,rfl,e2]);show .inl (old b o e hb)
 have aT:a∉cw:=λhm=>by
  have e:=ky a hm;rw[ha] at e;cases e
 have tH:∀(H:Hp),(∀P∈cw,H P=eV (.tbl [].toArray))->∀b∈cw,∀u,H b=eV u->xb P w H s₁.heap b u:=λH h b hb u e=>by
  rw[h b hb] at e;cases e;show ky b hb
 cases hk:K.lookup a with
 |some o=>
  have e:=KX a o hk;rw[ha] at e;cases e;have uE:∀b,b∈cw->(if b∈cw then eV (HO.tbl [].toArray) else gi)=eV (HO.tbl [].toArray):=λb h=>GO h;show core (λb=>if b∈cw then eV (.tbl [].toArray) else gi) #[λb=> ?_,λb h=>GO h] (.inr #[vs.toArray,_,hk,by rw[v9,n5];show hl,by simpa using rv]) (λb u z=> ?_) (λb z=> ?_) λz=>absurd (GP aT) z;by_cases hb:b∈cw;show .inr (.inr #[hb,GO hb]);show .inl (GP hb);by_cases hb:b∈cw;show tH (λb=>if b∈cw then eV (.tbl [].toArray) else gi) (λb h=>GO h) b hb u z;have z':=(GP hb).symm.trans z;cases z';by_cases hb:b∈cw;show .inr hb;show absurd (GP hb) z
 |none=>
  have h1:∀b,b∈cw->(if b=a then eV (HO.frz {cls:= .type "list",data:= .seq vs.toArray} (.lst (ns.map V.int))) else if b∈cw then eV (.tbl [].toArray) else gi)=eV (HO.tbl [].toArray):=λb h=>by
   have ne:b≠a:=λz=>aT (by rw[<-z];show h);rw[GP ne,GO h]
  show core (λb=>if b=a then eV (.frz {cls:= .type "list",data:= .seq vs.toArray} (.lst (ns.map V.int))) else if b∈cw then eV (.tbl [].toArray) else gi) #[λb=> ?_,h1] (.inl (.inr #[{cls:= .type "list",data:= .seq vs.toArray},GO rfl])) (λb u z=> ?_) (λb z=> ?_) λ_=>hk;by_cases hb:b=a;show .inr (.inl #[_,_,GO hb]);by_cases hm:b∈cw;show .inr (.inr #[hm,h1 b hm]);show .inl ((GP hb).trans (GP hm));by_cases hb:b=a;have z':=(GO hb).symm.trans z;cases z';subst hb;show#[ha,by rw[uZ];show hl,vs,_,rv,ha];by_cases hm:b∈cw;show tH _ h1 b hm u z;have z':=((GP hb).trans (GP hm)).symm.trans z;cases z';by_cases hb:b=a;show .inl hb;by_cases hm:b∈cw;show .inr hm;show absurd ((GP hb).trans (GP hm)) z
def zoe{l:DY}{n k:Nat}{q:Program}{loose:kx Str}{XP:(Str->pf ph)->Heap->Prop}{YP:World->Heap->Prop}{d:DefRec}{K:Params->uU}{CX:World->CXT}{x:Str}{ts:kx p8}{eh:kx Ul}
  (hn:l.most=eV n) (eY:n<=63) (ls:d.params.defaults=[]) (hr:wC k callerA)
  (hY:∀(w:World) (h:Heap),YP w h->(K w.params).In h/\∀P∈ts,h.get? P=eV (C9 [].toArray)) (hB:∀w:World,zfk (K w.params) ts eh=hG)
  (F:∀(w:World) (mg:Str->pf ph) (fa:p8) (h:Heap),(K w.params).In h->h.Ns FV mg->mg d.name=eV (.ref fa)->
   ∃fd:Gn,(∀(s:pA) (u:ph),BindsTo s fd #[[u],[]] [(x,u)])/\
    ∀base:Heap,(K w.params).In base->base.Ns FV mg->YB l.prog w (K w.params) mg base (CX w) k fa fd [x] (zdI (K w.params) (Uv (K w.params) eh)))
  (oJ:∀(w:World) (H:Hp) (s:pA) (e:ph) (s':pA),CX w [] H s (λ_ _ _=>False) e s'->False) (oi:importsNone q=hG) (ia:l.prog.given.tree=gi):
  FD q loose XP YP l.row.toRowW d [] (λf vs=>Fo f vs):=by
 show Att.zho hn ls λw s₀ s₁ mg mb fa o pm cd doc a vs ns G Y ho hd dI jK jI hints hlen hg=> ?_;have#[KX,nH]:=hY w _ Y;have#[fd,hb,hF]:=F w mg fa _ KX G.T.g jK;show zlZ KX (zk2 (hB w)) nH G.T.g G.T.b G.T.builtins G.T.nolimit G.T.bmain (G.T.seer oi) ia hg jI hints (v7 (v7 hlen eY) ∅) hr hF hb (λH hO hS=>#[a,ns,rfl,hO,hS,v7 hlen eY,λ_=>rfl]) λH e s'=>oJ w H s₁ e s'
open PySem.Calls PySem.W
noncomputable def zl0(ns:kx Int):Int:=ns.foldl (λa b=>if b<a then b else a) (ns.headD 0)
def zof(ns:kx Int):∀k,k<ns.length->ns.getD (argBest (λi j=>decide (ns.getD i 0<ns.getD j 0)) k) 0=(ns.take (k+1)).foldl (λa b=>if b<a then b else a) (ns.headD 0)/\argBest (λi j=>decide (ns.getD i 0<ns.getD j 0)) k<=k:=by
 intro k
 induction k with
 |zero=>
  intro h;cases ns with
  |nil=>simp at h
  |cons a r=>simp[argBest]
 |succ k ih=>
  intro h;have#[h1,h2]:=ih ⋯;have hg:ns[k+1]? =eV (ns.getD (k+1) 0):=by rw[x9,uV h];rfl
  have#[hi,e]:=uT.1 hg;rw[Aa hi,e,CJ,<-h1];have hb:∀f:Nat->Nat->Bool,argBest f (k+1)=if f (k+1) (argBest f k)=hG then k+1 else argBest f k:=λf=>rfl;rw[hb,D5,List.foldl_nil];by_cases q:ns.getD (k+1) 0<ns.getD (argBest (λi j=>decide (ns.getD i 0<ns.getD j 0)) k) 0;rw[GO (decide_eq_true q),GO q];show#[rfl,v3 _];rw[GP (by rw[decide_eq_false q];decide),GP q];show#[rfl,⋯]
def zrl(K:uU):kx V->Hp->VK->Prop:=λxs H Q=>∃(p:p8) (ns:kx Int),xs=[.ref p]/\SqL K H p (ns.map V.int)/\ns≠[]/\Q (.int (zl0 ns)) H
def zl1(hc:X.calm=hG)(hK:X.K=K:=by rfl):Zt X (.builtin "min") (zrl K):=by
 subst hK;intro pins s σ H xs us Q I r h;have#[p,ns,rfl,hq,dD,q]:=h;have#[u,rfl,ru]:=Uh r;cases ru;have#[ah,rv,pl,hz]:=I.list hq;have lt:p<#v[s]:=by
  have#[o,n,e,_]:=id pl;show Heap.lt_size e
 have hl:=rv.length;rw[uZ] at hl;have fZ:0<ns.length:=List.length_pos_iff.2 dD;have at_:∀(i:Nat) (v:ph),ah.toArray[i]? =eV v->i<ns.length/\∃t,v=Value.int (ns.getD i 0) t:=λi v hv=>by
  have hv:ah[i]? =eV v:=by simpa using hv
  have hi:i<ns.length:=by rw[hl];show(uT.1 hv).1
  (obtain⟨u,hu,t,ru⟩:=rv.get (i:=i) (x:=V.int ns[i]) (by rw[uY,uV hi];rfl);rw[hu] at hv;cases hv);show#[hi,t,by rw[ru,x9,uV hi];rfl]
 show call_min_walkS (Gw pl.isList ?_);have W:=(Walks.list (prog:=X.prog) (w:=X.w) (A:=X.A.in1) (I.ok.hd hc) #v[s] p (z8 lt) ah.toArray).toS;show#[#v[s],_,_,_,_,_,_,λi j=>decide (ns.getD i 0<ns.getD j 0),rfl,W,?_,?_,?_,?_,?_];show#[#[_,Heap.get?_push_size _ rfl,rfl,rfl],Heap.IsList.push pl.isList _];intro b hb;rw[Heap.size_push];rcases(by simpa using hb:b=#v[s]\/b=p) with rfl|rfl;show AZ _;show C7 lt;rw[v9];omega;show CmpOf.ints_lt (λi=>ns.getD i 0) (λi v hv=>(at_ i v hv).2);intro v s' hv m
 have I1:Inv X pins σ H {s with heap:=s'.heap,toks:=s'.toks}:=I.kept λb o e=>m.heap b o (λz=>by
  have z:b=#v[s]:=by simpa using z
  show absurd (Heap.lt_size e) (by rw[z];show B7 _)) (Heap.get?_push_of_some _ e)
 have e:({s with heap:=s'.heap,toks:=s'.toks}:pA)=s':=by
  (have h1:=m.gens;have h2:=m.drawn;have h3:=m.os;cases s';simp only at h1 h2 h3;subst h1 h2 h3;rfl)
 rw[e] at I1;have#[_,t,rfl]:=at_ _ v hv;show#[.int (zl0 ns),H,I1,#[t,?_],q];have:=(zof ns (ns.length-1) ⋯).1;rw[show ns.length-1+1=ns.length by omega,A4] at this;rw[v9,<-hl,this];rfl
end L2
namespace L2
noncomputable def zh7:Opn:=λxs S=>match xs with
 |[x]=>((yn S x).bind Yx).bind λns=>if ns=[] then gi else eV (.int (zl0 ns),S)
 |_=>gi
section
set_option tactic.hygienic true in
def zk3:zaQ K (zrl K) zh7:=by
 walk_at "!e";unfold zh7 at h;split at h;rename_i x;rw[An] at h;have#[ns,e,h]:=h;rw[An] at e;have#[l,e,e2]:=e;split at h;cases h;rename_i dD;cases h;have#[w,rfl,hx]:=hv.d1;have#[p,ws,rfl,h1,h2]:=E1.lstAt hx e;show#[p,ns,rfl,?_,dD,k _ _ _ Ext.refl E1 (.int _)];rw[<-zaU e2 h2];show h1.sql;cases h
def zqf(h1:yn S x=eV l)(h2:Yx l=eV ns)(h3:ns≠[])(k:P (.int (zl0 ns)) S):WO (zh7 [x] S) P:= .of (by
 unfold zh7;dsimp only
 rw[h1,z0,h2,z0,GP h3]) k
end
open PySem.Builtin.Int (intBits)
def Uw(hr:wC k X.A)(hk:32<=k:=by decide)(fI:X.stack=X.env::X.outer:=by rfl)(hg:X.env.scope.isGenerator=mK:=by rfl)(kj:X.env.scope.isCoroutine=mK:=by rfl):
  OpR X (GA .FloorDiv) (rI (λ_ j=>j≠0) λi j=> .int (i.fdiv j)):=by
 intro pins s σ H x y v u Q I rx ry h;have#[i,j,rfl,rfl,hc,q]:=h;have#[t,rfl]:=rx;have#[t',rfl]:=ry;show floordiv_int hc #[.int _,H,I.tok _,#[_,rfl],q] (.inr (PylongRoom.of I.nolimit (by have:=hr.dp;change X.A.depth+100<_;omega) (SeerAt.of (I.ok.mod.seer.keeps I.bk) I.ok.mod.tree (by rw[I.ok.frames,fI]) hg kj I.ok.blt I.ok.glob)))
def Ux:Op2:=xIC (λ_ j=>decide (j≠0)) λi j=> .int (i.fdiv j)
def zh8:Xy K (rI (λ_ j=>j≠0) λi j=> .int (i.fdiv j)) Ux:=zjt (λi j h=>by simpa using h) λ_ _ _ _=> .int _
def Uy(h:q≠0)(k:P (.int (p.fdiv q)) S):WO (Ux (.int p) (.int q) S) P:= .of (by unfold Ux xIC;show GO (decide_eq_true h)) k
end L2
namespace L2
def zuT(s:Stmt):Expr:=match s with
 | .Assign _ e _=>e
 |_=>noE
def zdJ(h1:y9 K FV m=eV (eV (.ref f)))(h:(vD K #[gi,m,d]).isSome=hG):∃c P,zjo K f=eV (c,P)/\vD K #[gi,m,d]=eV (c,P):=by
 have#[#[c,P],e]:=Ay.1 h;show#[c,P,?_,e];unfold vD zjn at e;dsimp only at e;rw[h1] at e;show e
def PSm(X Y:Cx)(st:kx Stmt)(t:TS):Prop:=
 ∀(pins:kx (p8×Obj)) (s:pA) (σ:St) (H:Hp) (D:zaI),Inv X pins σ H s->t D σ H->wpAny (model X.prog X.w) X.A (execs st X.env) (SP Y pins D) X.xe s
section
variable{fz:kx Str}{CX:CXT}{P:Program}{w:World}{mg:Str->pf ph}{base:Heap}{N:kx Str}{qual:Str}{scope:Scope}{f:p8}{cd:ph}{outer:kx Env}{E:XK}{st:Stmt}{rest:kx Stmt}{t u:TS}
def zsw(h:PSs (zaa fz CX P w K mg base N qual scope f cd A outer s H E) rest t):PSm (TJ CX P w K mg base N qual scope f cd A outer s H E) (zaa fz CX P w K mg base N qual scope f cd A outer s H E) rest t:=
 λpins s1 σ H1 D I q=>h pins s1 σ H1 D I.toZ q
def zh9(h1:PS (TJ CX P w K mg base N qual scope f cd A outer s H E) st t)(h2:PSm (TJ CX P w K mg base N qual scope f cd A outer s H E) (zaa fz CX P w K mg base N qual scope f cd A outer s H E) rest u):PSm (TJ CX P w K mg base N qual scope f cd A outer s H E) (zaa fz CX P w K mg base N qual scope f cd A outer s H E) (st::rest) (zrz t u):=by
 intro pins s1 σ H1 D I h;show wpAny_execs_cons (thn (h1 pins s1 σ H1 {D with nx:=u D} I h) λfl s2 q=> ?_);cases fl with
 |next=>
  have#[σ',H',I',q]:=q;show h2 pins s2 σ' H' D I' q
 |ret v=>have#[v',σ',H',I',q]:=q;show#[v',σ',H',I'.toZ,q]
 |brk=>have#[σ',H',I',q]:=q;show#[σ',H',I'.toZ,q]
 |cont=>have#[σ',H',I',q]:=q;show#[σ',H',I'.toZ,q]
end
def Fun.okZ2{P:Program}{w:World}{mg:Str->pf ph}{base:Heap}{x qual:Str}{st:Stmt}{f c T:p8}{fd:Gn}{N ps:kx Str}{k:Nat}{sp:Sp}{fz:kx Str}(F:Fun K x qual st f fd)(hT:zjo K f=eV (c,T))(S:zy N ps (zr st))(len:∀vs H Q E,sp vs H Q E->vs.length=ps.length)
  (dB:∀(A:Around) (outer:kx Env) (s:pA) (H:Hp) (vs:kx V) (Q:VK) (E:XK),wC k (A.deeper (envOfC qual (zr st) #v[s] f (.ref c)))->sp vs H Q E->
   ∃t,PSm (TJ (CXE P w) P w K mg base N qual (zr st) f (.ref c) A outer s H E) (zaa fz (CXE P w) P w K mg base N qual (zr st) f (.ref c) A outer s H E) (vI st) t/\t {nx:=λ_ H'=>Q .non H',rt:=Q} (Yu N vs) H):YB P w K mg base (CXE P w) (k+1) f fd ps sp:=by
 have#[oc,od,kV,doc,pm,an,bZ,ct,gj,rfl,lk,dI]:=F.ex;have hc:bZ= .ref c:=(vi hT).2 lk;subst hc;show#[len,λA outer s H args us vs Q E hr e0 hb r gU=> ?_];have hl:=len _ _ _ _ gU;have KX:K.In s.heap:=e0.mod.kin.keeps λb o e=>(e0.bs b o e).1;have lim:s.heap.NoLimit:=e0.mod.nolimit.keeps λb o e=>(e0.bs b o e).1;have fM:∀y∈ps.zip us,(zr st).names.lookup y.1=eV .local\/((zr st).names.lookup y.1=eV .cell/\((Gc (#v[s]+1) (zr st).names []).lookup y.1).isSome=hG):=λ⟨n,v⟩ hy=>by
  rcases S.par n (BX hy).1 with q|q;show .inl q;show .inr #[q,C3 _ _ _ (.inl q)]
 (refine codeAny_call_function hr.depth (KX _ _ lk) rfl S.co S.gen rfl (Dl KX dI) (hb _ _ _ _ ?_));show GC S.kind fM λenv he s1 x=> ?_;subst he;show#[lim.keeps x.toInCall.keep,codeAny_func ?_];have#[t,ht,hq]:=dB A outer s H vs Q E (hr.deeper _) gU;show Gi (ht [] s1 (Yu N vs) H _ (zbC S hr.hd e0 hl r x) hq) (λfl s' hs=> ?_) λe s' hs=>hs;have fin:∀{σ':St} {H':Hp} {v:V} {u:ph},Inv (zaa fz (CXE P w) P w K mg base N qual (zr st) f (.ref c) A outer s H E) [] σ' H' s'->yt v u->Q v H'->CE outer P w H s Q u s':=
  λ{σ' H' v u} J rv q=>#[v,H',J.os,J.bare,J.base,J.hok,rv,q]
 cases fl with
 |ret u=>
  have#[v,σ',H',J,rv,q]:=hs;show fin J rv q
 |next=>
  have#[σ',H',J,q]:=hs;show fin (v:=V.non) (u:=Value.none) J rfl q
 |brk=>
  have#[_,_,_,q]:=hs;show Au q
 |cont=>
  have#[_,_,_,q]:=hs;show Au q
open PySem.Calls PySem.W
noncomputable def Kyn(a:p8)(o:Obj)(ks:kx (NK×p8×V)):It:=
 #[λi H=>H a=eV (.frz o (.dN ks))/\∃p,ks[i]? =eV p,λi H x H'=>H'=H/\∃p,x= .ref p.2.1/\ks[i]? =eV p,λi H=>H a=eV (.frz o (.dN ks))/\ks.length<=i]
def zog(I:Inv X pins σ H s)(ha:H a=eV (.frz o (.dN ks)))(hd:o.data= .dict es ep):
  zlY s.heap a es ep/\es.size=ks.length/\∀(i:Nat) p,ks[i]? =eV p->∃e,es[i]? =eV e/\e.key= .ref p.2.1:=by
 have#[hg,hz,_,xs,r,o',es',ep',h1,h2,h3,h4,hn]:=(show xb X.prog X.w H s.heap a (.frz o (.dN ks)) from I.hok a _ ha);rw[hg] at h1;cases h1;rw[hd] at h3;cases h3;show#[#[o,hg,h2,hd],?_,λi p hp=> ?_];rw[<-Bq,h4,uZ,Paired.length r]
 have#[hi,e]:=uT.1 hp;obtain⟨q,hq,rq⟩:∃q,xs[i]? =eV q/\p.2.1=q.2.1:=by
  clear h4 hi e ha hz hn
  induction r generalizing i with
  |nil=>simp at hp
  |cons h _ ih=>
   cases i with
   |zero=>simp at hp;subst hp;show#[_,rfl,h.2.1]
   |succ i=>show ih i hp
 show#[_,by rw[<-BG,h4,uY,hq];rfl,by rw[rq];rfl]
def zjG{P:Program}(a it:p8)(o:Obj)(ks:kx (NK×p8×V))(hd:o.data= .dict es ep):
  ziU P w K tg (Kyn a o ks) [it] it (λi h=>h.IsKeyIter it a i ks.length ep) where
 mem:=by simp
 obj:=λi h st b hb=>by
  have#[ob,e1,_,e2]:=st;have:b=it:=by simpa using hb
  subst this;show#[_,e1,λv z=>by rw[e2] at z;cases z]
 keep:=λi h h' st k=>st.at λo e=>k it (by simp) o e
 item:=by
  walk_at "!b";have#[ha,p,hp]:=hg;have#[raw,hl,he]:=zog I ha hd;have#[e,h1,h2]:=he i p hp;rw[<-hl] at st;show zn7 st raw h1 λh1 hit hs=>#[_,rfl,?_];show letGo_keyiter (s':={s with heap:=h1}) hit ?_;show#[.ref p.2.1,H,Inv.turnedL (t':=s.toks) (fp:=[it]) I (λb o hb eo=>(hs.2 b (by simpa using hb)).trans eo) hf,h2,#[rfl,p,rfl,hp],by rw[<-hl];show hit,λb hb=>(hf b hb).1]
 done:=by
  walk_at "!b";have#[ha,hx]:=hg;have#[raw,hl,_]:=zog I ha hd;rw[<-hl] at st hx;show zp6 (I.ok.hd hc) st raw (Array.getElem?_eq_none ⋯) λh' eb=>#[rfl,Inv.turnedL (t':=s.toks) (fp:=[it]) I (λb o hb eo=> ?_) hf];show eb b o (λz=>hb (by simp[z])) eo
 self:=λ_ _ _ _ _ st h=>wpAny_pyIter_keyiter st h
def ztY(K:uU)(t:TE):TI:=λσ H R=>t σ H λx H1=>∃(a:p8) (ks:kx (NK×p8×V)),x= .ref a/\Rd H1 a (.dN ks)/\(H1 a=eV (.dN ks)->∀o,R (Kyn a o ks) (upd H1 a (.frz o (.dN ks))))/\∀o,H1 a=eV (.frz o (.dN ks))->R (Kyn a o ks) H1
def zia(he:PE X e t):PI X tg e (ztY X.K t):=by
 intro pins s σ H R I h;show thn (he pins s σ H _ I h) ?_;intro u s1 #[x,H1,I1,rx,a,ks,ex,ha,q1,q2];subst ex;cases rx;have q:xb X.prog X.w H1 s1.heap a (.dN ks):=by
  rcases ha with ha|⟨o,ha⟩
  .show I1.hok a _ ha
  show (show xb X.prog X.w H1 s1.heap a (.frz o (.dN ks)) from I1.hok a _ ha).2
 have#[hz,lo,xs,rel,ob,es,ep,e1,e2,e3,e4,e5]:=q;have hl:es.size=ks.length:=by rw[<-Bq,e4,uZ,Paired.length rel]
 show zn6 lo #[ob,e1,e2,e3] ?_;have hi:(s1.heap.push {cls:= .type "dict_keyiterator",data:= .fields [.ref a,.int 0 0,.int es.size 0,.int ep 0].toArray}).get? #v[s1]=eV {cls:= .type "dict_keyiterator",data:= .fields [.ref a,.int 0 0,.int es.size 0,.int ep 0].toArray}:=Heap.get?_push_size _ rfl;have fin:∀H2,Inv X pins σ H2 s1->R (Kyn a ob ks) H2->PIE X pins σ tg R (.ref #v[s1]) {s1 with heap:=s1.heap.push {cls:= .type "dict_keyiterator",data:= .fields [.ref a,.int 0 0,.int es.size 0,.int ep 0].toArray}}:=λH2 I2 q=>by
  have I3:=I2.kept (t':=s1.toks) (h':=s1.heap.push {cls:= .type "dict_keyiterator",data:= .fields [.ref a,.int 0 0,.int es.size 0,.int ep 0].toArray}) (λb o e=>Heap.get?_push_of_some _ e);show#[#v[s1],[#v[s1]],_,_,_,rfl,I3,zjG a #v[s1] ob ks e3,#[_,hi,rfl,by rw[hl];rfl],λb hb=> ?_,q];have hb:#v[s1]<=b:=by
   have:b=#v[s1]:=by simpa using hb
   show Be this.symm
  show Inv.fpOk I2 hb (I2.hok.fresh hb)
 rcases ha with ha|⟨o,ha⟩
 .show fin (upd H1 a (.frz ob (.dN ks))) (zaN (ob:= .frz ob (.dN ks)) (h':=s1.heap) (t':=s1.toks) I1 (by rw[ha];show AY) #[rfl,λ_ _=>rfl] #[ob,e1] #[e1,hz,lo,xs,rel,ob,es,ep,e1,e2,e3,e4,e5]) (q1 ha ob)
 have:o=ob:=by
  have#[hg,_]:=(show xb X.prog X.w H1 s1.heap a (.frz o (.dN ks)) from I1.hok a _ ha);rw[hg] at e1;show A0 e1
 subst this;show fin _ I1 (q2 o ha)
noncomputable def zfm(S:Sto)(x:Xv):pf (Nat×kx (NK×Xv×Xv)):=match x with
 | .ref n=>match S[n]? with
  |some (.dn af)=>eV (n,af)
  |some (.fdn af)=>eV (n,af)
  |_=>gi
 |_=>gi
noncomputable def zjH(n:Nat)(S:Sto):pf (kx Xv):=match S[n]? with
 |some (.fdn af)=>eV (af.map (·.2.1))
 |_=>gi
noncomputable def iDN(m:TwE):TwI:=λρ S=>rb (m ρ S) λx S1=>(zfm S1 x).map λp=> .ok (zjH p.1) (S1.set p.1 (.fdn p.2))
def NX.get{j:kx p8}{af:kx (NK×Xv×Xv)}{ks:kx (NK×p8×V)}{i:Nat}{q:NK×Xv×Xv}(h:NX K j H af ks)(e:af[i]? =eV q):∃p,ks[i]? =eV p/\Xis K j H q.2.1 (.ref p.2.1):=by
 induction h generalizing i with
 |nil=>simp at e
 |cons _ h _ _ ih=>
  cases i with
  |zero=>simp at e;subst e;show#[_,rfl,h]
  |succ i=>show ih e
section
variable{E:XK}
set_option tactic.hygienic true in
def zib(h:RE K E t m):RI K E (ztY K t) (iDN m):=by
 walk_at "!c"
 .cases e4:zfm S1 x with
  |none=>rw[e4] at e;cases e
  |some p=>
   have#[n,af]:=p;rw[e4] at e;cases e;show h En0 e1 λj1 H1 X1 E1 u hu=> ?_;unfold zfm at e4;split at e4
   .rename_i n';have#[a,rfl,hj]:=hu.ref_inv;have fin:∀ks o j3 H3,Ext j1 H1 j3 H3->En K F j3 H3 σ ρ (S1.set n (.fdn af))->j1[n]? =eV a->H3 a=eV (.frz o (.dN ks))->R (Kyn a o ks) H3:=λks o j3 H3 X3 E3 hj oG=>by
     show k _ _ (X1.trans X3) E3 _ ?_;intro F2 j2 H2 σ2 ρ2 S2 xs i X4 E4 e5;unfold zjH at e5;split at e5
     .rename_i n9 ec;cases e5;have ha:H2 a=eV (.frz o (.dN ks)):=X4.imm _ _ oG rfl;have#[o',ks',f1,f2]:=E4.cel n _ a ec (X4.pre n a (X3.pre n a hj));rw[ha] at f1;cases f1;show#[λy ey=> ?_,λhle=>#[ha,by rw[f2.len];rw[uZ] at hle;omega]];rw[uY] at ey;cases ep:n9[i]? with
      |none=>rw[ep] at ey;cases ey
      |some q=>
       rw[ep] at ey;cases ey;have#[p,g1,g2]:=f2.get ep;show#[#[ha,p,g1],?_];intro v' H' #[rfl,p2,rfl,g3];rw[g1] at g3;cases g3;show#[YS.refl _,g2]
     cases e5
    split at e4;rename_i hs;cases e4;have#[ks,f1,f2]:=E1.cel _ _ _ hs hj;show#[a,ks,rfl,.inl f1,λ_ o=> ?_,λo z=>by rw[f1] at z;cases z];have#[E3,X3]:=E1.writeF (c':= .fdn af) (o:= .frz o (.dN ks)) hs rfl hj (λX=>#[o,ks,zW,f2.mono X]);show fin ks o _ _ X3 E3 hj zW;rename_i hs;cases e4;have#[o,ks,f1,f2]:=E1.cel _ _ _ hs hj;show#[a,ks,rfl,.inr #[o,f1],(λz=>by rw[f1] at z;cases z),λo' z=> ?_];rw[zn9 hs] at fin;show fin ks o' _ _ Ext.refl E1 hj z;cases e4
   cases e4
 show h En0 e1 k
end
def zoh{Q':(Sto->pf (kx Xv))->Sto->Prop}(h:W (m ρ S) λx S1=>∃n af,zfm S1 x=eV (n,af)/\Q' (zjH n) (S1.set n (.fdn af))):W (iDN m ρ S) Q':=W.bind (h.imp λx S1 h=>by
 have#[n,af,e,q]:=h;rw[e]
 show .of rfl q)
end L2
namespace L2
section
def zl2{z TI TO i1 i2 l1 l2:p8}{k1 k2:Nat}{xs ys:Array ph}{x y a b:ph}{Q:pf ph->pA->Prop}(D:ZipApart z TI TO i1 i2 l1 l2)(zz:IsZip s.heap z TI TO .none)(pI:GJ s.heap TI (.ref i1) (.ref i2))(pO:GJ s.heap TO a b)
  (t1:IsTupIter s.heap i1 l1 k1) (t2:s.heap.IsListIter i2 l2 k2) (g1:IsTup s.heap l1 xs) (g2:s.heap.IsList l2 ys) (hx:xs[k1]? =eV x) (hy:ys[k2]? =eV y)
  (q:∀h',IsZip h' z TI TO (Gu #v[s])->GJ h' TO x y->IsTupIter h' i1 l1 (k1+1)->h'.IsListIter i2 l2 (k2+1)->GJ h' #v[s] x y->h'.objs.size=#v[s]+1->
   (∀c o,c≠z->c≠TO->c≠i1->c≠i2->s.heap.get? c=eV o->h'.get? c=eV o)->Q (eV (.ref #v[s])) {s with heap:=h'}):wpAny (model prog w) A (pyNext (.ref z)) Q E s:=by
 have hT:s.TypeIs (.ref z) "zip":=#[_,zz,rfl];unfold pyNext;show qR (Gq (FY (name:=Str.ofString "__next__") hT F.slot_zip_next (Ga F.slot_zip_next hT F.entry_zip_next ?_ (F.args_zip_next_1 _))));show qR (m:=field (.ref z) 2) (Gb zz rfl (x:= .bool mK) rfl ?_);show qR (m:=field (.ref z) 3) (Gb zz rfl (x:= .ref TI) rfl ?_);show qR (Ge pI rfl ?_);show qR (m:=Builtin.SmallTypes.ownedTupleIsFree (.ref z)) ?_;unfold Builtin.SmallTypes.ownedTupleIsFree;show qR (Gb zz rfl (x:= .none) rfl (uh ?_));simp only[if_true];show qR (wpAny_rule (qR (Gb zz rfl (x:= .ref TO) rfl (qR (Gd zz (by simp) λha za sa=> ?_)))))
 replace za:IsZip ha z TI TO .ellipsis:=za
 show qR ?_;simp only[Fg,Fp,DU,Ek];show qR (qR (wpAny_onRaise (qR (m:=Builtin.SmallTypes.nextOf (.ref i1)) ?_)));show zra (t1.extBut sa.extBut D.i1z) (g1.extBut sa.extBut D.l1z) hx λhb tb sb=>uh ?_;have ob:GJ hb TO a b:=sb.extBut _ _ D.TOi1 (sa.extBut _ _ D.TOz pO);show qR (Ge ob rfl (qR (wpAny_updateSeq_pair ob λhc oc sc=> ?_)))
 replace oc:GJ hc TO x b:=oc
 show qR (wpAny_letGo (uh (qR (qR (wpAny_onRaise (qR (m:=Builtin.SmallTypes.nextOf (.ref i2)) ?_))))));show wpAny_nextOf_list_item (((t2.extBut sa.extBut D.i2z).extBut sb.extBut D.i12.symm).extBut sc.extBut D.TOi2.symm) (((g2.extBut sa.extBut D.l2z).extBut sb.extBut D.l2i1).extBut sc.extBut D.l2TO) hy λhd td sd=>uh ?_;have od:GJ hd TO x b:=sd.extBut _ _ D.TOi2 oc;show qR (Ge od rfl (qR (wpAny_updateSeq_pair od λhe oe se=> ?_)))
 replace oe:GJ he TO x y:=oe
 show qR (wpAny_letGo (uh (uh (qR (Ge oe rfl (qR (wpAny_newTuple ?_)))))));have size:he.objs.size=#v[s]:=by rw[se.1,sd.1,sc.1,sb.1,sa.1]
 have ze:IsZip he z TI TO .ellipsis:=se.extBut _ _ D.TOz.symm (sd.extBut _ _ D.i2z.symm (sc.extBut _ _ D.TOz.symm (sb.extBut _ _ D.i1z.symm za)));have ke:∀c o,c≠z->c≠TO->c≠i1->c≠i2->s.heap.get? c=eV o->he.get? c=eV o:=λc o c1 c2 c3 c4 e=>se.extBut _ _ c2 (sd.extBut _ _ c4 (sc.extBut _ _ c2 (sb.extBut _ _ c3 (sa.extBut _ _ c1 e))));have u1:IsTupIter he i1 l1 (k1+1):=((tb.extBut sc.extBut D.TOi1.symm).extBut sd.extBut D.i12).extBut se.extBut D.TOi1.symm;have u2:he.IsListIter i2 l2 (k2+1):=td.extBut se.extBut D.TOi2.symm;have p7:z<he.objs.size:=Heap.lt_size ze;show qR (m:=Builtin.SmallTypes.ownedTupleHandOut (.ref z) (.ref he.objs.size)) ?_;unfold Builtin.SmallTypes.ownedTupleHandOut;have zf:IsZip (he.push {cls:= .type "tuple",data:= .seq [x,y].toArray}) z TI TO .ellipsis:=Heap.get?_push_of_some _ ze;show qR (Gd zf (by simp) λhg zg sg=> ?_)
 replace zg:IsZip hg z TI TO (Gu he.objs.size):=zg
 show Gd zg (by simp) λhh zh sh=> ?_
 replace zh:IsZip hh z TI TO (Gu he.objs.size):=zh
 have up:∀c o,c≠z->he.get? c=eV o->hh.get? c=eV o:=λc o c1 e=>sh.extBut _ _ c1 (sg.extBut _ _ c1 (Heap.get?_push_of_some _ e));have th:GJ hh he.objs.size x y:=sh.extBut _ _ (CZ p7) (sg.extBut _ _ (CZ p7) (Heap.get?_push_size _ rfl));have sz:hh.objs.size=he.objs.size+1:=by rw[sh.1,sg.1,Heap.size_push]
 rw[size] at zh th sz;show uh #[_,rfl,uh ?_];change Q (eV (.ref he.objs.size)) _;rw[size];show q hh zh (up _ _ D.TOz oe) (zjf u1 λo e=>up _ o D.i1z e) (u2.at λo e=>up _ o D.i2z e) th sz λc o c1 c2 c3 c4 e=>up c o c1 (ke c o c1 c2 c3 c4 e)
def zoi{z TI TO i1 i2 l1 l2:p8}{k1 k2:Nat}{xs ys:Array ph}{a b:ph}{Q:pf ph->pA->Prop}(hh:A.handled=gi)(D:ZipApart z TI TO i1 i2 l1 l2)(zz:IsZip s.heap z TI TO .none)(pI:GJ s.heap TI (.ref i1) (.ref i2))(pO:GJ s.heap TO a b)
  (t1:IsTupIter s.heap i1 l1 k1) (t2:s.heap.IsListIter i2 l2 k2) (g1:IsTup s.heap l1 xs) (g2:s.heap.IsList l2 ys) (oy:xs[k1]? =gi\/ys[k2]? =gi)
  (q:∀h',(∀c o,c≠z->c≠TO->c≠i1->c≠i2->s.heap.get? c=eV o->h'.get? c=eV o)->Q gi {s with heap:=h'}):wpAny (model prog w) A (pyNext (.ref z)) Q E s:=by
 have hT:s.TypeIs (.ref z) "zip":=#[_,zz,rfl];unfold pyNext;show qR (Gq (FY (name:=Str.ofString "__next__") hT F.slot_zip_next (Ga F.slot_zip_next hT F.entry_zip_next ?_ (F.args_zip_next_1 _))));show qR (m:=field (.ref z) 2) (Gb zz rfl (x:= .bool mK) rfl ?_);show qR (m:=field (.ref z) 3) (Gb zz rfl (x:= .ref TI) rfl ?_);show qR (Ge pI rfl ?_);show qR (m:=Builtin.SmallTypes.ownedTupleIsFree (.ref z)) ?_;unfold Builtin.SmallTypes.ownedTupleIsFree;show qR (Gb zz rfl (x:= .none) rfl (uh ?_));simp only[if_true];show qR (wpAny_rule (qR (Gb zz rfl (x:= .ref TO) rfl (qR (Gd zz (by simp) λha za sa=> ?_)))))
 replace za:IsZip ha z TI TO .ellipsis:=za
 show qR ?_;simp only[Fg,Fp,DU,Ek];show qR (qR (wpAny_onRaise (qR (m:=Builtin.SmallTypes.nextOf (.ref i1)) ?_)));cases hx:xs[k1]? with
 |none=>
  show zlJ hh (t1.extBut sa.extBut D.i1z) (g1.extBut sa.extBut D.l1z) hx ?_;intro hb e sb #[oe,jH,ly];have zb:IsZip hb z TI TO .ellipsis:=sb _ _ D.i1z.symm za;have ou:e≠z:=λx=>by subst x;rw[zb] at jH;cases jH;simp at ly
  show Gd zb (by simp) λhc _ sc=> ?_;show qR (Gp (T:="StopIteration") (b:=hG) #[oe,sc.extBut _ _ ou jH,ly] isSubtype_stop (uh (q _ λc o c1 _ c3 _ x=>sc.extBut _ _ c1 (sb _ _ c3 (sa.extBut _ _ c1 x)))))
 |some x=>
  have hy:ys[k2]? =gi:=by rcases oy with h|h;rw[hx] at h;cases h;show h
  show zra (t1.extBut sa.extBut D.i1z) (g1.extBut sa.extBut D.l1z) hx λhb tb sb=>uh ?_;have ob:GJ hb TO a b:=sb.extBut _ _ D.TOi1 (sa.extBut _ _ D.TOz pO);show qR (Ge ob rfl (qR (wpAny_updateSeq_pair ob λhc oc sc=> ?_)));show qR (wpAny_letGo (uh (qR (qR (wpAny_onRaise (qR (m:=Builtin.SmallTypes.nextOf (.ref i2)) ?_))))));show wpAny_nextOf_list_end hh (((t2.extBut sa.extBut D.i2z).extBut sb.extBut D.i12.symm).extBut sc.extBut D.TOi2.symm) (((g2.extBut sa.extBut D.l2z).extBut sb.extBut D.l2i1).extBut sc.extBut D.l2TO) hy ?_;intro hd e sd #[oe,jH,ly];have zd:IsZip hd z TI TO .ellipsis:=sd _ _ D.i2z.symm (sc.extBut _ _ D.TOz.symm (sb.extBut _ _ D.i1z.symm za));have ou:e≠z:=λx=>by subst x;rw[zd] at jH;cases jH;simp at ly
  show Gd zd (by simp) λhe _ se=> ?_;show qR (Gp (T:="StopIteration") (b:=hG) #[oe,se.extBut _ _ ou jH,ly] isSubtype_stop (uh (q _ λc o c1 c2 c3 c4 x=>se.extBut _ _ c1 (sd _ _ c4 (sc.extBut _ _ c2 (sb.extBut _ _ c3 (sa.extBut _ _ c1 x)))))))
noncomputable abbrev zM1(h:Heap)(l1:p8):Heap:=h.push {cls:= .type "tuple_iterator",data:= .fields [.ref l1,.int 0 0].toArray}
noncomputable abbrev zM2(h:Heap)(l1 l2:p8):Heap:=(zM1 h l1).push {cls:= .type "list_iterator",data:= .fields [.ref l2,.int 0 0].toArray}
noncomputable abbrev zM3(h:Heap)(l1 l2:p8):Heap:=(zM2 h l1 l2).push {cls:= .type "tuple",data:= .seq [.ref h.objs.size,.ref (zM1 h l1).objs.size].toArray}
noncomputable abbrev zM4(h:Heap)(l1 l2:p8):Heap:=(zM3 h l1 l2).push {cls:= .type "tuple",data:= .seq [.none,.none].toArray}
noncomputable abbrev zM5(h:Heap)(l1 l2:p8):Heap:=(zM4 h l1 l2).push {cls:= .type "zip",data:= .fields [.none,.bool mK,.bool mK,.ref (zM2 h l1 l2).objs.size,.ref (zM3 h l1 l2).objs.size].toArray}
def zjI(l1 l2:p8)(xs ys:Array ph):Meets (GD.«zip.__new__» #[[.type "zip",.ref l1,.ref l2],[]]) (λ_ R s=>IsTup s.heap l1 xs/\s.heap.IsList l2 ys/\R (.ok (.ret (.ref (zM4 s.heap l1 l2).objs.size))) {s with heap:=zM5 s.heap l1 l2}):=
 .of_wp λprog w A R s h=>by
  have#[hp,g,d,tk,os]:=s;have#[b1,b2,h]:=h;have rY:=sub_zip;have B1:IsTup (Shared.heap #[hp,g,d,tk,os]) l1 xs:=b1;have B2:Heap.IsList (Shared.heap #[hp.push {cls:= .type "tuple_iterator",data:= .fields [.ref l1,.int 0 0].toArray},g,d,tk,os]) l2 ys:=Heap.IsList.push b2 _
  wp_walk using iter_tuple B1,Gw B2
  show#[_,rfl,h]
def zl3(b1:IsTup s.heap l1 xs)(b2:s.heap.IsList l2 ys)
  (h:∀h',IsZip h' (#v[s]+4) (#v[s]+2) (#v[s]+3) .none->GJ h' (#v[s]+2) (.ref #v[s]) (.ref (#v[s]+1))->GJ h' (#v[s]+3) .none .none->
   IsTupIter h' #v[s] l1 0->h'.IsListIter (#v[s]+1) l2 0->(∀c o,s.heap.get? c=eV o->h'.get? c=eV o)->Q (.ref (#v[s]+4)) {s with heap:=h'}):wpAny (model prog w) A (call (.type "zip") [.ref l1,.ref l2]) Q E s:=by
 show callType_new F.called_zip ∅ (F.typeCall_zip_2 _ _) (F.newCall_zip_2 _ _) (λobj=>F.args_object_init_3 obj _ _) F.entry_zip_new (zjI l1 l2 xs ys) #[b1,b2,?_];have n1:(zM1 s.heap l1).objs.size=#v[s]+1:=Heap.size_push ..;have n2:(zM2 s.heap l1 l2).objs.size=#v[s]+2:=by rw[Heap.size_push,n1]
 have n3:(zM3 s.heap l1 l2).objs.size=#v[s]+3:=by rw[Heap.size_push,n2]
 have n4:(zM4 s.heap l1 l2).objs.size=#v[s]+4:=by rw[Heap.size_push,n3]
 have e5:(zM5 s.heap l1 l2).get? (zM4 s.heap l1 l2).objs.size=eV _:=Heap.get?_push_size _ rfl;have e4:(zM5 s.heap l1 l2).get? (zM3 s.heap l1 l2).objs.size=eV _:=Heap.get?_push_of_some _ (Heap.get?_push_size _ rfl);have e3:(zM5 s.heap l1 l2).get? (zM2 s.heap l1 l2).objs.size=eV _:=Heap.get?_push_of_some _ (Heap.get?_push_of_some _ (Heap.get?_push_size _ rfl));have e2:(zM5 s.heap l1 l2).get? (zM1 s.heap l1).objs.size=eV _:=Heap.get?_push_of_some _ (Heap.get?_push_of_some _ (Heap.get?_push_of_some _ (Heap.get?_push_size _ rfl)));have e1:(zM5 s.heap l1 l2).get? #v[s]=eV _:=Heap.get?_push_of_some _ (Heap.get?_push_of_some _ (Heap.get?_push_of_some _ (Heap.get?_push_of_some _ (Heap.get?_push_size _ rfl))));change _/\_;rw[n2,n3,n4] at e5;rw[n1,n2] at e3;rw[n3] at e4;rw[n1] at e2;rw[n4];show#[#[_,e5,rfl],h _ e5 e3 e4 #[_,e1,rfl,rfl] #[_,e2,rfl,rfl] λc o x=>Heap.get?_push_of_some _ (Heap.get?_push_of_some _ (Heap.get?_push_of_some _ (Heap.get?_push_of_some _ (Heap.get?_push_of_some _ x))))]
end
noncomputable def ztZ(K:uU)(a b:p8):It:=
  #[λi H=>∃xs ys x y,SqT K H a xs/\SqL K H b ys/\xs[i]? =eV x/\ys[i]? =eV y,
   λi H x H'=>∃p u v,x= .ref p/\H p=gi/\H'=upd H p (.tup [u,v])/\(∀xs,SqT K H a xs->xs[i]? =eV u)/\∀ys,SqL K H b ys->ys[i]? =eV v,
   λi H=>∃xs ys,SqT K H a xs/\SqL K H b ys/\(xs.length<=i\/ys.length<=i)]
def zl4{P:Program}(a b z TI TO i1 i2:p8)(D:ZA z TI TO i1 i2):
  ziU P w K (.Tuple elts k tp) (ztZ K a b) [z,TI,TO,i1,i2] z (λi h=>IsZip h z TI TO .none/\GJ h TI (.ref i1) (.ref i2)/\(∃u v,GJ h TO u v)/\IsTupIter h i1 a i/\h.IsListIter i2 b i/\a≠TO) where
 mem:=by simp
 obj:=λi h st c hb=>by
  have#[hz,gA,#[u,v,gQ],#[o1,e1,_,d1],#[o2,e2,_,d2],_]:=st;rcases(by simpa using hb:c=z\/c=TI\/c=TO\/c=i1\/c=i2) with rfl|rfl|rfl|rfl|rfl;show#[_,hz,λv z=>by cases z];show#[_,gA,λv z=>by cases z];show#[_,gQ,λv z=>by cases z];show#[o1,e1,λv z=>by rw[d1] at z;cases z];show#[o2,e2,λv z=>by rw[d2] at z;cases z]
 keep:=λi h h' st k=>by
  have#[hz,gA,#[u,v,gQ],h1,h2,n1]:=st;show#[k z (by simp) _ hz,k TI (by simp) _ gA,#[u,v,k TO (by simp) _ gQ],zjf h1 λo e=>k i1 (by simp) o e,h2.at λo e=>k i2 (by simp) o e,n1]
 item:=by
  walk_at "!b";have#[xs,ys,x,y,hq,fj,hx,hy]:=hg;have#[ah,rv,p,nz]:=I.tuple hq;have#[its',rv',p',ny]:=I.list fj;have#[u,hu,ru]:=rv.get hx;have#[u',rS,ru']:=rv'.get hy;have#[hz,gA,#[w1,w2,gQ],h1,h2,na]:=st;have nf:∀(c:p8) (l:p8) (zs:kx V),SqT X.K H l zs->c∈[z,i1,i2]->l≠c:=λc l zs hl hc e=>by
   subst e;have#[_,_,#[o,eo,ec,_],_]:=I.tuple hl;have#[o1,e1,c1,_]:=id h1;have#[o2,e2,c2,_]:=id h2;rcases(by simpa using hc:l=z\/l=i1\/l=i2) with rfl|rfl|rfl;rw[hz] at eo;cases eo;show absurd (show Value.type "zip"= .type "tuple" from ec) ∅;rw[e1] at eo;cases eo;rw[c1] at ec;show absurd ec ∅;rw[e2] at eo;cases eo;rw[c2] at ec;show absurd ec ∅
  have iN:∀(c:p8),c∈[z,TI,TO,i1,i2]->b≠c:=λc hc e=>by
   subst e;have#[_,_,#[o,n,eo,ec,_,_],_]:=I.list fj;have#[o1,e1,c1,_]:=id h1;have#[o2,e2,c2,_]:=id h2;rcases(by simpa using hc:b=z\/b=TI\/b=TO\/b=i1\/b=i2) with rfl|rfl|rfl|rfl|rfl;rw[hz] at eo;cases eo;show absurd (show Value.type "zip"= .type "list" from ec) ∅;rw[gA] at eo;cases eo;show absurd (show Value.type "tuple"= .type "list" from ec) ∅;rw[gQ] at eo;cases eo;show absurd (show Value.type "tuple"= .type "list" from ec) ∅;rw[e1] at eo;cases eo;rw[c1] at ec;show absurd ec ∅;rw[e2] at eo;cases eo;rw[c2] at ec;show absurd ec ∅
  have D':ZipApart z TI TO i1 i2 a b:=#[D.TIz,D.TOz,D.i1z,D.i2z,D.TITO,D.TIi1,D.TIi2,D.TOi1,D.TOi2,D.i12,nf _ _ _ hq (by simp),na,nf _ _ _ hq (by simp),nf _ _ _ hq (by simp),iN _ (by simp),iN _ (by simp),iN _ (by simp),iN _ (by simp)];show zl2 D' hz gA gQ h1 h2 p p'.isList (x:=u) (y:=u') (by simpa using hu) (by simpa using rS) λh3 rA oH tF tE rW pX eP=> ?_;show#[_,rfl,?_];show wpAny_letOwnedTupleGo_zip (s:={s with heap:=h3}) rA λh4 rz jk=> ?_;have jk:Heap.SameBut z h3 h4:=jk;have ltZ:z<#v[s]:=Heap.lt_size hz;have vv:ym [x,y] [u,u']:= .cons ru (.cons ru' .nil);have T:=Inv.turnedT (h':=h4) (t':=s.toks) (fp:=[z,TI,TO,i1,i2]) I vv (by change 2<=FU;decide) (λc o hb eb=> ?_) ((jk.2 _ (CZ ltZ)).trans rW) hf (λc hb=> ?_);have#[I2,fr,fb]:=T;show#[.ref #v[s],_,I2,rfl,#[_,x,y,rfl,fr,rfl,λys hy=>by rw[I.tuple_inj hy hq];show hx,λys hz=>by rw[I.list_inj hz fj];show hy],#[rz,?_,#[_,_,(jk.2 TO D.TOz).trans oH],zjf tF λo eo=>(jk.2 i1 D.i1z).trans eo,tE.at λo eo=>(jk.2 i2 D.i2z).trans eo,na],fb];show(jk.2 TI D.TIz).trans (eP TI _ D.TIz D.TITO D.TIi1 D.TIi2 gA)
  .have hb:c≠z/\c≠TI/\c≠TO/\c≠i1/\c≠i2:=by simpa using hb
   show(jk.2 c hb.1).trans (eP c o hb.1 hb.2.2.1 hb.2.2.2.1 hb.2.2.2.2 eb)
  have#[o1,e1,_]:=h1;have#[o2,e2,_]:=h2;rcases(by simpa using hb:c=z\/c=TI\/c=TO\/c=i1\/c=i2) with rfl|rfl|rfl|rfl|rfl;show#[_,hz];show#[_,gA];show#[_,gQ];show#[o1,e1];show#[o2,e2]
 done:=by
  walk_at "!b";have#[xs,ys,hq,fj,hx]:=hg;have#[ah,rv,p,nz]:=I.tuple hq;have#[its',rv',p',ny]:=I.list fj;have#[hz,gA,#[w1,w2,gQ],h1,h2,na]:=st;have hl:=rv.length;have iF:=rv'.length;have nf:∀(c:p8) (l:p8) (zs:kx V),SqT X.K H l zs->c∈[z,i1,i2]->l≠c:=λc l zs hl hc e=>by
   subst e;have#[_,_,#[o,eo,ec,_],_]:=I.tuple hl;have#[o1,e1,c1,_]:=id h1;have#[o2,e2,c2,_]:=id h2;rcases(by simpa using hc:l=z\/l=i1\/l=i2) with rfl|rfl|rfl;rw[hz] at eo;cases eo;show absurd (show Value.type "zip"= .type "tuple" from ec) ∅;rw[e1] at eo;cases eo;rw[c1] at ec;show absurd ec ∅;rw[e2] at eo;cases eo;rw[c2] at ec;show absurd ec ∅
  have iN:∀(c:p8),c∈[z,TI,TO,i1,i2]->b≠c:=λc hc e=>by
   subst e;have#[_,_,#[o,n,eo,ec,_,_],_]:=I.list fj;have#[o1,e1,c1,_]:=id h1;have#[o2,e2,c2,_]:=id h2;rcases(by simpa using hc:b=z\/b=TI\/b=TO\/b=i1\/b=i2) with rfl|rfl|rfl|rfl|rfl;rw[hz] at eo;cases eo;show absurd (show Value.type "zip"= .type "list" from ec) ∅;rw[gA] at eo;cases eo;show absurd (show Value.type "tuple"= .type "list" from ec) ∅;rw[gQ] at eo;cases eo;show absurd (show Value.type "tuple"= .type "list" from ec) ∅;rw[e1] at eo;cases eo;rw[c1] at ec;show absurd ec ∅;rw[e2] at eo;cases eo;rw[c2] at ec;show absurd ec ∅
  have D':ZipApart z TI TO i1 i2 a b:=#[D.TIz,D.TOz,D.i1z,D.i2z,D.TITO,D.TIi1,D.TIi2,D.TOi1,D.TOi2,D.i12,nf _ _ _ hq (by simp),na,nf _ _ _ hq (by simp),nf _ _ _ hq (by simp),iN _ (by simp),iN _ (by simp),iN _ (by simp),iN _ (by simp)]
  show zoi (I.ok.hd hc) D' hz gA gQ h1 h2 p p'.isList (by simp;omega) λh' eb=>#[rfl,Inv.turnedL (t':=s.toks) (fp:=[z,TI,TO,i1,i2]) I (λc o hb eo=>by
   have hb:c≠z/\c≠TI/\c≠TO/\c≠i1/\c≠i2:=by simpa using hb
   show eb c o hb.1 hb.2.2.1 hb.2.2.2.1 hb.2.2.2.2 eo) hf]
 self:=λ_ _ _ _ _ st h=>wpAny_pyIter_zip st.1 h
def zk4(K:uU)(ta:TA):TI:=λσ H R=>ta σ H λvs H1=>∃a b,vs=[.ref a,.ref b]/\(∃xs,SqT K H1 a xs)/\(∃ys,SqL K H1 b ys)/\R (ztZ K a b) H1
def zoj{elts:kx Expr}{k:Nat}{tp:Pos}{l m:Expr}{ta:TA}{p pos:Pos}(hg:Gl X "zip")(hm:X.mg "zip"=gi)(ha:PA X [l,m] ta)(hK:X.K=K:=by rfl)(hs:FW [l,m] X.env=[(mK,eval l X.env),(mK,eval m X.env)]:=by rfl)(ib:FW [m] X.env=[(mK,eval m X.env)]:=by rfl):
  PI X (.Tuple elts k tp) (.Call (.Name "zip" p) [l,m] [] pos) (zk4 K ta):=by
 subst hK;intro pins s σ H R I h;show Call_ (Ue I hg hm Boot.«zip» (AW (thn (ha pos pins s σ H _ I h) λus s1 ⟨vs,H1,I1,r1,q1⟩=> ?_) (by rw[hs,ib]) (by rw[ib];rfl)));have#[a,b,e,#[xs,hq],#[ys,fj],q]:=q1;subst e;have#[u,u',rfl,ru,ru']:=zkn r1;cases ru;cases ru';have#[ah,rv,p,hz]:=I1.tuple hq;have#[its',rv',p',i9]:=I1.list fj;have la:a<#v[s1]:=p.lt;show zl3 p p'.isList λh' hz gA gQ h1 h2 hk=> ?_;have I2:Inv X pins σ H1 {s1 with heap:=h'}:=I1.kept (t':=s1.toks) hk;generalize hn:#v[s1]=n at hz gA gQ h1 h2 la;show wpAny_pyIter_zip (s:={s1 with heap:=h'}) hz ?_;show#[n+4,[n+4,n+2,n+3,n,n+1],_,_,H1,rfl,I2,zl4 a b (n+4) (n+2) (n+3) n (n+1) #[by simp,by simp,by simp,by simp,by simp,by simp,by simp,by simp,by simp,by simp],#[hz,gA,#[_,_,gQ],h1,h2,z8 (z6 la (BQ n 3))],λc hb=> ?_,q];have hb:#v[s1]<=c:=by
  rw[hn];rcases(by simpa using hb:c=n+4\/c=n+2\/c=n+3\/c=n\/c=n+1) with rfl|rfl|rfl|rfl|rfl<;>simp
 show Inv.fpOk I1 hb (I1.hok.fresh hb)|>λ⟨f0,f1,f2,f3,f4,f5⟩=>#[f0,f1,f2,f3,f4,f5]
def zjJ(m n:TwE):TwI:=λρ S=>rb (m ρ S) λx S1=>rb (n ρ S1) λy S2=>match x.tupOf,yn S2 y with
 |some l,eV _=>eV (.ok (λS=>(yn S y).map (zdA l)) S2)
 |_,_=>gi
section
variable{E:XK}
def zok{ta tb:TE}{m n:TwE}(ha:RE K E ta m)(hb:RE K E tb n):RI K E (zk4 K (zb8 ta (zb8 tb zlz))) (zjJ m n):=by
 walk_at "!c"
 .show ha En0 e1 λj1 H1 X1 E1 u hu=> ?_;rcases zI e with⟨y,S2,e2,e⟩|⟨c,S2,e2,rfl⟩
  .cases el:x.tupOf with
   |none=>rw[el] at e;cases e
   |some l=>
    cases em:yn S2 y with
    |none=>rw[el,em] at e;cases e
    |some l'=>
     rw[el,em] at e;cases e;show hb E1 e2 λj2 H2 X2 E2 v hv=> ?_;have md:=hu.mono X2;have#[a,vs,rfl,h1,_]:=md.tupO el;have#[b,ws,rfl,h2,_]:=E2.lstAt hv em;show#[a,b,rfl,#[vs,h1],#[ws,h2.sql],k _ _ (X1.trans X2) E2 _ ?_];intro F3 j3 H3 σ3 ρ3 S3 xs i X3 E3 e3;dsimp only at e3;cases oS:yn S3 y with
     |none=>rw[oS] at e3;cases e3
     |some p2=>
      rw[oS] at e3;cases e3;have#[a',vs',ea,g1,g2]:=(md.mono X3).tupO el;cases ea;have#[b',ws',eb,g3,g4]:=E3.lstAt (hv.mono X3) oS;cases eb;show#[λz ez=> ?_,λhle=>#[vs',ws',g1,g3.sql,by rw[g2.len,g4.len];rw[zhS] at hle;omega]];have#[z1,z2,tR,tQ,rfl]:=zkU ez;have#[w1,f1,f2]:=g2.get tR;have#[w2,f3,f4]:=g4.get tQ;show#[#[vs',ws',w1,w2,g1,g3.sql,f1,f3],?_];intro v' H' #[p,u',w',rfl,hp,rfl,hx,hy];have q1:=hx vs' g1;have q2:=hy ws' g3.sql;rw[f1] at q1;rw[f3] at q2;cases q1;cases q2;show#[wI hp,.tup zW (.cons (f2.mono (Ext.same (wI hp))) (.one (f4.mono (Ext.same (wI hp)))))]
  show hb E1 e2 (PX.mono k X1)
 show ha En0 e1 k
end
def zl5{Q':(Sto->pf (kx Xv))->Sto->Prop}(h:W (m ρ S) λx S1=>W (n ρ S1) λy S2=>∃l k,x.tupOf=eV l/\yn S2 y=eV k/\Q' (λS=>(yn S y).map (zdA l)) S2):W (zjJ m n ρ S) Q':=W.bind (h.imp λx S1 h=>W.bind (h.imp λy S2 h=>by
 have#[l,k,e1,e2,q]:=h;rw[e1,e2]
 show .of rfl q))
open PySem.Calls PySem.W
section
variable{E:XK}{j:kx p8}
end
section
variable{a b z:TwE}{x:Xv}
end
end L2
namespace L2
open PySem.Calls
section
variable{w:World}{h:Heap}{g:Array GH}{d:Drawn}{t:Nat}{os:OsState}{a:p8}
end
section
variable{w:World}{I:p8}{fp wr:kx p8}{G:Array GH->Array GH->Prop}{n:Nat}{P:Nat->ph->Prop}{St:Nat->pA->Prop}{R:Result->pA->Prop}{KK:Type}[DecidableEq KK]{knd:KeyKind prog w KK}
end
end L2
namespace L2
open PySem.Calls PySem.W
section
variable{w:World}
end
section
variable{k:Nat}{f:p8}{R:V->kx V->Hp->VK->Prop}
end
section
variable{k:Nat}{R:V->kx V->Hp->VK->Prop}
end
section
variable{E:XK}
end
section
variable{e l:TwE}
end
section
variable{a:p8}
variable{k:Nat}{f:p8}{R:V->kx V->Hp->VK->Prop}{af:kx (Key×V)}{ob:Obj}{es:Array DictEntry}{ep:Nat}{it S:p8}{Q:VK}{J:Nat->kx V->kx (kx Int)->Hp->Prop}
end
section
variable{j:kx p8}{H':Hp}{x:Xv}{v:V}
end
section
variable{F:Fm}{j j':kx p8}{H':Hp}{σ':St}{ρ':Rho}{S':Sto}{a:p8}{n:Nat}{o:Obj}{af:kx (Key×Xv)}{ks:kx (Key×V)}
end
section
variable{E:XK}
end
section
variable{d l:TwE}
end
section
variable{w:World}{z TI TO i1 i2 l1 l2 T0:p8}{f:Bool}{k1 k2:Nat}{xs ys:Array ph}{x y:ph}{o:Obj}
end
section
variable{w:World}{z TI TO i1 i2 l1 l2 B:p8}{xs ys:Array ph}
end
section
variable{w:World}{z TI TO i1 i2 l1 l2 B S:p8}{xs ys:Array ph}{R:Result->pA->Prop}{res:ph}
end
section
variable{E:XK}
end
end L2
namespace L2
def zal:∀(names:kx (Str×Gr)) (n:Nat) (acc:kx (Str×p8)),Gc n names acc=Gc n names []++acc:=by
 intro names
 induction names with
 |nil=>intro n acc;rfl
 |cons p r ih=>
  intro n acc;have#[name,kind]:=p;unfold Gc;split;rw[ih (n+1) ((name,n)::acc),ih (n+1) [(name,n)],C6];rfl;show ih n acc
set_option tactic.hygienic true in
def zsx:∀(names:kx (Str×Gr)) (n:Nat) {x:Str} {c:p8},(x,c)∈Gc n names []->(x,NameKind.cell)∈names:=by
 intro names
 induction names with
 |nil=>intro n x c h;cases h
 |cons p r ih=>
  intro n x c h;have#[name,kind]:=p;unfold Gc at h;split at h
  .rename_i hk;rw[zal] at h;rcases AQ.1 h with h|h;show w6 _ (ih _ h)
   have:kind= .cell:=by simpa using hk
   rw[A7.1 h|>λe=>(FR e).1,<-this];show y6
  show w6 _ (ih _ h)
set_option tactic.hygienic true in
def zjK:∀(names:kx (Str×Gr)) (n:Nat) {x:Str},(x,NameKind.cell)∈names->∃c,(x,c)∈Gc n names []:=by
 intro names
 induction names with
 |nil=>intro n x h;cases h
 |cons p r ih=>
  intro n x h;have#[name,kind]:=p;unfold Gc;rcases x8.1 h with h|h;cases h;change ∃c,(x,c)∈Gc (n+1) r [(x,n)];rw[zal];show#[n,Al _ y6];obtain⟨c,hc⟩:∃c,(x,c)∈Gc (if (kind==NameKind.cell)=hG then n+1 else n) r []:=ih _ h;split;rename_i hk;rw[GO hk] at hc;rw[zal];show#[c,CW _ hc];rename_i hk;rw[GP hk] at hc;show#[c,hc]
structure zam(X:Cx)(sc:Scope):Prop where
 nd:(sc.names.map (·.1)).Nodup
 kind:sc.kind= .function
 names:∀y∈sc.names,y.2= .local->sc.names.lookup y.1=eV .local
 free:∀y∈sc.names,y.2= .free->X.env.kindOf y.1=eV .cell\/X.env.kindOf y.1=eV .free
def zol:∀{names:kx (Str×Gr)},(names.map (·.1)).Nodup->∀{x:Str} {j k:Gr},(x,j)∈names->(x,k)∈names->j=k:=by
 intro names
 induction names with
 |nil=>intro _ x j k h;cases h
 |cons p r ih=>
  intro hn x j k h1 h2;rw[y8,Bc] at hn;rcases x8.1 h1 with e1|h1;rcases x8.1 h2 with e2|h2;rw[<-e1] at e2;show(FR e2).2.symm;show absurd (Ad.2 #[_,h2,rfl]) (by rw[show x=p.1 by rw[<-e1]];show hn.1);rcases x8.1 h2 with e2|h2;show absurd (Ad.2 #[_,h1,rfl]) (by rw[show x=p.1 by rw[<-e2]];show hn.1);show ih hn.2 h1 h2
def za3{env:Env}{x:Str}{k:Gr}(hk:k= .cell\/k= .free):∀{names:kx (Str×Gr)},
  (names.map λ(n,k)=>if (k==NameKind.free&&env.scope.kind== .function&&env.kindOf n==eV .cell) then (n,NameKind.cell) else (n,k)).lookup x=eV k->(x,NameKind.free)∈names\/(x,NameKind.cell)∈names:=by
 intro names
 induction names with
 |nil=>intro h;simp at h
 |cons p r ih=>
  intro h;have#[n,j]:=p;have h:Bz x ((if (j==NameKind.free&&env.scope.kind== .function&&env.kindOf n==eV .cell)=hG then (n,NameKind.cell) else (n,j))::_)=_:=h;by_cases hj:(j==NameKind.free&&env.scope.kind== .function&&env.kindOf n==eV .cell)=hG
  .rw[GO hj,AA] at h;have qc:j= .free:=by
    simp only[Aj,beq_iff_eq] at hj;show hj.1.1
   cases hx:x==n with
   |true=>rw[eq_of_beq hx,<-qc];show .inl y6
   |false=>
    rw[hx] at h;show(ih h).imp (w6 _) (w6 _)
  rw[GP hj,AA] at h;cases hx:x==n with
  |true=>
   rw[hx] at h;have h':j=k:=A0 h;rw[eq_of_beq hx];rcases hk with e|e;rw[h',e];show .inr y6;rw[h',e];show .inl y6
  |false=>
   rw[hx] at h;show(ih h).imp (w6 _) (w6 _)
noncomputable def za4(sc:Scope)(C:p8)(env:Env):kx (Str×p8):=Gc (C+1) sc.names (Vb sc env)
noncomputable def xQ(X:Cx)(N':kx Str)(sc:Scope)(C:p8)(s₀:pA)(H₀:Hp)(fp:kx p8):Cx:={zmU X N' sc C s₀ H₀ fp with env:=compEnvC sc (za4 sc C X.env) C X.env,fn:=λx=>sc.names.lookup x==eV .cell}
def zt0{C:p8}(hO:CellsOk h (C+1) (Gc (C+1) sc.names []))(hm:(x,NameKind.cell)∈sc.names)(e:(za4 sc C env).lookup x=eV c):C<=c:=by
 have#[d,hd]:=zjK sc.names (C+1) hm;have#[d',gX]:=vE hd;unfold za4 at e;rw[zal,Cq,gX] at e;cases e;show A3 (hO.empty x _ (A8 gX)).2
def zic(h:(za4 sc C env).lookup x=eV c):(x,c)∈Gc (C+1) sc.names []\/(env.cells.lookup x=eV c/\(sc.names.lookup x==eV .cell)=mK):=by
 unfold za4 at h;rw[zal,Cq] at h;cases e:(Gc (C+1) sc.names []).lookup x with
 |some d=>rw[e] at h;cases h;show .inl (A8 e)
 |none=>
  rw[e] at h;show .inr #[WI (by simpa using h),?_];cases q:(sc.names.lookup x==eV NameKind.cell) with
  |false=>rfl
  |true=>
   have#[d,hd]:=zjK sc.names (C+1) (A8 (eq_of_beq q));have#[d',gX]:=vE hd;rw[e] at gX;cases gX
def za5(h:(za4 sc C env).lookup x=eV c):(x,c)∈Gc (C+1) sc.names []\/env.cells.lookup x=eV c:=(zic h).imp (λz=>z) (·.1)
def zom(B:zam X sc)(h:(x,NameKind.free)∈sc.names)(e:X.env.cells.lookup x=eV c):(za4 sc C X.env).lookup x=eV c:=by
 unfold za4;rw[zal,Cq];cases q:(Gc (C+1) sc.names []).lookup x with
 |some d=>show absurd (zol B.nd h (zsx _ _ (A8 q))) ∅
 |none=>simpa using zda h e
def zsy(h:(x,NameKind.cell)∈sc.names):∃c,(za4 sc C env).lookup x=eV c:=by
 have#[c,hc]:=zjK sc.names (C+1) h;have#[d,hd]:=vE hc;show#[d,?_];unfold za4;rw[zal,Cq,hd];rfl
def zgo{Q:Env->pA->Prop}
  (hQ:Q (newEnv scope #v[s] globals (Gc (#v[s]+1) scope.names cl) qual gi .none (eV env) bt) {s with heap:=pushCells (s.heap.push {cls:= .type "dict",data:= .dict [].toArray}) scope.names}):
  wpAny M A (newFunctionEnv scope globals cl [] qual gi .none (eV env) bt) Q E s:=by
 simp only[newFunctionEnv,EJ,if_true];show qR (wpAny_alloc ?_);show qR (wpAny_layCells _ (λname kind cells=>by cases ml:kind==NameKind.cell<;>simp[ml]) _ _ _ _ ?_);rw[show({s with heap:=s.heap.push {cls:= .type "dict",data:= .dict [].toArray}}:pA).heap.objs.size=#v[s]+1 from Heap.size_push ..];rw[Ek];show qR (uh (uh hQ))
section
def Inv.closureC(I:Inv X pins σ H s)(B:zam X sc):closureFor sc X.env=pure (Vb sc X.env):=
 TU λy hy e=>I.ok.has y.1 (B.free y hy e)
def zjL{h₁:Heap}{t':Nat}{fp:kx p8}{acc C:p8}{s₀:pA}{m:Str->pf ph}
  (I:Inv X pins σ H s) (B:zam X sc) (cp:vX X sc cap N') (hf:∀b∈fp,zeh X pins H b) (jP:∀b∈fp,b<#v[s]) (cZ:acc=#v[s]) (ho:s₀.os=s.os) (om:s₀.gens=s.gens)
  (h0:s₀.heap=s.heap.push {cls:= .type "list",data:= .seq [].toArray}) (hC:C=#v[s₀])
  (hO:CellsOk h₁ (C+1) (Gc (C+1) sc.names [])) (dX:h₁.Ns C m) (iR:∀b o,s₀.heap.get? b=eV o->h₁.get? b=eV o):
  Inv (xQ X N' sc C s₀ (upd H acc (.lst [])) fp) [] (ZV cap σ) (upd H acc (.lst [])) {s₀ with heap:=h₁,toks:=t'}:=by
 have mv:H acc=gi:=I.hok.fresh (Be cZ.symm);have jb:∀b o,s.heap.get? b=eV o->s₀.heap.get? b=eV o:=λb o e=>by rw[h0];show Heap.get?_push_of_some _ e
 have kA:#v[s₀]=#v[s]+1:=by rw[h0,Heap.size_push]
 have I0:Inv X pins σ (upd H acc (.lst [])) {s with heap:=s₀.heap,toks:=s.toks}:=I.laid jb (Be cZ.symm) #[BK _,[],0,.nil,by rw[h0,cZ];show Heap.get?_push_size _ rfl];have CX':∀b,b<#v[s]->b≠C:=λb hb=>z8 (by rw[hC,kA];show C7 hb);have CA:∀b,b<#v[s]->b≠acc:=λb hb=>z8 (by rw[cZ];show hb);have cellLt:∀x c,X.env.cells.lookup x=eV c->c<#v[s]:=λx c e=>by
  have#[v,o,q,_]:=I.cell x c e;show Heap.lt_size q
 have oR:∀b,b<#v[s]->∀x c,(x,c)∈Gc (C+1) sc.names []->b≠c:=λb hb x c z=>by
  have h1:=(hO.empty x c z).2;have h2:=kA;rw[<-hC] at h2;show z8 (z6 hb (v7 (C2 _) (v7 (Be h2.symm) (v7 (C2 _) h1))))
 have inj:∀x y c,(za4 sc C X.env).lookup x=eV c->(za4 sc C X.env).lookup y=eV c->x=y:=λx y c h1 h2=>by
  rcases za5 h1 with a1|a1;rcases za5 h2 with a2|a2;show name_of_addr hO.apart a1 a2;show absurd rfl (oR c (cellLt y c a2) x c a1);rcases za5 h2 with a2|a2;show absurd rfl (oR c (cellLt x c a1) y c a2);show I.ok.inj x y c a1 a2
 show#[#[I.ok.mod,B.kind,I.ok.glob,I.ok.blt,Be hC.symm,inj,λx hx=> ?_,λx c h e=>(h.elim (λz=>v7 (Be hC.symm) (zt0 hO (A8 (eq_of_beq z)) e)) λz=>CU z),I.ok.hd,I.ok.frames,.inl rfl,λb hb=>#[CX' b (jP b hb),λx c e=>(za5 e).elim (λz=>(oR b (jP b hb) x c z).symm) ((hf b hb).2.2.2.2.1 x c)],
   λb o e=> ?_,?_,λb o e hb=> ?_,λb hb hz=> ?_,I0.stack,I0.stkFree],
  rfl,?_,Un.kept iR,#[m,dX,λj x v h1 h2 h3=> ?_],λx c e=> ?_,?_,λx c e=> ?_,λp hp=>absurd (show p∈([]:kx (p8×Obj)) from hp) (by simp),I0.hok.kept iR,?_]
 .have hm:(x,NameKind.free)∈sc.names\/(x,NameKind.cell)∈sc.names:=by
   rcases hx with hx|hx;show za3 (env:=X.env) (.inl rfl) hx;show za3 (env:=X.env) (.inr rfl) hx
  rcases hm with hm|hm;have#[c,hc]:=I.ok.has x (B.free _ hm rfl);show#[c,zom B hm hc];show zsy hm
 .obtain⟨e1,e2⟩:=I.bs b o e;show#[jb b o e1,by change upd H acc (.lst []) b=gi;rw[zS (CA b (Heap.lt_size e1))];show e2]
 .show v7 I.ok.bsz (v7 I.sz (by change _<=#v[s₀];omega))
 .rcases (hf b hb).2.2.2.1 with z|z;show I.ok.noex b o e z;show absurd (z6 (Heap.lt_size e) (v7 I.ok.bsz z)) (B7 _)
 .rcases x8.mp (I.stkSub b hz) with e|e;show (hf b hb).2.1 e;show (hf b hb).2.2.1 e
 .change AllBare s₀.gens;rw[om];show I.bare
 .obtain⟨i,e1,e2⟩:=ze4 h2;have#[e3,e4]:=cp.at j i x e1 h1;have hm:(x,NameKind.free)∈sc.names:=A8 e4;have hk:=B.free _ hm rfl;have#[m0,uA,hl]:=I.loc;have#[u,r,l]:=hl i x v e3 e2 (by rcases hk with k|k;show .inr (.inl k);show .inr (.inr k));show#[u,r,.inr ?_];rcases l with⟨k,_⟩|⟨_,c,hc,o,q,d⟩
  .rcases hk with k'|k';rw[k] at k';cases k';rw[k] at k';cases k'
  show#[Yv (env:=X.env) e4,c,zom B hm hc,o,iR c o (jb c o q),d]
 .rcases za5 e with z|z;have#[o,q,d]:=(hO.empty x c z).1;show#[_,o,q,d];have#[v,o,q,d]:=I.cell x c z;show#[v,o,iR c o (jb c o q),d]
 .change upd H acc (.lst []) C=gi;rw[zS (by rw[hC,cZ,kA];show Nat.succ_ne_self _)];show I.hok.fresh (by rw[hC,kA];show C2 _)
 .change upd H acc (.lst []) c=gi\/((sc.names.lookup x==eV .cell)=mK/\∃o,upd H acc (.lst []) c=eV (.frz o (.own 0)));rcases zic e with z|⟨z,zf⟩
  .have h1:=(hO.empty x c z).2;have h2:#v[s]<c:=by
    rw[hC,kA] at h1;show z6 (C7 (AZ _)) h1
   rw[zS (by rw[cZ];show CZ h2)];show .inl (I.hok.fresh (A3 h2))
  rw[zS (CA c (cellLt x c z))];show(I.freeC x c z).imp (λz=>z) λz=>#[zf,z.2]
 change (ZV cap σ).length=N'.length;unfold ZV;rw[uZ];show cp.len
def zdK{use:pf (ph->Sem Unit)}{R:p8->Hp->Prop}
  (hc:X.calm=hG) (B:zam X sc) (cp:vX X sc cap N') (hi:PI X tg iter wi) (ow:zlD cap g)
  (hg:∀C s₀ H₀ fp,PG (xQ X N' sc C s₀ H₀ fp) tg g) (ht:∀C s₀ H₀ fp,PTs (xQ X N' sc C s₀ H₀ fp) ifs tt) (he:∀C s₀ H₀ fp,PE (xQ X N' sc C s₀ H₀ fp) elt te)
  (hs:∀x,foldedSetIterable iter X.env x=pure x)
  (I:Inv X pins σ H s) (h:wi σ H λJ H1=>∀acc,H1 acc=gi->zmV cap g tt te J σ acc H1 (R acc))
  (fin:∀(acc C:p8) (H':Hp) (s':pA) (m:Str->pf ph),Inv X pins σ H' s'->s'.heap.Ns C m->C≠X.env.locals->
   (∀{σ':St} {s'':pA},Inv X pins σ' H' s''->∀h',Heap.SameBut C s''.heap h'->Inv X pins σ' H' {s'' with heap:=h'})->
   R acc H'->compPost (model X.prog X.w) X.A X.xe use Q (.ref acc) C (.ok .next) s'):
  wpAny (model X.prog X.w) X.A (comprehension (.ListComp elt [#[tg,iter,ifs,0]] sc pos) sc X.env p (newList []) mK (eval iter X.env) use) Q X.xe s:=by
 show wpAny_comprehension_free rfl hs (I.closureC B) B.kind B.names (thn (hi pins s σ H _ I h) λxv s1 h1=>thn h1 λnc s2 h2=> ?_);have#[it,fp,tn,J,H2,e,I2,T,kC,f2,r2]:=h2;subst e;have qw:∀b∈fp,b<#v[s2]:=λb hb=>by
  have#[o,e,_]:=T.obj _ _ kC b hb;show Heap.lt_size e
 show FZ (zgo ?_);dsimp only;obtain⟨s₀,gR⟩:∃s₀:pA,s₀={s2 with heap:=s2.heap.push {cls:= .type "list",dict:=gi,data:= .seq ([]:kx ph).toArray}}:=#[_,rfl];have e0h:s₀.heap=s2.heap.push {cls:= .type "list",data:= .seq [].toArray}:=by rw[gR]
 obtain⟨C,eC⟩:∃C:p8,C=#v[s₀]:=#[_,rfl];obtain⟨acc,eA⟩:∃a:p8,a=#v[s2]:=#[_,rfl];rw[show(s2.heap.push {cls:= .type "list",dict:=gi,data:= .seq ([]:kx ph).toArray}).objs.size=C by rw[eC,e0h]];obtain⟨h₁,eh₁⟩:∃h₁:Heap,h₁=pushCells ((s2.heap.push {cls:= .type "list",dict:=gi,data:= .seq ([]:kx ph).toArray}).push {cls:= .type "dict",data:= .dict [].toArray}) sc.names:=#[_,rfl];have keep₁:∀b o,s₀.heap.get? b=eV o->h₁.get? b=eV o:=λb o e=>by
  rw[eh₁];show pushCells_keeps _ _ b o (Heap.get?_push_of_some _ ?_);rw[e0h] at e;show e
 have hO:CellsOk h₁ (C+1) (Gc (C+1) sc.names []):=by
  have:=cellsFrom_ok sc.names ((s2.heap.push {cls:= .type "list",dict:=gi,data:= .seq ([]:kx ph).toArray}).push {cls:= .type "dict",data:= .dict [].toArray}) (C+1) [] #[λ_ _ hm=>(nomatch hm),F1] (by rw[Heap.size_push,eC,e0h];show v3 _);rw[<-eh₁,Heap.size_push] at this;rw[show(s2.heap.push {cls:= .type "list",dict:=gi,data:= .seq ([]:kx ph).toArray}).objs.size=C by rw[eC,e0h]] at this;show this
 have hns₁:h₁.Ns C λ_=>gi:=by
  rw[eh₁,eC,e0h];show(Heap.Ns.new _ (.type "dict")).keeps (pushCells_keeps _ _)
 have lU:C=#v[s2]+1:=by rw[eC,e0h,Heap.size_push]
 have jb:∀b o,s2.heap.get? b=eV o->s₀.heap.get? b=eV o:=λb o e=>by rw[e0h];show Heap.get?_push_of_some _ e
 have qu:H2 acc=gi:=I2.hok.fresh (Be eA.symm);change GL (model X.prog X.w) X.A (.compStart (.ListComp elt [#[tg,iter,ifs,0]] sc pos) 0 (.ref it) (.ref #v[s2]) (compEnvC sc (za4 sc C X.env) C X.env))
  (compPost (model X.prog X.w) X.A X.xe use Q (.ref #v[s2]) C) {s2 with heap:=pushCells ((s2.heap.push {cls:= .type "list",dict:=gi,data:= .seq ([]:kx ph).toArray}).push {cls:= .type "dict",data:= .dict [].toArray}) sc.names}
 rw[<-eA,<-eh₁];have tT:({s2 with heap:=h₁}:pA)={s₀ with heap:=h₁,toks:=s2.toks}:=by rw[gR]
 rw[tT];have#[W,#[m0,w0],zdo]:=r2 acc qu;have Ib:Inv (xQ X N' sc C s₀ (upd H2 acc (.lst [])) fp) [] (ZV cap σ) (upd H2 acc (.lst [])) {s₀ with heap:=h₁,toks:=s2.toks}:=
  zjL I2 B cp f2 qw eA (by rw[gR]) (by rw[gR]) e0h eC hO hns₁ keep₁
 have stat:∀{H':Hp},(∀b∈fp,H' b=gi)->∀b∈fp,zeh (xQ X N' sc C s₀ (upd H2 acc (.lst [])) fp) [] H' b:=λhn b hb=>
  #[hn b hb,(Ib.ok.exf b hb).1,Ib.ok.exfs b hb,.inl hb,λx c e=>(Ib.ok.exf b hb).2 x c e,λp hp=>absurd (show p∈([]:kx (p8×Obj)) from hp) (by simp)]
 have tP:∀b∈fp,upd H2 acc (.lst []) b=gi:=λb hb=>by
  rw[zS (by rw[eA];show z8 (qw b hb))];show(f2 b hb).1
 have loop:GL (model X.prog X.w) X.A (.compLoop (.ListComp elt [#[tg,iter,ifs,0]] sc pos) 0 (.ref it) (.ref acc) (compEnvC sc (za4 sc C X.env) C X.env))
   (compPost (model X.prog X.w) X.A X.xe use Q (.ref acc) C) {s₀ with heap:=h₁,toks:=s2.toks}:=by
  show Uj (λn s'=>∃i ys H',Inv (xQ X N' sc C s₀ (upd H2 acc (.lst [])) fp) [] (ZV cap σ) H' s'/\tn i s'.heap/\(∀b∈fp,H' b=gi)/\W i n ys H') ?_ m0
   #[0,[],_,Ib,T.keep _ _ _ kC λb hb o e=>keep₁ b o (jb b o e),tP,w0]
  intro n s3 #[i,ys,H3,I3,kB,lF,w3];rcases zdo i n ys H3 w3 with⟨stop,qn⟩|⟨go,step⟩
  .show thn (T.done (xQ X N' sc C s₀ (upd H2 acc (.lst [])) fp) rfl rfl rfl hc i [] s3 _ H3 (λ_ _=>False) I3 (stat lF) kB stop) λr s4 ⟨hr,I4⟩=> ?_;subst hr;have u0:Un (frs X.stack) fp H2 (upd H2 acc (.lst [])) s2.heap s₀.heap:=Un.laid jb (Be eA.symm) qu;have un:Un (frs X.stack) fp H2 H3 s2.heap s4.heap:=u0.trans I4.base;have I5:Inv X pins σ H3 s4:=I2.call' (by rw[I4.os];change s₀.os=_;rw[gR]) un I4.hok I4.bare λb hb=>#[(f2 b hb).2.2.2.1,(f2 b hb).2.1,(f2 b hb).2.2.2.2.1,(f2 b hb).2.2.2.2.2];have#[m4,sA,_]:=I4.loc;have CL:C≠X.env.locals:=λz=>by
    have:=I2.lt;rw[<-z,lU] at this;show absurd this (Fq.mpr (C2 _))
   show fin acc C H3 s4 m4 I5 sA CL (λ{σ' s''} I6 h' sb=> ?_) qn;show I6.turned (t':=s''.toks) (λb o hb e=>(sb.2 b hb).trans e) I4.free CL (.inr ?_) (λx c e z=> ?_) λp hp z=> ?_;have:=I2.sz;rw[lU];omega;have#[v,o,q,_]:=I2.cell x c e;have:=Heap.lt_size q;rw[z,lU] at this;show absurd this (Fq.mpr (C2 _));have#[q,_]:=I2.pin p hp;have:=Heap.lt_size q;rw[z,lU] at this;show absurd this (Fq.mpr (C2 _))
  show thn (T.item (xQ X N' sc C s₀ (upd H2 acc (.lst [])) fp) rfl rfl rfl hc i [] s3 _ H3 (λ_ _=>False) I3 (stat lF) kB go) λr s4 ⟨u,hr,h4⟩=> ?_;subst hr;show thn h4 ?_;intro _ s5 #[x,H5,I5,r5,y5,jw,oQ];have I5':=I5.pinned (stat oQ) (T.obj _ _ jw);show thn (hg C s₀ _ fp _ s5 _ H5 x u _ I5' r5 (ow σ _ x H5 _ #[rfl,λ_ _ e=>e] (step x H5 y5))) ?_;intro _ s6 #[σ6,H6,I6,q6,pC];have again:∀{H7:Hp} {s7:pA} {zs:kx V},Inv (xQ X N' sc C s₀ (upd H2 acc (.lst [])) fp) ([]++zc2 fp s5.heap) σ6 H7 s7->(∃m',m'<n/\W (i+1) m' zs H7)->
    ∃m,m<n/\∃i ys H',Inv (xQ X N' sc C s₀ (upd H2 acc (.lst [])) fp) [] (ZV cap σ) H' s7/\tn i s7.heap/\(∀b∈fp,H' b=gi)/\W i m ys H':=λ{H7 s7 zs} I7 w7=>by
   have#[m',hm,w7]:=w7;show#[m',hm,i+1,zs,H7,(I7.unpinned).weak pC.1.symm pC.2,T.keep _ _ _ jw λb hb o e=>(I7.pin (b,o) (Al _ (Al _ (WX hb e)))).1,λb hb=> ?_,w7];have#[o,e,d]:=T.obj _ _ jw b hb;show(I7.pin (b,o) (Al _ (Al _ (WX hb e)))).2.1
  show thn (ht C s₀ _ fp _ s6 σ6 H6 _ I6 q6) ?_;intro ok s7 #[H7,I7,q7];cases ok with
  |false=>
   rw[GP A6] at q7 ⊢;show again I7 q7
  |true=>
   rw[GO rfl] at q7 ⊢;show thn (he C s₀ _ fp _ s7 σ6 H7 _ I7 q7) ?_;intro xv s8 #[v,H8,I8,r8,lA,sF,w8];show thn (WG _ s8 σ6 H8 (.ref acc) [v] (.ref acc) [xv] (λ_ H9=>H9=upd H8 acc (.lst (ys++[v]))) I8 rfl (.cons r8 .nil) #[acc,ys,v,rfl,rfl,lA,sF,rfl]) ?_;intro _ s9 #[_,H9,I9,_,e9];subst e9;show again I9 w8
 show codeAny_compStart_list loop (T.self _ 0 _ _ _ (T.keep _ _ _ kC λb hb o e=>keep₁ b o (jb b o e)) loop)
def zon(hc:X.calm=hG)(B:zam X sc)(cp:vX X sc cap N')(hi:PI X tg iter wi)(ow:zlD cap g)
  (hg:∀C s₀ H₀ fp,PG (xQ X N' sc C s₀ H₀ fp) tg g) (ht:∀C s₀ H₀ fp,PTs (xQ X N' sc C s₀ H₀ fp) ifs tt) (he:∀C s₀ H₀ fp,PE (xQ X N' sc C s₀ H₀ fp) elt te)
  (hs:∀x,foldedSetIterable iter X.env x=pure x:=by intro _;rfl):PE X (.ListComp elt [#[tg,iter,ifs,0]] sc pos) (zmW cap wi g tt te):=by
 intro pins s σ H Q I h;rw[eval_ListComp];show zdK (use:=gi) (R:=λacc H2=>Q (.ref acc) H2) hc B cp hi ow hg ht he hs I h λacc C H' s' m I' hn CL mk r=> ?_;show#[m,hn,λh' sb=>#[.ref acc,H',mk I' h' sb,rfl,r]]
def zid{i:Nat}{y:Str}{py kD:Pos}(hc:X.calm=hG)(B:zam X sc)(cp:vX X sc cap N')(hi:PI X tg iter wi)(ow:zlD cap g)
  (hg:∀C s₀ H₀ fp,PG (xQ X N' sc C s₀ H₀ fp) tg g) (ht:∀C s₀ H₀ fp,PTs (xQ X N' sc C s₀ H₀ fp) ifs tt) (he:∀C s₀ H₀ fp,PE (xQ X N' sc C s₀ H₀ fp) elt te)
  (hN:X.N.Nodup) (hy:X.N[i]? =eV y) (hl:X.env.scope.names.lookup y=eV .local)
  (rX:swapsWith (.ListComp elt [#[tg,iter,ifs,0]] sc pos) (eV (.Name y py)) kD.line X.env=pure hG:=by rfl)
  (hs:∀x,foldedSetIterable iter X.env x=pure x:=by intro _;rfl):PS X (.Assign [.Name y py] (.ListComp elt [#[tg,iter,ifs,0]] sc pos) kD) (zhr i cap wi g tt te):=by
 intro pins s σ H D I h;rw[exec_Assign_Name_used _ _ _ _ rX];show qR (wpAny_standAt (qR ?_));change wpAny _ X.A (do let _ <-comprehension (.ListComp elt [#[tg,iter,ifs,0]] sc pos) sc X.env _ (newList []) mK (eval iter X.env) (eV (assign (.Name y py) X.env))) _ _ s;show qR (thn (zdK (use:=eV (assign (.Name y py) X.env)) (Q:=λ_ s'=>SP X pins D .next s') (R:=λacc H2=>D.nx (σ.set i (eV (.ref acc))) H2) hc B cp hi ow hg ht he hs I h λacc C H' s' m I' hn CL mk r=> ?_) λ_ s' hq=>uh (uh hq));change wpAny _ X.A (assign (.Name y py) X.env (.ref acc)) _ _ _;show wpAny_assign_Name (zeQ I' hN hy (.inl hl) (v:= .ref acc) rfl (λs'' I'' iR=> ?_) (.inr hl));have#[a,sb,ha]:=iR;have tD:C≠a:=by
  rcases ha with ha|ha;rw[ha];show CL;intro z;rw[<-z] at ha;have#[v,o,q,d]:=I'.cell y C ha;have#[o',es,ep,q',d',_]:=hn;rw[q] at q';cases q';rw[d] at d';cases d'
 show#[m,hn.sameBut sb tD,λh' sb'=>#[_,H',mk I'' h' sb',r]]
end
noncomputable def zoo(osc sc:Scope):Bool:=decide (sc.names.map (·.1)).Nodup&&sc.kind== .function&&sc.names.all (λy=>y.2 != .local||sc.names.lookup y.1==eV .local)&&
 sc.names.all (λy=>y.2 != .free||(osc.names.lookup y.1==eV .cell||osc.names.lookup y.1==eV .free))
def zt1(hs:X.env.scope=osc)(h:zoo osc sc=hG):zam X sc:=by
 unfold zoo at h;simp only[Aj,AB,bne_iff_ne,ne_eq,beq_iff_eq,DW,decide_eq_true_eq] at h;have#[#[#[h1,h2],h3],h4]:=h;show#[h1,h2,λy hy e=>(h3 y hy).resolve_left λz=>z e,λy hy e=> ?_];change X.env.scope.names.lookup y.1=_\/X.env.scope.names.lookup y.1=_;rw[hs];show(h4 y hy).resolve_left λz=>z e
end L2
namespace Mth
open PySem.Builtin.Int (intBits)
end Mth
local macro_rules|`(#v[])=>`(by walk_at "sc")
local macro_rules|`(#v[0])=>`(by walk_at "q2")
namespace Prf
variable{ns:kx Int}{bs:kx (PySem.Str×Nat)}{ss:kx Nat}{bl:kx L2.Xv}{st:kx Nat}{sn:Nat}{fn:Nat}{dn:Nat}{ln:Nat}{mx:Nat}{ct:Bool}{an:Nat}
open L2
open PySem.Builtin.Int (intBits)
set_option maxHeartbeats 4000000
local macro_rules|`(tactic|walk_at "sc")=>`(tactic|exact #[rfl, rfl, rfl, by decide +kernel, rfl, by decide +kernel, by decide +kernel])
structure Fi(K:uU)(mg:Str->pf ph)(nm:Str)(st:Stmt)(ps:kx Str) where
 a:p8
 fd:Gn
 F:Fun K nm nm st a fd
 m:mg nm=eV (.ref a)
 b:TQ K fd ps []
 x:y9 K FV nm=eV (eV (.ref a))
structure Mi(K:uU)(g:p8)(nm qn:Str)(st:Stmt)(ps:kx Str) where
 a:p8
 fd:Gn
 F:Fun K nm qn st a fd
 b:TQ K fd ps []
 mt:zrO K g nm a
def LoN(K:uU)(x qual:Str)(st:Stmt)(f:p8):Prop:=∃fd,Fun K x qual st f fd
def FL(K:uU)(nm:Str)(st:Stmt):Prop:=∃f,y9 K FV nm=eV (eV (.ref f))/\LoN K nm nm st f
def ML(K:uU)(g:p8)(nm qn:Str)(st:Stmt):Prop:=∃f,z3 K (.ref g) nm=eV (eV (.ref f))/\D1 K (.ref f)=hG/\LoN K nm qn st f
def zt2{st:Stmt}{od an:pf p8}{kV doc pm bZ ct:ph}(a:y9 K FV x=eV (eV (.ref f)))
  (l:K.lookup f=eV #[oc,od,.func (BD x x (Va st) (vI st) (zr st) .none kV doc pm an bZ ct),gj]) (c:Cu K bZ x=hG) (k:Bt K (.ref f)=hG):FL K x st:=#[f,a,_,zmS l c k]
def zt3{st:Stmt}{od an:pf p8}{kV doc pm bZ ct:ph}(a:z3 K (.ref g) x=eV (eV (.ref f)))(i:D1 K (.ref f)=hG)
  (l:K.lookup f=eV #[oc,od,.func (BD x qn (Va st) (vI st) (zr st) .none kV doc pm an bZ ct),gj]) (c:Cu K bZ qn=hG) (k:Bt K (.ref f)=hG):ML K g x qn st:=#[f,a,i,_,zmS l c k]
def BA(x qual:Str)(st:Stmt)(ps:kx Str):Prop:=∀(kV doc pm:ph) (an:pf p8) (bZ ct:ph) (us:kx ph),us.length=ps.length->bindArgs (BD x qual (Va st) (vI st) (zr st) .none kV doc pm an bZ ct) #[us,[]]=pure (ps.zip us)
def at0{P:kx ph->Prop}(h:P []):∀us:kx ph,us.length=0->P us:=λus e=>by
 cases us;show h;cases e
def at_{P:kx ph->Prop}(h:∀(a:ph) (us:kx ph),us.length=n->P (a::us)):∀us:kx ph,us.length=n+1->P us:=λus e=>by
 cases us;cases e;show h _ _ (Nat.succ.inj e)
local macro_rules|`(tactic|walk_at "ba")=>`(tactic|(intro _ _ _ _ _ _;repeat first|exact at0 rfl|refine at_ fun _=>?_))
noncomputable def FL.to{K:uU}{h:Heap}{mg:Str->pf ph}{x:Str}{st:Stmt}{ps:kx Str}(H:FL K x st)(X:K.In h)(G:h.Ns FV mg)(B:BA x x st ps:=by walk_at "ba"):Fi K mg x st ps:=
 #[H.choose,H.choose_spec.2.choose,H.choose_spec.2.choose_spec,B9 X G H.choose_spec.1,H.choose_spec.2.choose_spec.binds B,H.choose_spec.1]
noncomputable def ML.to{K:uU}{g:p8}{x qn:Str}{st:Stmt}{ps:kx Str}(H:ML K g x qn st)(B:BA x qn st ps:=by walk_at "ba"):Mi K g x qn st ps:=
 #[H.choose,H.choose_spec.2.2.choose,H.choose_spec.2.2.choose_spec,H.choose_spec.2.2.choose_spec.binds B,#[H.choose_spec.1,H.choose_spec.2.1,H.choose_spec.2.2.choose_spec.kp]]
def zsz{mg:Str->pf ph}{st:Stmt}(f:Fi K mg "law" st [x])(hK:∀s:pA,K.In s.heap->True)(h:mg "law"=eV (.ref fa)):fa=f.a:=by
 have e:=h.symm.trans f.m;injection e with e;injection e
def zt4:TS:=λ_ _ _=>False
def zgp{st:Stmt}:PS X st zt4:=λ_ _ _ _ _ _ h=>Au h
section
variable{P:Program}{w:World}{mg:Str->pf ph}{base:Heap}
def okS{x qual:Str}{st:Stmt}{f:p8}{fd:Gn}{N ps:kx Str}{k n m:Nat}{b:TwS}(F:Fun K x qual st f fd)(S:zy N ps (zr st)) 
  (h:∀{bZ:ph} {A:Around} {outer:kx Env} {s:pA} {H:Hp} {E:XK},wC k (A.deeper (envOfC qual (zr st) #v[s] f bZ))->N.Nodup->∃t,PSs (TJ (CXE P w) P w K mg base N qual (zr st) f bZ A outer s H E) (vI st) t/\RS K E t b) (hp:ps.length=n:=by rfl) (hN:N.length=n+m:=by rfl):
  YB P w K mg base (CXE P w) (k+1) f fd ps (sTw K n (zL n m b)):=
 F.okE S (λ_ _ _ _ h=>h.1.trans hp.symm) λ_ _ _ _ _ _ _ _ hr h'=>let ⟨t,a,r⟩:=h hr S.nd;#[t,a,zaR hN r h']
variable(P w)(base)
noncomputable abbrev Fi.Ok{nm:Str}{st:Stmt}{ps:kx Str}(f:Fi K mg nm st ps)(r n:Nat)(tw:TwF):Prop:=YB P w K mg base (CXE P w) r f.a f.fd ps (sTw K n tw)
variable(mg)
noncomputable abbrev Mi.Ok{g:p8}{nm qn:Str}{st:Stmt}{ps:kx Str}(f:Mi K g nm qn st ps)(r n:Nat)(tw:TwF):Prop:=YB P w K mg base (CXE P w) r f.a f.fd ps (sTw K n tw)
end
section
variable{P:Program}{w:World}{mg:Str->pf ph}{base:Heap}
noncomputable def top (i:Nat):Stmt:=PySem.Challenge.pw_lots_k56_whole_many_draws_folded.main.body.getD i (.Pass #[0,0,0,0])
abbrev Xc:Stmt:=top 32
abbrev ZY:Stmt:=top 34
abbrev Zc:Stmt:=top 36
abbrev ZB:Stmt:=xh (top 40) 0
abbrev Zd:Stmt:=xh (top 40) 1
abbrev Vo:Stmt:=xh (top 40) 2
abbrev YF:Stmt:=xh (top 40) 3
abbrev ZC:Stmt:=xh (top 40) 5
abbrev Yk:Stmt:=xh (top 40) 6
abbrev Xd:Stmt:=xh (top 40) 7
abbrev ZD:Stmt:=xh (top 40) 8
abbrev vF:Stmt:=xh (top 40) 9
abbrev vj:Stmt:=xh (top 40) 11
abbrev xC:Stmt:=xh (top 40) 12
abbrev wa:Stmt:=xh (top 40) 13
abbrev Xe:Stmt:=xh (top 40) 14
abbrev xn:Stmt:=xh (top 40) 15
abbrev xX:Stmt:=xh (top 40) 16
abbrev vk:Stmt:=xh (top 40) 17
abbrev Wj:Stmt:=xh (top 40) 18
abbrev wg:Stmt:=xh (top 40) 19
abbrev vm:Stmt:=xh (top 40) 20
abbrev Vp:Stmt:=xh (top 40) 21
abbrev wj:Stmt:=xh (top 40) 22
abbrev vy:Stmt:=top 44
abbrev ZZ:Stmt:=top 60
abbrev wo:Stmt:=top 67
abbrev zSc(N:List PySem.Str)(k:Nat)(s:PySem.Scope):=zy N (N.take k) s
def zie:zSc ["thing"] 1 (zr (top 8)):=#v[]
def zdN:zSc ["one","other","rest"] 2 (zr (top 9)):=#v[]
def zl6:zSc ["top","bottom","part"] 2 (zr (top 10)):=#v[]
def zif:zSc ["top","bottom"] 2 (zr (top 11)):=#v[]
def zqg:zSc ["one","other"] 2 (zr (top 12)):=#v[]
def zoq:zSc ["one","other"] 2 (zr (top 13)):=#v[]
def zjN:zSc ["one","other"] 2 (zr (top 14)):=#v[]
def zig:zSc ["boxes","name"] 2 (zr (top 16)):=#v[]
def zor:zSc ["boxes","state","operand"] 3 (zr (top 17)):=#v[]
def zih:zSc ["boxes","state","reckoning","one","other"] 3 (zr (top 18)):=#v[]
def zos:zSc ["boxes","state","test","one","other"] 3 (zr (top 19)):=#v[]
def zgt:zSc ["deed"] 1 (zr (top 21)):=#v[]
def zcF:zSc ["block","deeds","deed","inner"] 1 (zr (top 22)):=#v[]
def zgu:zSc ["block","kind"] 2 (zr (top 23)):=#v[]
def zer:zSc ["block"] 1 (zr (top 24)):=#v[]
def zbT:zSc ["some","bottom","one"] 1 (zr (top 26)):=#v[]
def zgv:zSc ["some","bottom"] 2 (zr (top 27)):=#v[]
def zgw:zSc ["store","block","aim","counted"] 4 (zr (top 29)):=#v[]
def zes:zSc ["store","block","aim","counted","deed"] 4 (zr (top 30)):=#v[]
def zgx:zSc ["store","deed","aim","counted","yes","turn"] 4 (zr (top 31)):=#v[]
def zcj:zSc ["store","name","reckoning","aim","level","size","number"] 4 (zr Xc):=#v[]
def zcG:zSc ["store","level","aim"] 3 (zr (top 33)):=#v[]
def za6:zSc ["store","name","weights","aim","held"] 4 (zr ZY):=#v[]
def zjO:zSc ["weights","ones","bottom","tops"] 2 (zr (top 35)):=#v[]
def zab:zSc ["store","operand"] 2 (zr Zc):=#v[]
def zl7:zSc ["store","test","yes","no"] 4 (zr (top 37)):=#v[]
def zjP:zSc ["store","nodes","highest_yet","node"] 2 (zr (top 38)):=#v[]
def za7:zSc ["self","boxes"] 2 (zr ZB):=#v[]
def zau:zSc ["self","fact"] 2 (zr Zd):=#v[]
def zet:zSc ["self","one"] 2 (zr Vo):=#v[]
def zeu:zSc ["self","level","kids","first"] 3 (zr YF):=#v[]
def za8:zSc ["self","node","fact"] 2 (zr ZC):=#v[]
def zbU:zSc ["self","node","fact"] 2 (zr Yk):=#v[]
def zcH:zSc ["self","node","level","number"] 4 (zr Xd):=#v[]
def za9:zSc ["self","node","state"] 3 (zr ZD):=#v[]
def zdO:zSc ["self","one","other"] 3 (zr vF):=#v[]
def zcI:zSc ["self","one","other"] 3 (zr vj):=#v[]
def UH:zSc ["self","nodes","rule"] 3 (zr xC):=#v[]
def zav:zSc ["self","chooser","nodes"] 3 (zr wa):=#v[]
def zcJ:zSc ["self","nodes","settle","known","settled"] 4 (zr Xe):=#v[]
def VZ:zSc ["self","nodes","settle","known","level","kids","number","these"] 4 (zr xn):=#v[]
def zbV:zSc ["self","nodes","rule","facts"] 3 (zr xX):=#v[]
def Ua:zSc ["self","nodes","fact"] 2 (zr vk):=#v[]
def zdP:zSc ["self","node","level","number"] 4 (zr Wj):=#v[]
def UI:zSc ["self","node","level","number","known","here","kids"] 5 (zr wg):=#v[]
def zcK:zSc ["self","test"] 2 (zr vm):=#v[]
def zev:zSc ["self","names","rule"] 3 (zr Vp):=#v[]
def UJ:zSc ["self","names","rule","numbers","level","size"] 4 (zr wj):=#v[]
def zgy:zSc ["_law_left","_law_many"] 2 (zr (top 42)):=#v[]
def zgz:zSc ["_law_number","_law_size","_law_word_here","_law_k"] 2 (zr (top 43)):=#v[]
def zew:zSc ["_law_left","_law_many","_law_way","_law_some","_law_turn","_law_word_here","_law_cell","_law_size","_law_at"] 2 (zr vy):=#v[]
def zex:zSc ["_law_left","_law_most","_law_many","_law_boxes_here","_law_states_here","_law_name","_law_size"] 2 (zr (top 45)):=#v[]
def zcL:zSc ["_law_left","_law_boxes_here","_law_way"] 2 (zr (top 46)):=#v[]
def zgA:zSc ["_law_left","_law_boxes_here","_law_one","_law_sign"] 2 (zr (top 47)):=#v[]
def zba:zSc ["_law_left","_law_boxes_here","_law_name","_law_way","_law_one"] 3 (zr (top 48)):=#v[]
def zcM:zSc ["_law_left","_law_size","_law_some","_law_at"] 2 (zr (top 49)):=#v[]
def zdQ:zSc ["_law_left","_law_boxes_here","_law_kind","_law_box"] 3 (zr (top 50)):=#v[]
def zdR:zSc ["_law_block_here","_law_many","_law_deed_here"] 1 (zr (top 51)):=#v[]
def zey:zSc ["_law_left","_law_boxes_here","_law_kinds","_law_depth"] 4 (zr (top 52)):=#v[]
def zgB:zSc ["_law_left","_law_boxes_here","_law_kinds","_law_depth","_law_kind","_law_block_here","_law_number","_law_other","_law_many","_law_blocks"] 4 (zr (top 53)):=#v[]
def zez:zSc ["_law_boxes_here","_law_state","_law_operand_here","_law_k"] 3 (zr (top 54)):=#v[]
def zeA:zSc ["_law_boxes_here","_law_state","_law_test_here","_law_one","_law_other"] 3 (zr (top 55)):=#v[]
def zii:zSc ["_law_boxes_here","_law_state","_law_name","_law_number","_law_after","_law_k"] 4 (zr (top 56)):=#v[]
def zij:zSc ["_law_boxes_here","_law_state","_law_deed_here","_law_number","_law_other"] 3 (zr (top 57)):=#v[]
def zik:zSc ["_law_top","_law_bottom","_law_one","_law_other","_law_kept"] 2 (zr (top 58)):=#v[]
def zil:zSc ["_law_one","_law_other"] 2 (zr (top 59)):=#v[]
def zgC:zSc ["_law_found","_law_due"] 2 (zr ZZ):=#v[]
def zeB:zSc ["_law_found"] 1 (zr (top 61)):=#v[]
def zdS:zSc ["_law_boxes_here","_law_states_here","_law_box","_law_longer","_law_state"] 1 (zr (top 62)):=#v[]
def zgD:zSc ["_law_store","_law_boxes_here","_law_aims","_law_start","_law_level","_law_kids","_law_k"] 4 (zr (top 63)):=#v[]
def zeC:zSc ["_law_store","_law_boxes_here","_law_node_here","_law_dues","_law_state"] 4 (zr (top 64)):=#v[]
def zgE:zSc ["_law_boxes_here","_law_block_here","_law_aims","_law_counted","_law_deed_here"] 4 (zr (top 65)):=#v[]
def zeD:zSc ["_law_boxes_here","_law_deed_here","_law_aims","_law_state","_law_whole_here","_law_k","_law_one","_law_part"] 4 (zr (top 66)):=#v[]
def zbb:zSc ["_law_boxes_here","_law_deed_here","_law_aims","_law_counted","_law_tables","_law_turn","_law_found","_law_state","_law_best","_law_table"] 4 (zr wo):=#v[]
def zgF:zSc ["_law_left","_law_boxes_here","_law_many","_law_box","_law_draw"] 2 (zr (top 68)):=#v[]
def zsA:zSc ["_law_script","_law_left","_law_boxes_here","_law_counted","_law_kinds","_law_aims","_law_state","_law_block_here","_law_more","_law_store","_law_aim","_law_node_here","_law_dues"] 1 (zr (top 69)):=#v[]
abbrev zjQ:C0:=zh5 (zuT (zh6 Xc 2)) 1
def zck:xD:=#[1,Uu zjQ,XM zjQ,zci zjQ,#[gi,"set_back","set_back"],["store","reckoning","size"]]
abbrev zjR:C0:=zh5 (zjF (zh6 ZY 1)) 1
def zcl:xD:=#[2,Uu zjR,XM zjR,zci zjR,#[gi,"draw_back","draw_back"],["weights"]]
abbrev zjS:C0:=zh5 (zjF (zh6 Zc 0)) 1
def zcm:xD:=#[3,Uu zjS,XM zjS,zci zjS,#[gi,"worth_node","worth_node"],["store","operand"]]
abbrev zjT:C0:=zh5 (zjF (zh6 vF 0)) 1
def zcn:xD:=#[4,Uu zjT,XM zjT,zci zjT,#[eV "Store","added","Store.added"],[]]
abbrev zjU:C0:=zh5 (zjF (zh6 vj 0)) 1
def zco:xD:=#[5,Uu zjU,XM zjU,zci zjU,#[eV "Store","higher","Store.higher"],[]]
abbrev zjV:C0:=zh5 (zjF (zh6 xC 0)) 1
def zcp:xD:=#[6,Uu zjV,XM zjV,zci zjV,#[eV "Store","reckoned_of","Store.reckoned_of"],["self","rule"]]
abbrev zjW:C0:=zh5 (zjF (zh6 wa 0)) 1
def zcq:xD:=#[7,Uu zjW,XM zjW,zci zjW,#[eV "Store","chosen_by","Store.chosen_by"],["self"]]
abbrev zjX:C0:=zh5 (zjF (zh6 vm 0)) 1
def zcr:xD:=#[8,Uu zjX,XM zjX,zci zjX,#[eV "Store","marked","Store.marked"],["self","test"]]
noncomputable abbrev Yy:kx Ul:=[#[gi,"set_back","set_back"],#[gi,"draw_back","draw_back"],#[gi,"worth_node","worth_node"],#[eV "Store","added","Store.added"],#[eV "Store","higher","Store.higher"],#[eV "Store","reckoned_of","Store.reckoned_of"],#[eV "Store","chosen_by","Store.chosen_by"],#[eV "Store","marked","Store.marked"]]
set_option genInjectivity false in
set_option genSizeOf false in
set_option genInjectivity false in
structure zTf(K:uU)(mg:Str->pf ph)(kA':p8) where
 di:Fi K mg "is_whole" (top 8) ["thing"]
 cq:Fi K mg "common_part" (top 9) ["one","other"]
 eJ:Fi K mg "lowest" (top 10) ["top","bottom"]
 dj:Fi K mg "fraction" (top 11) ["top","bottom"]
 g6:Fi K mg "plus" (top 12) ["one","other"]
 fc:Fi K mg "under" (top 13) ["one","other"]
 dM:Fi K mg "greater" (top 14) ["one","other"]
 dh:Fi K mg "place_of" (top 16) ["boxes","name"]
 f9:Fi K mg "worth" (top 17) ["boxes","state","operand"]
 df:Fi K mg "reckoned" (top 18) ["boxes","state","reckoning"]
 fe:Fi K mg "holds" (top 19) ["boxes","state","test"]
 ck:Fi K mg "blocks_of" (top 21) ["deed"]
 aS:Fi K mg "deeds_within" (top 22) ["block"]
 cQ:Fi K mg "stands_in" (top 23) ["block","kind"]
 cA:Fi K mg "is_bounded" (top 24) ["block"]
 bO:Fi K mg "shared_bottom" (top 26) ["some"]
 cO:Fi K mg "tops_over" (top 27) ["some","bottom"]
 cR:Fi K mg "fold_back" (top 29) ["store","block","aim","counted"]
 aK:Fi K mg "block_back" (top 30) ["store","block","aim","counted"]
 cj:Fi K mg "deed_back" (top 31) ["store","deed","aim","counted"]
 bU:Fi K mg "set_back" Xc ["store","name","reckoning","aim"]
 bV:Fi K mg "held_at_each" (top 33) ["store","level","aim"]
 bM:Fi K mg "draw_back" ZY ["store","name","weights","aim"]
 dJ:Fi K mg "mean_by" (top 35) ["weights","ones"]
 bF:Fi K mg "worth_node" Zc ["store","operand"]
 cS:Fi K mg "either" (top 37) ["store","test","yes","no"]
 cV:Fi K mg "highest" (top 38) ["store","nodes"]
 aX:Mi K kA' "__init__" "Store.__init__" ZB ["self","boxes"]
 aC:Mi K kA' "number_of" "Store.number_of" Zd ["self","fact"]
 aD:Mi K kA' "leaf" "Store.leaf" Vo ["self","one"]
 aE:Mi K kA' "fork" "Store.fork" YF ["self","level","kids"]
 ao:Mi K kA' "level_of" "Store.level_of" ZC ["self","node"]
 aB:Mi K kA' "kids_of" "Store.kids_of" Yk ["self","node"]
 aP:Mi K kA' "kid_at" "Store.kid_at" Xd ["self","node","level","number"]
 aU:Mi K kA' "value_at" "Store.value_at" ZD ["self","node","state"]
 b9:Mi K kA' "added" "Store.added" vF ["self","one","other"]
 aW:Mi K kA' "higher" "Store.higher" vj ["self","one","other"]
 aj:Mi K kA' "reckoned_of" "Store.reckoned_of" xC ["self","nodes","rule"]
 ay:Mi K kA' "chosen_by" "Store.chosen_by" wa ["self","chooser","nodes"]
 aA:Mi K kA' "joined" "Store.joined" Xe ["self","nodes","settle","known"]
 aH:Mi K kA' "joined_below" "Store.joined_below" xn ["self","nodes","settle","known"]
 b8:Mi K kA' "leaf_by" "Store.leaf_by" xX ["self","nodes","rule"]
 aI:Mi K kA' "choice_among" "Store.choice_among" vk ["self","nodes"]
 bA:Mi K kA' "fixed" "Store.fixed" Wj ["self","node","level","number"]
 aw:Mi K kA' "fixed_below" "Store.fixed_below" wg ["self","node","level","number","known"]
 aV:Mi K kA' "marked" "Store.marked" vm ["self","test"]
 aL:Mi K kA' "made" "Store.made" Vp ["self","names","rule"]
 ak:Mi K kA' "made_behind" "Store.made_behind" wj ["self","names","rule","numbers"]
 bj:Fi K mg "_law_take" (top 42) ["_law_left","_law_many"]
 cT:Fi K mg "_law_word" (top 43) ["_law_number","_law_size"]
 cF:Fi K mg "_law_names" vy ["_law_left","_law_many"]
 cG:Fi K mg "_law_boxes" (top 45) ["_law_left","_law_most"]
 bY:Fi K mg "_law_operand" (top 46) ["_law_left","_law_boxes_here"]
 cm:Fi K mg "_law_test" (top 47) ["_law_left","_law_boxes_here"]
 bH:Fi K mg "_law_reckoning" (top 48) ["_law_left","_law_boxes_here","_law_name"]
 bW:Fi K mg "_law_weights" (top 49) ["_law_left","_law_size"]
 bK:Fi K mg "_law_simple" (top 50) ["_law_left","_law_boxes_here","_law_kind"]
 az:Fi K mg "_law_length" (top 51) ["_law_block_here"]
 bu:Fi K mg "_law_block" (top 52) ["_law_left","_law_boxes_here","_law_kinds","_law_depth"]
 bC:Fi K mg "_law_deed" (top 53) ["_law_left","_law_boxes_here","_law_kinds","_law_depth"]
 bS:Fi K mg "_law_worth" (top 54) ["_law_boxes_here","_law_state","_law_operand_here"]
 bG:Fi K mg "_law_holds" (top 55) ["_law_boxes_here","_law_state","_law_test_here"]
 dm:Fi K mg "_law_put" (top 56) ["_law_boxes_here","_law_state","_law_name","_law_number"]
 cE:Fi K mg "_law_set" (top 57) ["_law_boxes_here","_law_state","_law_deed_here"]
 dq:Fi K mg "_law_low" (top 58) ["_law_top","_law_bottom"]
 cD:Fi K mg "_law_sum" (top 59) ["_law_one","_law_other"]
 bo:Fi K mg "_law_same" ZZ ["_law_found","_law_due"]
 cB:Fi K mg "_law_whole" (top 61) ["_law_found"]
 cu:Fi K mg "_law_states" (top 62) ["_law_boxes_here"]
 bp:Fi K mg "_law_node" (top 63) ["_law_store","_law_boxes_here","_law_aims","_law_start"]
 cC:Fi K mg "_law_tells" (top 64) ["_law_store","_law_boxes_here","_law_node_here","_law_dues"]
 aY:Fi K mg "_law_back" (top 65) ["_law_boxes_here","_law_block_here","_law_aims","_law_counted"]
 bT:Fi K mg "_law_drawn" (top 66) ["_law_boxes_here","_law_deed_here","_law_aims","_law_state"]
 bq:Fi K mg "_law_deed_back" wo ["_law_boxes_here","_law_deed_here","_law_aims","_law_counted"]
 cU:Fi K mg "_law_long" (top 68) ["_law_left","_law_boxes_here"]
 eK:Fi K mg "law" (top 69) ["_law_script"]
set_option genInjectivity false in
structure Tx(K:uU)(mg:Str->pf ph)(kA':p8) extends zTf K mg kA' where
 gu:mg "abs"=gi
 gq:mg "all"=gi
 i5:mg "any"=gi
 eX:mg "bool"=gi
 gn:mg "int"=gi
 ax:mg "isinstance"=gi
 jg:mg "len"=gi
 eG:mg "list"=gi
 gm:mg "max"=gi
 hZ:mg "min"=gi
 aJ:mg "range"=gi
 cz:mg "reversed"=gi
 gk:mg "str"=gi
 fE:mg "sum"=gi
 bJ:mg "tuple"=gi
 jf:mg "zip"=gi
 aN:p8
 fG:mg "LotsError"=eV (.ref aN)
 cK:zjc K mg "LotsError" aN [.type "ValueError",.type "Exception",.type "BaseException",.type "object"] "ValueError.__new__"
 fH:zhu K aN
 cM:BO K (.ref aN)=eV (.type "type")
 cn:Ah K aN (.type "BaseException")=eV hG
 cL:Ah K aN (.type "ValueError")=eV hG
 aQ:p8
 fX:mg "NoNumber"=eV (.ref aQ)
 d7:zjc K mg "NoNumber" aQ [.type "ValueError",.type "Exception",.type "BaseException",.type "object"] "ValueError.__new__"
 fY:zhu K aQ
 d9:BO K (.ref aQ)=eV (.type "type")
 cH:Ah K aQ (.type "BaseException")=eV hG
 d8:Ah K aQ (.type "ValueError")=eV hG
 bg:p8
 gH:mg "NoBound"=eV (.ref bg)
 dE:zjc K mg "NoBound" bg [.type "ValueError",.type "Exception",.type "BaseException",.type "object"] "ValueError.__new__"
 gI:zhu K bg
 dG:BO K (.ref bg)=eV (.type "type")
 cW:Ah K bg (.type "BaseException")=eV hG
 dF:Ah K bg (.type "ValueError")=eV hG
 gv:mg "Store"=eV (.ref kA')
 ae:Cls K kA'
 ai:y9 K FV "Store"=eV (eV (.ref kA'))
 av:YQ K kA' "boxes"
 bz:YQ K kA' "facts"
 bB:YQ K kA' "numbers"
 fF:Mk K kA' aX.a
 d5:(vD K #[eV "Store","added","Store.added"]).isSome=hG
 cJ:(vD K #[eV "Store","higher","Store.higher"]).isSome=hG
 bP:(vD K #[eV "Store","reckoned_of","Store.reckoned_of"]).isSome=hG
 c9:(vD K #[eV "Store","chosen_by","Store.chosen_by"]).isSome=hG
 cI:(vD K #[eV "Store","marked","Store.marked"]).isSome=hG
 e8:(vD K #[gi,"set_back","set_back"]).isSome=hG
 dU:y9 K FV "set_back"=eV (eV (.ref bU.a))
 dO:(vD K #[gi,"draw_back","draw_back"]).isSome=hG
 dw:y9 K FV "draw_back"=eV (eV (.ref bM.a))
 dv:(vD K #[gi,"worth_node","worth_node"]).isSome=hG
 d6:y9 K FV "worth_node"=eV (eV (.ref bF.a))
 c5:p8
 eI:mg "NOUGHT"=eV (.ref c5)
 eL:∀H,SqT K H c5 [.int 0,.int 1]
 eU:p8
 jh:mg "ONE"=eV (.ref eU)
 ju:∀H,SqT K H eU [.int 1,.int 1]
@[irreducible] noncomputable def fu:Nat:=2^9000
def zim{CX:CXT}{x:Str}{st:Stmt}{ps:kx Str}{f:Fi X.K X.mg x st ps}{k:Nat}{sp:Sp}{E:XK}{e:Expr}{es:kx Expr}{t:TA}{p pos:Pos}(F:YB X.prog X.w X.K X.mg X.base CX k f.a f.fd ps sp)(hr:wC k X.A)(hx:Ui CX X E)(ha:PA X (e::es) t)(hg:Gl X x:=by rfl)(iX:(x==("__debug__":Str))=mK:=by decide)(he:FW (e::es) X.env=(mK,eval e X.env)::FW es X.env:=by rfl)(fJ:(backTo pos (FW es X.env)).any (·.1)=mK:=by rfl):PE X (.Call (.Name x p) (e::es) [] pos) (zko sp [] E t):=zkp F hr hg f.m f.F.kp f.b .nil hx ha iX he fJ
local macro_rules|`(tactic|walk_at "q4")=>`(tactic|(dsimp only [xQ, zmU]; decide +kernel))|`(tactic|walk_at "q2")=>`(tactic|((try simp only [Nat.add_eq]); omega))
local macro_rules|`(tactic|walk_at "q3")=>do
 let a<-("zf1 zng zpP zhF zpO zf0 znf".splitOn " ").toArray.mapM fun n=>`(tacticSeq|with_reducible show $(Lean.mkIdent (.mkSimple n)))
 `(tactic|first $[| $a]*)
local macro_rules|`($f \ ($o,$h,$p,$x))=>`(zkp $o $h rfl ($f).m ($f).F.kp ($f).b .nil $p $x)|`($i:num :: $b)=>`(zpG (i:=$i) rfl rfl $b)|`($a :: $b)=>`(@zQ _ _ _ _ _ $a $b (by walk_at "q3"))|`($i >>= ($g,$b))=>`(zrH PassesOwn.leaving rfl $i $g $b)|`($a * 0)=>`(zm4 (K:=K) $a)|`(tactic|walk_at "q5")=>`(tactic|repeat first|exact zlE rfl|exact zlF|exact zja|with_reducible apply zmX|with_reducible apply zi9)|`($a <|> $b)=>`(@zmv _ _ _ _ _ $a $b)|`(¬$a)=>`(@zph _ _ _ $a)|`(!$a)=>`(@zrA _ _ _ _ $a)|`(~~~$a)=>`(@zrP _ _ _ _ _ $a)|`($r >>> ($a,$b))=>`(@zmL _ _ _ _ _ _ _ $r $a $b fun _ _ => rfl)|`($a % $b)=>`(@zmL _ _ _ _ _ _ _ (zpE (K:=K)) $a $b fun _ _ => rfl)|`($a &&& $b)=>`(@zmL _ _ _ _ _ _ _ (zm3 (K:=K)) $a $b fun _ _ => rfl)
set_option hygiene false in
def zCF(g:Lean.Term):Lean.MacroM Lean.Term:=`(fun C s₀ H₀ fp => $g)
def zCO(o:Lean.Term):Lean.MacroM Lean.Term:=`(zt1 (osc:=zr $o) rfl (by decide +kernel))
set_option hygiene false in
local macro_rules|`($i:num ∘ $o ∘ ($n,$c,$l,$g,$t,$e))=>do`(zid (i:=$i) (N':=$n) rfl $(<-zCO o) $c $l (by walk_at "q5") $(<-zCF g) $(<-zCF t) $(<-zCF e) nd rfl rfl)|`($o ∘ ($n,$c,$l,$g,$t,$e))=>do`(zon (N':=$n) rfl $(<-zCO o) $c $l (by walk_at "q5") $(<-zCF g) $(<-zCF t) $(<-zCF e))|`($f <*> $b)=>`(zim ($f T) (hr.mono ∅) yc $b)|`($f <$> ($s,$b:ident,$t))=>`(okS ($f).F $s (fun hr nd => #[_, $t, (by unfold $b; walk_at "re")]))|`($f <* $b)=>`(zim ($f T) (hr.mono ∅) wH $b)|`(↑$i)=>`(zpi (i:=$i) (by first|exact nd | walk_at "q4") rfl (by walk_at "q1"))|`(-$a)=>`(yh (zlI (K:=K)) rfl T.jg boot_len ($a :: zj))
local macro_rules|`(tactic|walk_at "re")=>do
 let g(s:String):=(s.splitOn " ").toArray.map fun n=>Lean.mkIdent (.mkSimple n)
 let a<-(g "zu zt yH zY yO xS we yV We xP xL Ve VR vJ zhG zkE Vf Wf YC znE zgb wN znI Tq Tp zny zkG zbM zju zse vK zah zr6 zhV znA zf8 ztL zr3 zr4 znq zhM zpS zsc ztF zpU ztM zh8 znl znF ztG znk zr5 znz zfa zdp zgd zaT zno zkQ zhP znL znx zkR zhK zhW znP zkY zkI znn zkH zr8 znN ztD zfb znO znv zkO zr7 zp9 znH znw zk1 zff zhQ znm zib ztE znJ zhZ zjv zkW zok zsa zpT znj zk3 ztN zlW zp1 zp0 znr znt znM znG znQ zkJ zkN zr9 zk0 zjx zhY").mapM fun i=>`(tacticSeq|apply $i)
 let b<-(g "yV Wf znE zgb zkG zju zah zhM zh8 znF zfa zaT zno zkQ zhP znL zkR zhK znP zkI znn zkH znN zfb znO zkO znH zff zhQ znJ zhZ zjv zk3 znt znM znG znQ zkJ zkN zk0").mapM fun i=>`(tacticSeq|exact $i)
 let d<-(g "ae av bz bB ai").mapM fun i=>`(tacticSeq|exact (‹Tx _ _ _›).$i)
 let c<-(g "wN vK znq zkY zib znr zhY").mapM fun i=>`(tacticSeq|apply $i)
 `(tactic|repeat first|(with_reducible first $[| $a]*)|exact rfl $[| $d]*|exact Nat.le_of_ble_eq_true rfl $[| $b]* $[| $c]*)
set_option hygiene false in
def zCB(s i o e:Lean.Term):Lean.MacroM Lean.Term:=`(@zmz _ _ $i _ _ _ _ $s rfl $o $e (by rfl) (by walk_at "q1"))
set_option hygiene false in
local macro_rules|`($s ^^^ ($i,$o,$e))=>do zCB (<-`(($s).nd)) i o e|`($i ^^^ $e)=>do zCB (<-`(nd)) i (<-`(by walk_at "q1")) e
variable(T:Tx K mg kA')
def UK:TwS:=(zR (zf4 (eUn (Vg "int") (zi 0)) (eB (Um (bE (eUn (Vg "bool") (zi 0)))))))
def XU:TwF:=zL 1 0 (UK)
def zcs:T.di.Ok P w base 1 1 (XU):=
 T.di<$>(zie,UK,¬(!zae (yh (xH (K:=K)) rfl T.ax boot_isinstance (zQ (pv 0) (zQ (vt (v:= .ty "int") rfl T.gn boot_int rfl) zj))) (zbz (zfJ (yh (xH (K:=K)) rfl T.ax boot_isinstance (zQ (pv 0) (zQ (vt (v:= .ty "bool") rfl T.eX boot_bool rfl) zj)))))))
def Xg:TwS:=(zw (zH (eFn zlT [zi 0]) (gN 0)) (zw (zH (eFn zlT [zi 1]) (gN 1)) (zw (sWh fu (bE (eOp zga (zi 1) (qx 0))) (zw (zH (eOp Xz (zi 0) (zi 1)) (gN 2)) (zw (zH (zi 1) (gN 0)) (zH (zi 2) (gN 1))))) (zR (zi 0)))))
def Zf:TwF:=zL 2 1 (Xg)
def UL:T.cq.Ok P w base 1 2 (Zf):=
 T.cq<$>(zdN,Xg,(0^^^yh zc4 rfl T.gu boot_abs (pv 0::zj))<|>(1^^^yh zc4 rfl T.gu boot_abs (pv 1::zj))<|>zaJ PassesOwn.leaving (yx (zbw (pv 1) zk)) ((2^^^zP vO (pv 0) (pv 1))<|>(0^^^pv 1)<|>¬(1^^^pv 2))<|>¬(!pv 0))
def zbW:TwS:=(zw (zH (zx (Zf) [zi 0,zi 1]) (gN 2)) (zw (sIf (bE (eOp dLt (zi 1) (qx 0))) (zH (eUn zsb (zi 2)) (gN 2)) zK) (zR (xc [eOp Ux (zi 0) (zi 2),eOp Ux (zi 1) (zi 2)]))))
def Tz:TwF:=zL 2 1 (zbW)
def zfn:T.eJ.Ok P w base 33 2 (Tz):=
 T.eJ<$>(zl6,zbW,(2^^^(UL<*>(pv 0::pv 1::zj)))<|>zU (yx (zb5 (pv 1) zk)) (¬(2^^^ztl zrM (pv 2))) zA<|>¬(!(~~~(zP (Uw hr) (pv 0) (pv 2)::zP (Uw hr) (pv 1) (pv 2)::zj))))
def UM:TwS:=(zw (sIf (bOr (Um (bE (zx (XU) [zi 0]))) (Um (bE (zx (XU) [zi 1])))) zf5 zK) (zw (sIf (bE (eOp YE (zi 1) (qx 0))) zf5 zK) (zR (zx (Tz) [zi 0,zi 1]))))
def UN:TwF:=zL 2 0 (UM)
def zin:T.dj.Ok P w base 34 2 (UN):=
 T.dj<$>(zif,UM,zU (PW.pt (zeS (Uf (wS (zcs<*>(pv 0::zj)))) (zbx (Uf (wS (zcs<*>(pv 1::zj))))))) (¬zgp) zA<|>zU (yx (xR (pv 1) zk)) (¬zgp) zA<|>¬(!(zfn<*>(pv 0::pv 1::zj))))
def zgG:TwS:=(zR (zx (Tz) [eOp wL (eOp ww (eOp zB (zi 0) (qx 0)) (eOp zB (zi 1) (qx 1))) (eOp ww (eOp zB (zi 1) (qx 0)) (eOp zB (zi 0) (qx 1))),eOp ww (eOp zB (zi 0) (qx 1)) (eOp zB (zi 1) (qx 1))]))
def zgH:TwF:=zL 2 0 (zgG)
def zqh:T.g6.Ok P w base 34 2 (zgH):=
 T.g6<$>(zqg,zgG,¬(!(zfn<*>(zP xy (zP xq (pv 0%zk) (pv 1%zk)) (zP xq (pv 1%zk) (pv 0%zk))::zP xq (pv 0%zk) (pv 1%zk)::zj))))
def zdT:TwS:=(zR (eOp dLt (eOp ww (eOp zB (zi 0) (qx 0)) (eOp zB (zi 1) (qx 1))) (eOp ww (eOp zB (zi 1) (qx 0)) (eOp zB (zi 0) (qx 1)))))
def zdU:TwF:=zL 2 0 (zdT)
def zot:T.fc.Ok P w base 1 2 (zdU):=
 T.fc<$>(zoq,zdT,¬(!YN (zb5 (zP xq (pv 0%zk) (pv 1%zk)) (zP xq (pv 1%zk) (pv 0%zk)))))
def zaw:TwS:=(zR (eIf (bE (zx (zdU) [zi 0,zi 1])) (zi 1) (zi 0)))
def zax:TwF:=zL 2 0 (zaw)
def zjY:T.dM.Ok P w base 2 2 (zax):=
 T.dM<$>(zjN,zaw,¬(!YO (wS (zot<*>(pv 0::pv 1::zj))) (pv 1) (pv 0)))
def UO:TwS:=(zR (eMt zdD (xt [gi] (iT (zi 0)) (gN 0) xl (eOp zB (zi 0) (qx 0))) [zi 1]))
def Ya:TwF:=zL 2 0 (UO)
def UP:T.dh.Ok P w base 1 2 (Ya):=
 T.dh<$>(zig,UO,¬(!zc6 AJ PySem.F.slot_list_index PySem.F.type_list_index zm7 ((top 16)∘(["box"],yK yM,ZK (K:=K) (pv 0),↑0,yL,pv 0%zk)) (pv 1::zj)))
def zdV:TwS:=(zw (sIf (bE (eUn (Vg "str") (zi 2))) (zR (eOp zB (zi 1) (zx (Ya) [zi 0,zi 2]))) zK) (zR (zi 2)))
def Xh:TwF:=zL 3 0 (zdV)
def UQ:T.f9.Ok P w base 2 3 (Xh):=
 T.f9<$>(zor,zdV,zU (wS (yh (xH (K:=K)) rfl T.ax boot_isinstance (zQ (pv 2) (zQ (vt (v:= .ty "str") rfl T.gk boot_str rfl) zj)))) (¬(!(pv 1%(UP<*>(pv 0::pv 2::zj))))) zA<|>¬(!pv 2))
def UR:TwS:=(zw (zH (zx (Xh) [zi 0,zi 1,eOp zB (zi 2) (qx 0)]) (gN 3)) (zw (sIf (bE (eOp YE (eFn wM [zi 2]) (qx 1))) (zR (zi 3)) zK) (zw (zH (zx (Xh) [zi 0,zi 1,eOp zB (zi 2) (qx 2)]) (gN 4)) (zw (sIf (bE (eOp (yD mK) (eOp zB (zi 2) (qx 1)) (qE "+"))) (zR (eOp wL (zi 3) (zi 4))) zK) (zw (sIf (bE (eOp (yD mK) (eOp zB (zi 2) (qx 1)) (qE "-"))) (zR (eOp zjs (zi 3) (zi 4))) zK) (zR (eOp ww (zi 3) (zi 4))))))))
def US:TwF:=zL 3 2 (UR)
def zio:T.df.Ok P w base 3 3 (US):=
 T.df<$>(zih,UR,(3^^^(UQ<*>(pv 0::pv 1::(pv 2%zk)::zj)))<|>zU (yx (xR (-pv 2) zk)) (¬(!pv 3)) zA<|>(4^^^(UQ<*>(pv 0::pv 1::(pv 2%zk)::zj)))<|>zU (zV yC (pv 2%zk) zD (by rfl)) (¬(!zP xy (pv 3) (pv 4))) zA<|>zU (zV yC (pv 2%zk) zD (by rfl)) (¬(!zP zc3 (pv 3) (pv 4))) zA<|>¬(!zP xq (pv 3) (pv 4)))
def zdW:TwS:=(zw (zH (zx (Xh) [zi 0,zi 1,eOp zB (zi 2) (qx 0)]) (gN 3)) (zw (zH (zx (Xh) [zi 0,zi 1,eOp zB (zi 2) (qx 2)]) (gN 4)) (zw (sIf (bE (eOp (yD mK) (eOp zB (zi 2) (qx 1)) (qE "="))) (zR (eOp YE (zi 3) (zi 4))) zK) (zw (sIf (bE (eOp (yD mK) (eOp zB (zi 2) (qx 1)) (qE "<"))) (zR (eOp dLt (zi 3) (zi 4))) zK) (zR (eOp zga (zi 3) (zi 4)))))))
def zdX:TwF:=zL 3 2 (zdW)
def zou:T.fe.Ok P w base 3 3 (zdX):=
 T.fe<$>(zos,zdW,(3^^^(UQ<*>(pv 0::pv 1::(pv 2%zk)::zj)))<|>(4^^^(UQ<*>(pv 0::pv 1::(pv 2%zk)::zj)))<|>zU (zV yC (pv 2%zk) zD (by rfl)) (¬(!YN (xR (pv 3) (pv 4)))) zA<|>zU (zV yC (pv 2%zk) zD (by rfl)) (¬(!YN (zb5 (pv 3) (pv 4)))) zA<|>¬(!YN (zbw (pv 3) (pv 4))))
def Vw:TwS:=(zw (sIf (bE (eOp (yD mK) (eOp zB (zi 0) (qx 0)) (qE "if"))) (zR (xc [eOp zB (zi 0) (qx 2),eOp zB (zi 0) (qx 3)])) zK) (zw (sIf (bOr (bE (eOp (yD mK) (eOp zB (zi 0) (qx 0)) (qE "while"))) (bE (eOp (yD mK) (eOp zB (zi 0) (qx 0)) (qE "times")))) (zR (xc [eOp zB (zi 0) (qx 2)])) zK) (zw (sIf (bE (eOp (yD mK) (eOp zB (zi 0) (qx 0)) (qE "hand"))) (zR (eOp zB (zi 0) (qx 1))) zK) (zR (xc [])))))
def Vx:TwF:=zL 1 0 (Vw)
def zgI:T.ck.Ok P w base 1 1 (Vx):=
 T.ck<$>(zgt,Vw,zU (zV yC (pv 0%zk) zD (by rfl)) (¬(!(~~~((pv 0%zk)::(pv 0%zk)::zj)))) zA<|>zU (PW.pt (zeS (zV yC (pv 0%zk) zD (by rfl)) (zbx (zV yC (pv 0%zk) zD (by rfl))))) (¬(!(~~~((pv 0%zk)::zj)))) zA<|>zU (zV yC (pv 0%zk) zD (by rfl)) (¬(!(pv 0%zk))) zA<|>¬(!(~~~zj)))
def vL(eD:TwF):TwS:=(zw (zH (zbJ []) (gN 1)) (zw (Zs (iT (zi 0)) (gN 2) (zw (zcd (eMt XF (zi 1) [zi 2])) (Zs (iT (zx (Vx) [zi 2])) (gN 3) (zcd (eMt XG (zi 1) [zx eD [zi 3]]))))) (zR (zi 1))))
def yY:Nat->TwF
 |0=>λ_ _=>gi
 |n+1=>zL 1 3 (vL (yY n))
def Yb(n:Nat):yY (n+1)=zL 1 3 (vL (yY n)):=by rfl
def UT:yY 0=λ_ _=>gi:=by rfl
def zbX:∀n:Nat,T.aS.Ok P w base (1+n) 1 (yY n):=by
 intro n
 induction n with
 |zero=>
  skip
  rw[UT];show wV
 |succ n ih=>
  .rw[Yb];show T.aS<$>(zcF,vL,(1^^^@YR _ _ _ _ zj)<|>ZK (K:=K) (pv 0)>>=(↑2,To (zc6 AJ BR BU WG (pv 1) (pv 2::zj))<|>¬ZK (K:=K) (T.ck\(zgI T,hr.mono #v[0],yc,pv 2::zj))>>=(↑3,¬To (zc6 AJ DK DL (zdj (K:=K)) (pv 1) ((T.aS\(ih,hr.mono #v[0],yc,pv 3::zj))::zj))))<|>¬(!pv 1))
def zcN(T:Tx K mg kA')(n:Nat):T.aS.Ok P w base (1+n) 1 (yY n):=(zbX T n)
def Vy:TwS:=(zR (eFn zhN [xt [gi,eV 1] (iL (zx (yY 12) [zi 0])) (gN 0) xl (eOp (yD mK) (eOp zB (zi 0) (qx 0)) (zi 1))]))
def zbc:TwF:=zL 2 0 (Vy)
def zgJ:T.cQ.Ok P w base 14 2 (zbc):=
 T.cQ<$>(zgu,Vy,¬(!yh (ze8 (K:=K) rfl) rfl T.i5 PyProof.Rows.Boot.«any» (zQ ((top 23)∘(["deed","kind"],yK (1::yM),(T.aS\(zcN T 12,hr.mono ∅,yc,pv 0::zj))*0,↑0,yL,zcU yC (pv 0%zk) (pv 1) (by rfl))) zj)))
def Wl:TwS:=(zR (eB (Um (bE (zx (zbc) [zi 0,qE "while"])))))
def Wm:TwF:=zL 1 0 (Wl)
def zeE:T.cA.Ok P w base 15 1 (Wm):=
 T.cA<$>(zer,Wl,¬(!zfJ (zgJ<*>(pv 0::zD::zj))))
def ZF:TwS:=(zw (zH (qx 1) (gN 1)) (zw (Zs (iL (zi 0)) (gN 2) (sIf (bE (eOp zga (eOp Xz (zi 1) (eOp zB (zi 2) (qx 1))) (qx 0))) (zH (eOp ww (eOp Ux (zi 1) (zx (Zf) [zi 1,eOp zB (zi 2) (qx 1)])) (eOp zB (zi 2) (qx 1))) (gN 1)) zK)) (zR (zi 1))))
def ZG:TwF:=zL 1 2 (ZF)
def zbY:T.bO.Ok P w base 33 1 (ZG):=
 T.bO<$>(zbT,ZF,(1^^^zk)<|>((pv 0*0)>>=(↑2,¬zU (yx (zbw (zP vO (pv 1) (pv 2%zk)) zk)) (¬(1^^^zP xq (zP (Uw hr) (pv 1) (UL<*>(pv 1::(pv 2%zk)::zj))) (pv 2%zk))) zA))<|>¬(!pv 1))
def Vz:TwS:=(zR (xt [gi,eV 1] (iL (zi 0)) (gN 0) xl (eOp ww (eOp zB (zi 0) (qx 0)) (eOp zbN (zi 1) (eOp zB (zi 0) (qx 1))))))
def VB:TwF:=zL 2 0 (Vz)
def zgK:T.cO.Ok P w base 1 2 (VB):=
 T.cO<$>(zgv,Vz,¬(!((top 27)∘(["one","bottom"],yK (1::yM),pv 0*0,↑0,yL,zP xq (pv 0%zk) (zP zdg (pv 1) (pv 0%zk))))))
def vS:TwS:=(zw (sIf (bE (zkV hG (zi 1) (wA "Store" "numbers" (zi 0)))) (zw (ZM (wA "Store" "numbers" (zi 0)) (zi 1) (eFn wM [wA "Store" "facts" (zi 0)])) (zcd (eMt XF (wA "Store" "facts" (zi 0)) [zi 1]))) zK) (zR (wE (wA "Store" "numbers" (zi 0)) (zi 1))))
def wF:TwF:=zL 2 0 (vS)
def Xi:T.aC.Ok P w mg base 1 2 (wF):=
 T.aC<$>(zau,vS,zU (yx (zdB (K:=K) hr (pv 1) (xK (pv 0) rfl))) (za0 (K:=K) hr (xK (pv 0) rfl) (pv 1) (-xK (pv 0) rfl) rfl<|>¬To (zc6 AJ BR BU WG (xK (pv 0) rfl) (pv 1::zj))) zA<|>¬(!vg (K:=K) hr (xK (pv 0) rfl) (pv 1) (λ_ _=>rfl)))
def Wn:TwS:=(zR (yy "Store" "number_of" (wF) (zi 0) [xc [qE "leaf",zi 1]]))
def wP:TwF:=zL 2 0 (Wn)
def ZP:T.aD.Ok P w mg base 2 2 (wP):=
 T.aD<$>(zet,Wn,¬(!zZ (pv 0) T.ae T.aC.mt (Xi T) (hr.mono ∅) T.aC.b .nil yc ((~~~(zD::pv 1::zj))::zj)))
def zay:TwS:=(zw (zH (zx (ZG) [zi 1]) (gN 2)) (zw (zH (zx (VB) [zi 1,zi 2]) (gN 3)) (zR (zx (UN) [eFn zgc [xt [gi,gi] (zjJ (zi 0) (zi 3)) (gT 2 (zf6 (gN 0) (zf6 (gN 1) znu))) xl (eOp ww (zi 0) (zi 1))],eOp ww (zi 2) (eFn zfe [zi 0])]))))
def zaz:TwF:=zL 2 2 (zay)
def zjZ:T.dJ.Ok P w base 35 2 (zaz):=
 T.dJ<$>(zjO,zay,(2^^^(zbY<*>(pv 1::zj)))<|>(3^^^(zgK<*>(pv 1::pv 2::zj)))<|>¬(!(zin<*>(yh (ze6 (K:=K) rfl) rfl T.fE PyProof.Rows.Boot.«sum» (zQ ((top 35)∘(["weight","top"],yK (yK yM),zoj (K:=K) rfl T.jf (pv 0::pv 3::zj),zpF (K:=K) (n:=2) rfl (zhk (↑0) (zhk (↑1) zpj)),yL,zP xq (pv 0) (pv 1))) zj)::zP xq (pv 2) (yh (zdh (K:=K) rfl) rfl T.fE PyProof.Rows.Boot.«sum» (pv 0::zj))::zj))))
def zt5:TwE:=(zx (zaz) [zi 1,zi 0])
def zfo:kx Xv->TwF:=zcE 1 1 (zt5)
def zt6(T:Tx K mg kA'):ZX P w K mg base 36 zcl (zfo):=
 Us (ps:=["ones"]) #[rfl,rfl,rfl, *...*, *...*, *...*, *...*] rfl rfl (λ_ _ _ _=>at_ λ_=>at0 rfl) (λaZ f c A outer s H hr=>#[_,zjZ<*(pv 1::pv 0::zj),xP (zt (zu 1) (zt (zu 0) zY))])
def zt7:TwE:=(zx (zgH) [eOp YD (zi 0) (qx 0),eOp YD (zi 0) (qx 1)])
def zfp:kx Xv->TwF:=zcE 1 0 (zt7)
def zt8(T:Tx K mg kA'):ZX P w K mg base 35 zcn (zfp):=
 Us (ps:=["ones"]) #[rfl,rfl,rfl, *...*, *...*, *...*, *...*] rfl rfl (λ_ _ _ _=>at_ λ_=>at0 rfl) (λaZ f c A outer s H hr=>#[_,zqh<*((pv 0&&&zk)::(pv 0&&&zk)::zj),xP (zt (yH zah (zu 0) (yO _)) (zt (yH zah (zu 0) (yO _)) zY))])
def zt9:TwE:=(zx (zax) [eOp YD (zi 0) (qx 0),eOp YD (zi 0) (qx 1)])
def zfq:kx Xv->TwF:=zcE 1 0 (zt9)
def zua(T:Tx K mg kA'):ZX P w K mg base 3 zco (zfq):=
 Us (ps:=["ones"]) #[rfl,rfl,rfl, *...*, *...*, *...*, *...*] rfl rfl (λ_ _ _ _=>at_ λ_=>at0 rfl) (λaZ f c A outer s H hr=>#[_,zjY<*((pv 0&&&zk)::(pv 0&&&zk)::zj),xP (zt (yH zah (zu 0) (yO _)) (zt (yH zah (zu 0) (yO _)) zY))])
def WN:TwS:=(zw (zH (xt [gi,eV 0] (iT (zi 1)) (gN 0) xl (eOp YD (wA "Store" "facts" (zi 1)) (zi 0))) (gN 3)) (zw (sIf (bE (eFn zhN [xt [gi] (iL (zi 3)) (gN 0) xl (eOp (yD mK) (eOp zB (zi 0) (qx 0)) (qE "fork"))])) (zR (eC .non)) zK) (zR (yy "Store" "leaf" (wP) (zi 0) [zak [(zcl,zfo),(zcn,zfp),(zco,zfq)] 2 [xt [gi] (iL (zi 3)) (gN 0) xl (eOp zB (zi 0) (qx 1))]]))))
def WP:TwF:=zL 3 1 (WN)
def zbZ:T.b8.Ok P w mg base 37 3 (WP):=
 okS T.b8.F zbV (λhr nd=>#[_,((3∘xX∘(["node","self"],yK (0::yM),ZK (K:=K) (pv 1),↑0,yL,xK (pv 1) rfl&&&pv 0))<|>zU (wS (yh (ze8 (K:=K) rfl) rfl T.i5 PyProof.Rows.Boot.«any» (zQ (xX∘(["fact"],yK yM,pv 3*0,↑0,yL,zcU yC (pv 0%zk) zD (by rfl))) zj))) (¬(!zmu)) zA<|>¬(!zZ (pv 0) T.ae T.aD.mt (ZP T) (hr.mono ∅) T.aD.b .nil yc (zdE (i:=2) (k:=36) rfl (by first|exact .inl rfl|exact .inr (.inl rfl)|exact .inr (.inr rfl)) (zgm (fns:=[(zcl,zfo),(zcn,zfp),(zco,zfq)]) (vV (zt6 T) ∅ (vV (zt8 T) ∅ (vV (zua T) ∅ zdH)))) (hr.mono ∅) (zQ (xX∘(["fact"],yK yM,pv 3*0,↑0,yL,pv 0%zk)) zj)::zj))),xS (zdp (Tq (cap:=[gi,eV 0]) (znA (zu 1)) we Tp (yH zah (vK T.ai T.ae T.bz (zu 1)) (zu 0)))) (xS (VR (zhG (zkE zjv (zt (Tq (cap:=[gi]) (zf8 (zu 3)) we Tp (yH Wf (yH yV (zu 0) (yO _)) (Ve _))) zY))) (xL znj) vJ) (xL (wN T.ai (zu 0) (zt (zdF (zt (Tq (cap:=[gi]) (zf8 (zu 3)) we Tp (yH yV (zu 0) (yO _))) zY)) zY))))])
def zub:TwE:=(yy "Store" "leaf_by" (WP) (zi 1) [zi 0,zi 2])
def zfr:kx Xv->TwF:=zcE 1 2 (zub)
def zuc(T:Tx K mg kA'):ZX P w K mg base 38 zcp (zfr):=
 Us (ps:=["these"]) #[rfl,rfl,rfl, *...*, *...*, *...*, *...*] rfl rfl (λ_ _ _ _=>at_ λ_=>at0 rfl) (λaZ f c A outer s H hr=>#[_,zZ (pv 1) T.ae T.b8.mt (zbZ T) (hr.mono ∅) T.b8.b .nil wH (pv 0::pv 2::zj),wN T.ai (zu 1) (zt (zu 0) (zt (zu 2) zY))])
def wU:TwS:=(zw (zH (eOp YD (wA "Store" "facts" (zi 0)) (eOp zB (zi 1) (qx 0))) (gN 2)) (zR (eIf (bE (eOp (yD mK) (eOp zB (zi 2) (qx 0)) (qE "fork"))) (eC .non) (eOp zB (zi 1) (eOp wL (qx 1) (eOp zB (eOp zB (zi 2) (qx 1)) (qx 0)))))))
def Zw:TwF:=zL 2 1 (wU)
def Ub:T.aI.Ok P w mg base 1 2 (Zw):=
 T.aI<$>(Ua,wU,(2^^^(xK (pv 0) rfl&&&(pv 1%zk)))<|>¬(!YO (zV yC (pv 2%zk) zD (by rfl)) zmu (pv 1%zP xy zk ((pv 2%zk)%zk))))
def zud:TwE:=(yy "Store" "choice_among" (Zw) (zi 1) [zi 0])
def zfs:kx Xv->TwF:=zcE 1 1 (zud)
def zue(T:Tx K mg kA'):ZX P w K mg base 2 zcq (zfs):=
 Us (ps:=["these"]) #[rfl,rfl,rfl, *...*, *...*, *...*, *...*] rfl rfl (λ_ _ _ _=>at_ λ_=>at0 rfl) (λaZ f c A outer s H hr=>#[_,zZ (pv 1) T.ae T.aI.mt (Ub T) (hr.mono ∅) T.aI.b .nil wH (pv 0::zj),wN T.ai (zu 1) (zt (zu 0) zY)])
def Wo:TwS:=(zw (zH (eOp YD (zi 2) (qx 0)) (gN 3)) (zw (sIf (bE (eFn zhO [xt [gi,eV 3] (iL (zi 2)) (gN 0) xl (eOp YE (zi 0) (zi 1))])) (zR (zi 3)) zK) (zR (yy "Store" "number_of" (wF) (zi 0) [xc [qE "fork",zi 1,eFn YW [zi 2]]]))))
def wQ:TwF:=zL 3 1 (Wo)
def ZQ:T.aE.Ok P w mg base 2 3 (wQ):=
 T.aE<$>(zeu,Wo,(3^^^(pv 2&&&zk))<|>zU (wS (yh (zbG (K:=K) rfl) rfl T.gq PyProof.Rows.Boot.«all» (zQ (YF∘(["kid","first"],yK (3::yM),pv 2*0,↑0,yL,YN (xR (pv 0) (pv 1)))) zj))) (¬(!pv 3)) zA<|>¬(!zZ (pv 0) T.ae T.aC.mt (Xi T) (hr.mono ∅) T.aC.b .nil yc ((~~~(zD::pv 1::vU (vf (K:=K)) rfl T.bJ boot_tuple (pv 2::zj)::zj))::zj)))
def ZH:TwS:=(zw (zH (eOp YD (wA "Store" "facts" (zi 0)) (zi 1)) (gN 2)) (zR (eIf (bE (eOp (yD mK) (eOp zB (zi 2) (qx 0)) (qE "fork"))) (eOp zB (zi 2) (qx 2)) (xc []))))
def xJ:TwF:=zL 2 1 (ZH)
def ZI:T.aB.Ok P w mg base 1 2 (xJ):=
 T.aB<$>(zbU,ZH,(2^^^(xK (pv 0) rfl&&&pv 1))<|>¬(!YO (zV yC (pv 2%zk) zD (by rfl)) (pv 2%zk) (~~~zj)))
def wW:TwS:=(zw (zH (eOp YD (wA "Store" "facts" (zi 0)) (zi 1)) (gN 2)) (zR (eIf (bE (eOp (yD mK) (eOp zB (zi 2) (qx 0)) (qE "fork"))) (eOp zB (zi 2) (qx 1)) (eFn wM [wA "Store" "boxes" (zi 0)]))))
def yE:TwF:=zL 2 1 (wW)
def wX:T.ao.Ok P w mg base 1 2 (yE):=
 T.ao<$>(za8,wW,(2^^^(xK (pv 0) rfl&&&pv 1))<|>¬(!YO (zV yC (pv 2%zk) zD (by rfl)) (pv 2%zk) (-xK (pv 0) rfl)))
def Yl:TwS:=(zR (eIf (bE (eOp YE (yy "Store" "level_of" (yE) (zi 0) [zi 1]) (zi 2))) (eOp zB (yy "Store" "kids_of" (xJ) (zi 0) [zi 1]) (zi 3)) (zi 1)))
def xz:TwF:=zL 4 0 (Yl)
def VT:T.aP.Ok P w mg base 2 4 (xz):=
 T.aP<$>(zcH,Yl,¬(!YO (yx (xR (zZ (pv 0) T.ae T.ao.mt (wX T) (hr.mono ∅) T.ao.b .nil yc (pv 1::zj)) (pv 2))) (zZ (pv 0) T.ae T.aB.mt (ZI T) (hr.mono ∅) T.aB.b .nil yc (pv 1::zj)%pv 3) (pv 1)))
def Ym(cN:TwF)(bL:TwF):TwS:=(zw (sIf (bE (zkV hG (zi 1) (zi 3))) (zw (zH (zak [(zcp,zfr),(zcq,zfs)] 2 [zi 1]) (gN 4)) (ZM (zi 3) (zi 1) (eIf (bE (eUn zjr (zi 4))) (yy "Store" "joined_below" bL (zi 0) [zi 1,zi 2,zi 3]) (zi 4)))) zK) (zR (wE (zi 3) (zi 1))))
def xf(cN:TwF)(bL:TwF):TwS:=(zw (zH (eFn zh7 [xt [gi,eV 0] (iT (zi 1)) (gN 0) xl (yy "Store" "level_of" (yE) (zi 1) [zi 0])]) (gN 4)) (zw (zH (zbJ []) (gN 5)) (zw (Zs (iR1 (eOp zB (eOp zB (wA "Store" "boxes" (zi 0)) (zi 4)) (qx 1))) (gN 6) (zw (zH (eFn YW [xt [gi,eV 4,eV 6,eV 0] (iT (zi 1)) (gN 0) xl (yy "Store" "kid_at" (xz) (zi 3) [zi 0,zi 1,zi 2])]) (gN 7)) (zcd (eMt XF (zi 5) [yy "Store" "joined" cN (zi 0) [zi 7,zi 2,zi 3]])))) (zR (yy "Store" "fork" (wQ) (zi 0) [zi 4,zi 5])))))
mutual
def yf:Nat->TwF
 |0=>λ_ _=>gi
 |n+1=>zL 4 1 (Ym (yf n) (yj n))
def yj:Nat->TwF
 |0=>λ_ _=>gi
 |n+1=>zL 4 4 (xf (yf n) (yj n))
end
def Yc(n:Nat):yf (n+1)=zL 4 1 (Ym (yf n) (yj n)):=by rw[yf]
def UU:yf 0=λ_ _=>gi:=by rw[yf]
def vn(n:Nat):yj (n+1)=zL 4 4 (xf (yf n) (yj n)):=by rw[yj]
def Xj:yj 0=λ_ _=>gi:=by rw[yj]
def zb0:∀n:Nat,T.aA.Ok P w mg base (38+n) 4 (yf n)/\T.aH.Ok P w mg base (38+n) 4 (yj n):=by
 intro n
 induction n with
 |zero=>
  show#[?_,?_];rw[UU];show wV;rw[Xj];show wV
 |succ n ih=>
  show#[?_,?_];rw[Yc];show okS T.aA.F zcJ (λhr nd=>#[_,(zU (yx (zdB (K:=K) hr (pv 1) (pv 3))) ((4^^^zdE (i:=2) (k:=38) rfl (by first|exact .inl rfl|exact .inr (.inl rfl)|exact .inr (.inr rfl)) (zgm (fns:=[(zcp,zfr),(zcq,zfs)]) (vV (zuc T) ∅ (vV (zue T) ∅ zdH))) (hr.mono #v[0]) (pv 1::zj))<|>¬za0 (K:=K) hr (pv 3) (pv 1) (YO (yx (ziT (pv 4))) (zZ (pv 0) T.ae T.aH.mt ih.2 (hr.mono #v[0]) T.aH.b .nil yc (pv 1::pv 2::pv 3::zj)) (pv 4)) rfl) zA<|>¬(!vg (K:=K) hr (pv 3) (pv 1) (λ_ _=>rfl))),xS (VR (zhG (zkW (zu 1) (zu 3))) (xS (We (zdF (zt (zu 1) zY)) we) (zhW (zu 3) (zu 1) (znl (zhG (znm (zu 4))) (wN T.ai (zu 0) (zt (zu 1) (zt (zu 2) (zt (zu 3) zY)))) (zu 4)))) vJ) (xL (zhV (zu 3) (zu 1)))]);rw[vn];show T.aH<$>(VZ,xf,(4^^^yh (zl1 (K:=K) rfl) rfl T.hZ boot_min (zQ (xn∘(["node","self"],yK (0::yM),ZK (K:=K) (pv 1),↑0,yL,zZ (pv 1) T.ae T.ao.mt (wX T) (hr.mono #v[0]) T.ao.b .nil wH (pv 0::zj))) zj))<|>(5^^^@YR _ _ _ _ zj)<|>yJ rfl T.aJ (((xK (pv 0) rfl%pv 4)%zk)::zj)>>=(↑6,(7^^^vU (vf (K:=K)) rfl T.bJ boot_tuple (zQ (xn∘(["node","level","number","self"],yK (4::6::0::yM),ZK (K:=K) (pv 1),↑0,yL,zZ (pv 3) T.ae T.aP.mt (VT T) (hr.mono #v[0]) T.aP.b .nil wH (pv 0::pv 1::pv 2::zj))) zj))<|>¬To (zc6 AJ BR BU WG (pv 5) (zZ (pv 0) T.ae T.aA.mt ih.1 (hr.mono #v[0]) T.aA.b .nil yc (pv 7::pv 2::pv 3::zj)::zj)))<|>¬(!zZ (pv 0) T.ae T.aE.mt (ZQ T) (hr.mono #v[0]) T.aE.b .nil yc (pv 4::pv 5::zj)))
def VU(T:Tx K mg kA')(n:Nat):T.aA.Ok P w mg base (38+n) 4 (yf n):=(zb0 T n).1
def vo:TwS:=(zR (vZ "Store" "joined" (yf 24) (zi 0) [zi 1,zcD zcp 6 [0,2],Vh]))
def xo:TwF:=zL 3 0 (vo)
def vp:T.aj.Ok P w mg base 63 3 (xo):=by
 have#[zc,zp,hz,hk]:=WM T.ai T.aj.mt.at_ T.bP;show T.aj.F.okZ (fz:=["self","rule"]) hz UH (λvs H Q E h=>h.1) (λA outer s H vs Q E hr h=>#[_,¬(!zZ (pv 0) T.ae T.aA.mt (VU T 24) (hr.mono ∅) T.aA.b .nil wH (pv 1::zQ (XO (L:=zcp) (is:=[0,2]) (XN (osc:=zr xC) (N:=["self","nodes","rule"]) (fz:=["self","rule"]) rfl rfl rfl rfl (*...*)) rfl rfl (vi hz).1) (zQ WH zj))),zaR (n:=3) (k:=0) (b:=vo) rfl (xL (vx T.ai (zu 0) (zt (zu 1) (zt (Ur hk) (zt zgd zY))))) h])
def Xk:TwS:=(zR (vZ "Store" "reckoned_of" (xo) (zi 0) [xc [zi 1,zi 2],zcD zcn 4 []]))
def Xl:TwF:=zL 3 0 (Xk)
def zdY:T.b9.Ok P w mg base 64 3 (Xl):=by
 have#[zc,zp,hz,hk]:=WM T.ai T.b9.mt.at_ T.d5;show T.b9.F.okZ (fz:=[]) hz zdO (λvs H Q E h=>h.1) (λA outer s H vs Q E hr h=>#[_,¬(!zZ (pv 0) T.ae T.aj.mt (vp T) (hr.mono ∅) T.aj.b .nil wH ((~~~(pv 1::pv 2::zj))::zQ (XO (L:=zcn) (is:=[]) (XN (osc:=zr vF) (N:=["self","one","other"]) (fz:=[]) rfl rfl rfl rfl (*...*)) rfl rfl (vi hz).1) zj)),zaR (n:=3) (k:=0) (b:=Xk) rfl (xL (vx T.ai (zu 0) (zt (Vf (zt (zu 1) (zt (zu 2) zY))) (zt (Ur hk) zY)))) h])
def xp(cX:TwF):TwS:=(zw (zH (yy "Store" "level_of" (yE) (zi 0) [zi 1]) (gN 5)) (zw (sIf (bE (eOp dGe (zi 5) (zi 2))) (zR (yy "Store" "kid_at" (xz) (zi 0) [zi 1,zi 2,zi 3])) zK) (zw (sIf (bE (zsf hG (zi 1) (zi 4))) (zw (zH (xt [gi,eV 2,eV 3,eV 4,eV 0] (iT (yy "Store" "kids_of" (xJ) (zi 0) [zi 1])) (gN 0) xl (yy "Store" "fixed_below" cX (zi 4) [zi 0,zi 1,zi 2,zi 3])) (gN 6)) (zjy (zi 4) (zi 1) (yy "Store" "fork" (wQ) (zi 0) [zi 5,zi 6]))) zK) (zR (zkS (zi 4) (zi 1))))))
def yp:Nat->TwF
 |0=>λ_ _=>gi
 |n+1=>zL 5 2 (xp (yp n))
def xT(n:Nat):yp (n+1)=zL 5 2 (xp (yp n)):=by rfl
def XA:yp 0=λ_ _=>gi:=by rfl
def Uc:∀n:Nat,T.aw.Ok P w mg base (2+n) 5 (yp n):=by
 intro n
 induction n with
 |zero=>
  skip
  rw[XA];show wV
 |succ n ih=>
  .rw[xT];show T.aw<$>(UI,xp,(5^^^zZ (pv 0) T.ae T.ao.mt (wX T) (hr.mono #v[0]) T.ao.b .nil yc (pv 1::zj))<|>zU (yx (ztc (pv 5) (pv 2))) (¬(!zZ (pv 0) T.ae T.aP.mt (VT T) (hr.mono #v[0]) T.aP.b .nil yc (pv 1::pv 2::pv 3::zj))) zA<|>zU (yx (zlA (zmT hr) (pv 1) (pv 4))) ((6∘wg∘(["kid","level","number","known","self"],yK (2::3::4::0::yM),ZK (K:=K) (zZ (pv 0) T.ae T.aB.mt (ZI T) (hr.mono #v[0]) T.aB.b .nil yc (pv 1::zj)),↑0,yL,zZ (pv 4) T.ae T.aw.mt ih (hr.mono #v[0]) T.aw.b .nil wH (pv 0::pv 1::pv 2::pv 3::zj)))<|>¬zpB (zmT hr) (pv 4) (pv 1) (zZ (pv 0) T.ae T.aE.mt (ZQ T) (hr.mono #v[0]) T.aE.b .nil yc (pv 5::pv 6::zj)) rfl) zA<|>¬(!zpA (zmT hr) (pv 4) (pv 1) (λ_ _=>rfl)))
def UV(T:Tx K mg kA')(n:Nat):T.aw.Ok P w mg base (2+n) 5 (yp n):=(Uc T n)
def Xm:TwS:=(zR (yy "Store" "fixed_below" (yp 12) (zi 0) [zi 1,zi 2,zi 3,Vh]))
def Xn:TwF:=zL 4 0 (Xm)
def zdZ:T.bA.Ok P w mg base 15 4 (Xn):=
 T.bA<$>(zdP,Xm,¬(!zZ (pv 0) T.ae T.aw.mt (UV T 12) (hr.mono ∅) T.aw.b .nil yc (pv 1::pv 2::pv 3::zQ WH zj)))
def Yn:TwS:=(zR (eFn YW [xt [gi,eV 2,eV 1,eV 0] (iR1 (eOp zB (eOp zB (wA "Store" "boxes" (zi 0)) (zi 1)) (qx 1))) (gN 0) xl (yy "Store" "fixed" (Xn) (zi 3) [zi 1,zi 2,zi 0])]))
def vM:TwF:=zL 3 0 (Yn)
def VW:T.bV.Ok P w base 16 3 (vM):=
 T.bV<$>(zcG,Yn,¬(!vU (vf (K:=K)) rfl T.bJ boot_tuple (zQ ((top 33)∘(["number","aim","level","store"],yK (2::1::0::yM),yJ rfl T.aJ (((xK (pv 0) rfl%pv 1)%zk)::zj),↑0,yL,zZ (pv 3) T.ae T.bA.mt (zdZ T) (hr.mono ∅) T.bA.b .nil wH (pv 1::pv 2::pv 0::zj))) zj)))
def VC:TwS:=(zw (zH (zdq (vM) [zi 0,zdq (Ya) [wA "Store" "boxes" (zi 0),zi 1],zi 3]) (gN 4)) (zR (vZ "Store" "reckoned_of" (xo) (zi 0) [zi 4,zcD zcl 2 [2]])))
def VD:TwF:=zL 4 1 (VC)
def zgL:T.bM.Ok P w base 64 4 (VD):=by
 have#[zc,zp,hz,hk]:=zdJ T.dw T.dO;have nd:=za6.nd;show T.bM.F.okZ (fz:=["weights"]) hz za6 (λvs H Q E h=>h.1) (λA outer s H vs Q E hr h=>#[_,((4^^^(VW<*(pv 0::(UP<*(xK (pv 0) rfl::pv 1::zj))::pv 3::zj)))<|>¬(!zZ (pv 0) T.ae T.aj.mt (vp T) (hr.mono ∅) T.aj.b .nil wH (pv 4::zQ (XO (L:=zcl) (is:=[2]) (XN (osc:=zr ZY) (N:=["store","name","weights","aim","held"]) (fz:=["weights"]) rfl rfl rfl rfl (*...*)) rfl rfl (vi hz).1) zj))),zaR (n:=4) (k:=1) (b:=VC) rfl (xS (We (zds (zt (zu 0) (zt (zds (zt (vK T.ai T.ae T.av (zu 0)) (zt (zu 1) zY))) (zt (zu 3) zY)))) we) (xL (vx T.ai (zu 0) (zt (zu 4) (zt (Ur hk) zY))))) h])
def vT:TwS:=(zR (vZ "Store" "joined" (yf 24) (zi 0) [eOp XH (xc [zi 1]) (zi 2),zcD zcq 7 [0],Vh]))
def wG:TwF:=zL 3 0 (vT)
def Xo:T.ay.Ok P w mg base 63 3 (wG):=by
 have#[zc,zp,hz,hk]:=WM T.ai T.ay.mt.at_ T.c9;show T.ay.F.okZ (fz:=["self"]) hz zav (λvs H Q E h=>h.1) (λA outer s H vs Q E hr h=>#[_,¬(!zZ (pv 0) T.ae T.aA.mt (VU T 24) (hr.mono ∅) T.aA.b .nil wH (zP (Vd (K:=K)) (~~~(pv 1::zj)) (pv 2)::zQ (XO (L:=zcq) (is:=[0]) (XN (osc:=zr wa) (N:=["self","chooser","nodes"]) (fz:=["self"]) rfl rfl rfl rfl (*...*)) rfl rfl (vi hz).1) (zQ WH zj))),zaR (n:=3) (k:=0) (b:=vT) rfl (xL (vx T.ai (zu 0) (zt (yH zaT (Vf (zt (zu 1) zY)) (zu 2)) (zt (Ur hk) (zt zgd zY))))) h])
def zuf:TwE:=(xc [eOp Xz (zx (US) [wA "Store" "boxes" (zi 1),zi 0,zi 2]) (zi 3),qx 1])
def zft:kx Xv->TwF:=zcE 1 3 (zuf)
def zug(T:Tx K mg kA'):ZX P w K mg base 4 zck (zft):=
 Us (ps:=["state"]) #[rfl,rfl,rfl, *...*, *...*, *...*, *...*] rfl rfl (λ_ _ _ _=>at_ λ_=>at0 rfl) (λaZ f c A outer s H hr=>#[_,~~~(zP vO (zio<*(xK (pv 1) rfl::pv 0::pv 2::zj)) (pv 3)::zk::zj),Vf (zt (yH zju (xP (zt (vK T.ai T.ae T.av (zu 1)) (zt (zu 0) (zt (zu 2) zY)))) (zu 3)) (zt (yO _) zY))])
def zuh:TwE:=(xc [zx (Xh) [wA "Store" "boxes" (zi 1),zi 0,zi 2],qx 1])
def zfu:kx Xv->TwF:=zcE 1 2 (zuh)
def zui(T:Tx K mg kA'):ZX P w K mg base 3 zcm (zfu):=
 Us (ps:=["state"]) #[rfl,rfl,rfl, *...*, *...*, *...*, *...*] rfl rfl (λ_ _ _ _=>at_ λ_=>at0 rfl) (λaZ f c A outer s H hr=>#[_,~~~((UQ<*(xK (pv 1) rfl::pv 0::pv 2::zj))::zk::zj),Vf (zt (xP (zt (vK T.ai T.ae T.av (zu 1)) (zt (zu 0) (zt (zu 2) zY)))) (zt (yO _) zY))])
def zuj:TwE:=(eIf (bE (zx (zdX) [wA "Store" "boxes" (zi 1),zi 0,zi 2])) (eC (.ct [.int 1,.int 1])) (eC (.ct [.int 0,.int 1])))
def zfv:kx Xv->TwF:=zcE 1 2 (zuj)
def zuk(T:Tx K mg kA'):ZX P w K mg base 4 zcr (zfv):=
 Us (ps:=["state"]) #[rfl,rfl,rfl, *...*, *...*, *...*, *...*] rfl rfl (λ_ _ _ _=>at_ λ_=>at0 rfl) (λaZ f c A outer s H hr=>#[_,YO (wS (zou<*(xK (pv 1) rfl::pv 0::pv 2::zj))) (zfI (v:= .ref T.eU) rfl T.jh rfl) (zfI (v:= .ref T.c5) rfl T.eI rfl),znl (zhG (xP (zt (vK T.ai T.ae T.av (zu 1)) (zt (zu 0) (zt (zu 2) zY))))) (zjq λj H=> .ct (λH=>T.ju H) (.cons (.int _) (.cons (.int _) .nil))) (zjq λj H=> .ct (λH=>T.eL H) (.cons (.int _) (.cons (.int _) .nil)))])
def wc(bQ:TwF):TwS:=(zw (zH (eFn wM [zi 3]) (gN 4)) (zw (sIf (bE (eOp YE (zi 4) (eFn wM [wA "Store" "boxes" (zi 0)]))) (zR (yy "Store" "leaf" (wP) (zi 0) [zak [(zck,zft),(zcm,zfu),(zcr,zfv)] 2 [zi 3]])) zK) (zw (sIf (bE (eOp (dIn hG) (eOp zB (eOp zB (wA "Store" "boxes" (zi 0)) (zi 4)) (qx 0)) (zi 1))) (zR (yy "Store" "made_behind" bQ (zi 0) [zi 1,zi 2,eOp XH (zi 3) (xc [qx 0])])) zK) (zw (zH (eOp zB (eOp zB (wA "Store" "boxes" (zi 0)) (zi 4)) (qx 1)) (gN 5)) (zR (yy "Store" "fork" (wQ) (zi 0) [zi 4,xt [gi,eV 1,eV 2,eV 0,eV 3] (iR1 (zi 5)) (gN 0) xl (yy "Store" "made_behind" bQ (zi 3) [zi 1,zi 2,eOp XH (zi 4) (xc [zi 0])])]))))))
def yu:Nat->TwF
 |0=>λ_ _=>gi
 |n+1=>zL 4 2 (wc (yu n))
def xU(n:Nat):yu (n+1)=zL 4 2 (wc (yu n)):=by rfl
def XB:yu 0=λ_ _=>gi:=by rfl
def Ud:∀n:Nat,T.ak.Ok P w mg base (4+n) 4 (yu n):=by
 intro n
 induction n with
 |zero=>
  skip
  rw[XB];show wV
 |succ n ih=>
  .rw[xU];show okS T.ak.F UJ (λhr nd=>#[_,((4^^^(-pv 3))<|>zU (yx (xR (pv 4) (-xK (pv 0) rfl))) (¬(!zZ (pv 0) T.ae T.aD.mt (ZP T) (hr.mono #v[0]) T.aD.b .nil yc (zdE (i:=2) (k:=4) rfl (by first|exact .inl rfl|exact .inr (.inl rfl)|exact .inr (.inr rfl)) (zgm (fns:=[(zck,zft),(zcm,zfu),(zcr,zfv)]) (vV (zug T) ∅ (vV (zui T) ∅ (vV (zuk T) ∅ zdH)))) (hr.mono #v[0]) (pv 3::zj)::zj))) zA<|>zU (zV (ze5 (K:=K)) ((xK (pv 0) rfl%pv 4)%zk) (pv 1) (by rfl)) (¬(!zZ (pv 0) T.ae T.ak.mt ih (hr.mono #v[0]) T.ak.b .nil yc (pv 1::pv 2::zP (Vd (K:=K)) (pv 3) (~~~(zk::zj))::zj))) zA<|>(5^^^((xK (pv 0) rfl%pv 4)%zk))<|>¬(!zZ (pv 0) T.ae T.aE.mt (ZQ T) (hr.mono #v[0]) T.aE.b .nil yc (pv 4::zQ (wj∘(["number","names","rule","self","numbers"],yK (1::2::0::3::yM),yJ rfl T.aJ (pv 5::zj),↑0,yL,zZ (pv 3) T.ae T.ak.mt ih (hr.mono #v[0]) T.ak.b .nil wH (pv 1::pv 2::zP (Vd (K:=K)) (pv 4) (~~~(pv 0::zj))::zj))) zj))),xS (We (zkE zgb (zt (zu 3) zY)) we) (xS (VR (zhG (znI (zu 4) (zkE zgb (zt (vK T.ai T.ae T.av (zu 0)) zY)))) (xL (wN T.ai (zu 0) (zt (zdF (zt (zu 3) zY)) zY))) vJ) (xS (VR (YC (yH znQ (yH yV (yH yV (vK T.ai T.ae T.av (zu 0)) (zu 4)) (yO _)) (zu 1))) (xL (wN T.ai (zu 0) (zt (zu 1) (zt (zu 2) (zt (yH zaT (zu 3) (Vf (zt (yO _) zY))) zY))))) vJ) (xS (We (yH yV (yH yV (vK T.ai T.ae T.av (zu 0)) (zu 4)) (yO _)) we) (xL (wN T.ai (zu 0) (zt (zu 4) (zt (Tq (cap:=[gi,eV 1,eV 2,eV 0,eV 3]) (zbM (zu 5)) we Tp (wN T.ai (zu 3) (zt (zu 1) (zt (zu 2) (zt (yH zaT (zu 4) (Vf (zt (zu 0) zY))) zY))))) zY)))))))])
def UW(T:Tx K mg kA')(n:Nat):T.ak.Ok P w mg base (4+n) 4 (yu n):=(Ud T n)
def Wp:TwS:=(zR (yy "Store" "made_behind" (yu 12) (zi 0) [zi 1,zi 2,xc []]))
def vG:TwF:=zL 3 0 (Wp)
def Wq:T.aL.Ok P w mg base 17 3 (vG):=
 T.aL<$>(zev,Wp,¬(!zZ (pv 0) T.ae T.ak.mt (UW T 12) (hr.mono ∅) T.ak.b .nil yc (pv 1::pv 2::(~~~zj)::zj)))
def Yo:TwS:=(zR (vZ "Store" "made" (vG) (zi 0) [zi 1,zcD zcr 8 [0,1]]))
def Yp:TwF:=zL 2 0 (Yo)
def zcO:T.aV.Ok P w mg base 18 2 (Yp):=by
 have#[zc,zp,hz,hk]:=WM T.ai T.aV.mt.at_ T.cI;show T.aV.F.okZ (fz:=["self","test"]) hz zcK (λvs H Q E h=>h.1) (λA outer s H vs Q E hr h=>#[_,¬(!zZ (pv 0) T.ae T.aL.mt (Wq T) (hr.mono ∅) T.aL.b .nil wH (pv 1::zQ (XO (L:=zcr) (is:=[0,1]) (XN (osc:=zr vm) (N:=["self","test"]) (fz:=["self","test"]) rfl rfl rfl rfl (*...*)) rfl rfl (vi hz).1) zj)),zaR (n:=2) (k:=0) (b:=Yo) rfl (xL (vx T.ai (zu 0) (zt (zu 1) (zt (Ur hk) zY)))) h])
def zb1:TwS:=(zR (yy "Store" "chosen_by" (wG) (zi 0) [yy "Store" "marked" (Yp) (zi 0) [zi 1],xc [zi 3,zi 2]]))
def TB:TwF:=zL 4 0 (zb1)
def zfw:T.cS.Ok P w base 64 4 (TB):=
 T.cS<$>(zl7,zb1,¬(!zZ (pv 0) T.ae T.ay.mt (Xo T) (hr.mono ∅) T.ay.b .nil yc (zZ (pv 0) T.ae T.aV.mt (zcO T) (hr.mono ∅) T.aV.b .nil yc (pv 1::zj)::(~~~(pv 3::pv 2::zj))::zj)))
def Yq:TwS:=(zR (vZ "Store" "reckoned_of" (xo) (zi 0) [xc [zi 1,zi 2],zcD zco 5 []]))
def Yr:TwF:=zL 3 0 (Yq)
def zcP:T.aW.Ok P w mg base 64 3 (Yr):=by
 have#[zc,zp,hz,hk]:=WM T.ai T.aW.mt.at_ T.cJ;show T.aW.F.okZ (fz:=[]) hz zcI (λvs H Q E h=>h.1) (λA outer s H vs Q E hr h=>#[_,¬(!zZ (pv 0) T.ae T.aj.mt (vp T) (hr.mono ∅) T.aj.b .nil wH ((~~~(pv 1::pv 2::zj))::zQ (XO (L:=zco) (is:=[]) (XN (osc:=zr vj) (N:=["self","one","other"]) (fz:=[]) rfl rfl rfl rfl (*...*)) rfl rfl (vi hz).1) zj)),zaR (n:=3) (k:=0) (b:=Yq) rfl (xL (vx T.ai (zu 0) (zt (Vf (zt (zu 1) (zt (zu 2) zY))) (zt (Ur hk) zY)))) h])
def zaA:TwS:=(zw (zH (eOp YD (zi 1) (qx 0)) (gN 2)) (zw (Zs (iL (eSl zhJ (zi 1) (VQ (qx 1)) oNo)) (gN 3) (zH (yy "Store" "higher" (Yr) (zi 0) [zi 2,zi 3]) (gN 2))) (zR (zi 2))))
def zaB:TwF:=zL 2 2 (zaA)
def zj0:T.cV.Ok P w base 65 2 (zaB):=
 T.cV<$>(zjP,zaA,(2^^^(pv 1&&&zk))<|>((WE (zhv (K:=K)) (pv 1) (WZ zk) zaL*0)>>=(↑3,¬(2^^^zZ (pv 0) T.ae T.aW.mt (zcP T) (hr.mono ∅) T.aW.b .nil yc (pv 2::pv 3::zj))))<|>¬(!pv 2))
def UX:TwS:=(zw (zH (zx (Ya) [wA "Store" "boxes" (zi 0),zi 1]) (gN 4)) (zw (zH (eOp zB (eOp zB (wA "Store" "boxes" (zi 0)) (zi 4)) (qx 1)) (gN 5)) (zw (zH (vZ "Store" "made" (vG) (zi 0) [zi 2,zcD zck 1 [0,2,5]]) (gN 6)) (zR (vZ "Store" "chosen_by" (wG) (zi 0) [zi 6,zdq (vM) [zi 0,zi 4,zi 3]])))))
def UY:TwF:=zL 4 3 (UX)
def ziq:T.bU.Ok P w base 64 4 (UY):=by
 have#[zc,zp,hz,hk]:=zdJ T.dU T.e8;have nd:=zcj.nd;show T.bU.F.okZ2 (fz:=["store","reckoning","size"]) hz zcj (λvs H Q E h=>h.1) (λA outer s H vs Q E hr h=>#[_,zh9 (4^^^(UP<*>(xK (pv 0) rfl::pv 1::zj))) (zh9 (5^^^((xK (pv 0) rfl%pv 4)%zk)) (zsw ((6^^^zZ (pv 0) T.ae T.aL.mt (Wq T) (hr.mono ∅) T.aL.b .nil wH (pv 2::zQ (XO (L:=zck) (is:=[0,2,5]) (XN (osc:=zr Xc) (N:=["store","name","reckoning","aim","level","size","number"]) (fz:=["store","reckoning","size"]) rfl rfl rfl rfl (*...*)) rfl rfl (vi hz).1) zj))<|>¬(!zZ (pv 0) T.ae T.ay.mt (Xo T) (hr.mono ∅) T.ay.b .nil wH (pv 6::(VW<*(pv 0::pv 4::pv 3::zj))::zj))))),zaR (n:=4) (k:=3) (b:=UX) rfl (xS (We (xP (zt (vK T.ai T.ae T.av (zu 0)) (zt (zu 1) zY))) we) (xS (We (yH yV (yH yV (vK T.ai T.ae T.av (zu 0)) (zu 4)) (yO _)) we) (xS (We (vx T.ai (zu 0) (zt (zu 2) (zt (Ur hk) zY))) we) (xL (vx T.ai (zu 0) (zt (zu 6) (zt (zds (zt (zu 0) (zt (zu 4) (zt (zu 3) zY)))) zY))))))) h])
def Wr:TwS:=(zR (vZ "Store" "made" (vG) (zi 0) [xc [zi 1],zcD zcm 3 [0,1]]))
def Ws:TwF:=zL 2 0 (Wr)
def zeF:T.bF.Ok P w base 18 2 (Ws):=by
 have#[zc,zp,hz,hk]:=zdJ T.d6 T.dv;have nd:=zab.nd;show T.bF.F.okZ (fz:=["store","operand"]) hz zab (λvs H Q E h=>h.1) (λA outer s H vs Q E hr h=>#[_,¬(!zZ (pv 0) T.ae T.aL.mt (Wq T) (hr.mono ∅) T.aL.b .nil wH ((~~~(pv 1::zj))::zQ (XO (L:=zcm) (is:=[0,1]) (XN (osc:=zr Zc) (N:=["store","operand"]) (fz:=["store","operand"]) rfl rfl rfl rfl (*...*)) rfl rfl (vi hz).1) zj)),zaR (n:=2) (k:=0) (b:=Wr) rfl (xL (vx T.ai (zu 0) (zt (Vf (zt (zu 1) zY)) (zt (Ur hk) zY)))) h])
def ZR(bD:TwF)(dP:TwF):TwS:=(zw (Zs (zp8 (zi 1)) (gN 4) (zH (zx dP [zi 0,zi 4,zi 2,zi 3]) (gN 2))) (zR (zi 2)))
def xj(bD:TwF)(dP:TwF):TwS:=(zw (sIf (bE (eOp (yD mK) (eOp zB (zi 1) (qx 0)) (qE "set"))) (zR (zx (UY) [zi 0,eOp zB (zi 1) (qx 1),eOp zB (zi 1) (qx 2),zi 2])) zK) (zw (sIf (bE (eOp (yD mK) (eOp zB (zi 1) (qx 0)) (qE "draw"))) (zR (zx (VD) [zi 0,eOp zB (zi 1) (qx 1),eOp zB (zi 1) (qx 2),zi 2])) zK) (zw (sIf (zbI (bE (eOp (yD mK) (eOp zB (zi 1) (qx 0)) (qE "gain"))) (bE (zi 3))) (zR (yy "Store" "added" (Xl) (zi 0) [zi 2,zx (Ws) [zi 0,eOp zB (zi 1) (qx 1)]])) zK) (zw (sIf (bE (eOp (yD mK) (eOp zB (zi 1) (qx 0)) (qE "look"))) (zR (zx (TB) [zi 0,eOp zB (zi 1) (qx 1),zi 2,yy "Store" "leaf" (wP) (zi 0) [eC (.ct [.int 0,.int 1])]])) zK) (zw (sIf (bE (eOp (yD mK) (eOp zB (zi 1) (qx 0)) (qE "if"))) (zw (zH (zx bD [zi 0,eOp zB (zi 1) (qx 2),zi 2,zi 3]) (gN 4)) (zR (zx (TB) [zi 0,eOp zB (zi 1) (qx 1),zi 4,zx bD [zi 0,eOp zB (zi 1) (qx 3),zi 2,zi 3]]))) zK) (zw (sIf (bE (eOp (yD mK) (eOp zB (zi 1) (qx 0)) (qE "times"))) (zw (Zs (iR1 (eOp zB (zi 1) (qx 1))) (gN 5) (zH (zx bD [zi 0,eOp zB (zi 1) (qx 2),zi 2,zi 3]) (gN 2))) (zR (zi 2))) zK) (zw (sIf (bE (eOp (yD mK) (eOp zB (zi 1) (qx 0)) (qE "hand"))) (zR (zx (zaB) [zi 0,xt [gi,eV 0,eV 2,eV 3] (iA (eOp zB (zi 1) (qx 1))) (gN 0) xl (zx bD [zi 1,zi 0,zi 2,zi 3])])) zK) (zR (zi 2)))))))))
mutual
def yB:Nat->TwF
 |0=>λ_ _=>gi
 |n+1=>zL 4 1 (ZR (yB n) (yk n))
def yk:Nat->TwF
 |0=>λ_ _=>gi
 |n+1=>zL 4 2 (xj (yB n) (yk n))
end
def Xp(n:Nat):yB (n+1)=zL 4 1 (ZR (yB n) (yk n)):=by rw[yB]
def zaC:yB 0=λ_ _=>gi:=by rw[yB]
def yF(n:Nat):yk (n+1)=zL 4 2 (xj (yB n) (yk n)):=by rw[yk]
def zbd:yk 0=λ_ _=>gi:=by rw[yk]
def zd0:∀n:Nat,T.aK.Ok P w base (65+n) 4 (yB n)/\T.cj.Ok P w base (65+n) 4 (yk n):=by
 intro n
 induction n with
 |zero=>
  show#[?_,?_];rw[zaC];show wV;rw[zbd];show wV
 |succ n ih=>
  show#[?_,?_];rw[Xp];show T.aK<$>(zes,ZR,znd (K:=K) rfl T.cz (pv 1::zj)>>=(↑4,¬(2^^^(T.cj\(ih.2,hr.mono #v[0],yc,pv 0::pv 4::pv 2::pv 3::zj))))<|>¬(!pv 2));rw[yF];show okS T.cj.F zgx (λhr nd=>#[_,(zU (zV yC (pv 1%zk) zD (by rfl)) (¬(!(T.bU\(ziq T,hr.mono #v[0],yc,pv 0::(pv 1%zk)::(pv 1%zk)::pv 2::zj)))) zA<|>zU (zV yC (pv 1%zk) zD (by rfl)) (¬(!(T.bM\(zgL T,hr.mono #v[0],yc,pv 0::(pv 1%zk)::(pv 1%zk)::pv 2::zj)))) zA<|>zU (PW.pt (zby (zV yC (pv 1%zk) zD (by rfl)) (Tn (wS (pv 3))))) (¬(!zZ (pv 0) T.ae T.b9.mt (zdY T) (hr.mono #v[0]) T.b9.b .nil yc (pv 2::(T.bF\(zeF T,hr.mono #v[0],yc,pv 0::(pv 1%zk)::zj))::zj))) zA<|>zU (zV yC (pv 1%zk) zD (by rfl)) (¬(!(T.cS\(zfw T,hr.mono #v[0],yc,pv 0::(pv 1%zk)::pv 2::zZ (pv 0) T.ae T.aD.mt (ZP T) (hr.mono #v[0]) T.aD.b .nil yc (zfI (v:= .ref T.c5) rfl T.eI rfl::zj)::zj)))) zA<|>zU (zV yC (pv 1%zk) zD (by rfl)) ((4^^^(T.aK\(ih.1,hr.mono #v[0],yc,pv 0::(pv 1%zk)::pv 2::pv 3::zj)))<|>¬(!(T.cS\(zfw T,hr.mono #v[0],yc,pv 0::(pv 1%zk)::pv 4::(T.aK\(ih.1,hr.mono #v[0],yc,pv 0::(pv 1%zk)::pv 2::pv 3::zj))::zj)))) zA<|>zU (zV yC (pv 1%zk) zD (by rfl)) (yJ rfl T.aJ ((pv 1%zk)::zj)>>=(↑5,¬(2^^^(T.aK\(ih.1,hr.mono #v[0],yc,pv 0::(pv 1%zk)::pv 2::pv 3::zj))))<|>¬(!pv 2)) zA<|>zU (zV yC (pv 1%zk) zD (by rfl)) (¬(!(T.cV\(zj0 T,hr.mono #v[0],yc,pv 0::zQ ((top 31)∘(["block","store","aim","counted"],yK (0::2::3::yM),zgl (K:=K) (pv 1%zk),↑0,yL,T.aK\(ih.1,hr.mono #v[0],wH,pv 1::pv 0::pv 2::pv 3::zj))) zj)))) zA<|>¬(!pv 2)),xS (VR (YC (yH Wf (yH yV (zu 1) (yO _)) (Ve _))) (xL (xP (zt (zu 0) (zt (yH yV (zu 1) (yO _)) (zt (yH yV (zu 1) (yO _)) (zt (zu 2) zY)))))) vJ) (xS (VR (YC (yH Wf (yH yV (zu 1) (yO _)) (Ve _))) (xL (xP (zt (zu 0) (zt (yH yV (zu 1) (yO _)) (zt (yH yV (zu 1) (yO _)) (zt (zu 2) zY)))))) vJ) (xS (VR (znk (YC (yH Wf (yH yV (zu 1) (yO _)) (Ve _))) (zhG (zu 3))) (xL (wN T.ai (zu 0) (zt (zu 2) (zt (xP (zt (zu 0) (zt (yH yV (zu 1) (yO _)) zY))) zY)))) vJ) (xS (VR (YC (yH Wf (yH yV (zu 1) (yO _)) (Ve _))) (xL (xP (zt (zu 0) (zt (yH yV (zu 1) (yO _)) (zt (zu 2) (zt (wN T.ai (zu 0) (zt (zjq λj H=> .ct (λH=>T.eL H) (.cons (.int _) (.cons (.int _) .nil))) zY)) zY)))))) vJ) (xS (VR (YC (yH Wf (yH yV (zu 1) (yO _)) (Ve _))) (xS (We (xP (zt (zu 0) (zt (yH yV (zu 1) (yO _)) (zt (zu 2) (zt (zu 3) zY))))) we) (xL (xP (zt (zu 0) (zt (yH yV (zu 1) (yO _)) (zt (zu 4) (zt (xP (zt (zu 0) (zt (yH yV (zu 1) (yO _)) (zt (zu 2) (zt (zu 3) zY))))) zY))))))) vJ) (xS (VR (YC (yH Wf (yH yV (zu 1) (yO _)) (Ve _))) (xS (zny (zbM (yH yV (zu 1) (yO _))) we (We (xP (zt (zu 0) (zt (yH yV (zu 1) (yO _)) (zt (zu 2) (zt (zu 3) zY))))) we)) (xL (zu 2))) vJ) (xS (VR (YC (yH Wf (yH yV (zu 1) (yO _)) (Ve _))) (xL (xP (zt (zu 0) (zt (Tq (cap:=[gi,eV 0,eV 2,eV 3]) (zk1 (yH yV (zu 1) (yO _))) we Tp (xP (zt (zu 1) (zt (zu 0) (zt (zu 2) (zt (zu 3) zY)))))) zY)))) vJ) (xL (zu 2))))))))])
def zeG(T:Tx K mg kA')(n:Nat):T.aK.Ok P w base (65+n) 4 (yB n):=(zd0 T n).1
def VE:TwS:=(zw (sIf (Um (bE (zx (Wm) [zi 1]))) zf5 zK) (zR (zx (yB 8) [zi 0,zi 1,zi 2,zi 3])))
def VF:TwF:=zL 4 0 (VE)
def zgM:T.cR.Ok P w base 74 4 (VF):=
 T.cR<$>(zgw,VE,zU (Uf (wS (zeE<*>(pv 1::zj)))) (¬zgp) zA<|>¬(!(T.aK\(zeG T 8,hr.mono ∅,yc,pv 0::pv 1::pv 2::pv 3::zj))))
def Zg:TwS:=(zw (zhX "Store" "boxes" (zi 0) (zi 1)) (zw (zhX "Store" "facts" (zi 0) (zbJ [])) (zhX "Store" "numbers" (zi 0) Vh)))
def wY:TwF:=zL 2 0 (Zg)
def zbe:T.aX.Ok P w mg base 1 2 (wY):=
 T.aX<$>(za7,Zg,zi0 (pv 0) (pv 1) rfl<|>zi0 (pv 0) (@YR _ _ _ _ zj) rfl<|>¬zi0 (pv 0) WH rfl)
def Zh:TwS:=(zw (sWh fu (bE (eOp (yD mK) (eOp zB (eOp YD (wA "Store" "facts" (zi 0)) (zi 1)) (qx 0)) (qE "fork"))) (zH (eOp zB (yy "Store" "kids_of" (xJ) (zi 0) [zi 1]) (eOp zB (zi 2) (yy "Store" "level_of" (yE) (zi 0) [zi 1]))) (gN 1))) (zR (eOp zB (eOp YD (wA "Store" "facts" (zi 0)) (zi 1)) (qx 1))))
def Zi:TwF:=zL 3 0 (Zh)
def zbf:T.aU.Ok P w mg base 2 3 (Zi):=
 T.aU<$>(za9,Zh,zaJ PassesOwn.leaving (zV yC ((xK (pv 0) rfl&&&pv 1)%zk) zD (by rfl)) (¬(1^^^(zZ (pv 0) T.ae T.aB.mt (ZI T) (hr.mono ∅) T.aB.b .nil yc (pv 1::zj)%(pv 2%zZ (pv 0) T.ae T.ao.mt (wX T) (hr.mono ∅) T.ao.b .nil yc (pv 1::zj)))))<|>¬(!((xK (pv 0) rfl&&&pv 1)%zk)))
def VG:TwS:=(zw (sIf (bE (eOp YE (eFn wM [zi 0]) (qx 0))) (zR (qx 0)) zK) (zR (eOp Xz (eMt zns (zi 0) []) (zi 1))))
def zJ:TwF:=zL 2 0 (VG)
def zT:T.bj.Ok P w base 1 2 (zJ):=
 T.bj<$>(zgy,VG,zU (yx (xR (-pv 0) zk)) (¬(!zk)) zA<|>¬(!zP vO (zrV AJ PySem.F.slot_list_pop PySem.F.type_list_pop zrW (pv 0)) (pv 1)))
def VH:TwS:=(zw (zH (qE "") (gN 2)) (zw (Zs (iR1 (zi 1)) (gN 3) (zw (zH (eOp zaS (zi 2) (eOp zhH (qE "abcdefghijklmnopqrstuvwxyz") (eOp Xz (zi 0) (qx 26)))) (gN 2)) (zH (eOp zce (zi 0) (qx 26)) (gN 0)))) (zR (zi 2))))
def Zj:TwF:=zL 2 2 (VH)
def zbg:T.cT.Ok P w base 1 2 (Zj):=
 T.cT<$>(zgz,VH,(2^^^zD)<|>yJ rfl T.aJ (pv 1::zj)>>=(↑3,(2^^^zP zaf (pv 2) (zfM>>>(zD,zP vO (pv 0) zk)))<|>¬(0^^^zP zfK (pv 0) zk))<|>¬(!pv 2))
def Wt:TwS:=(zw (zH (zx (zJ) [zi 0,qx 4]) (gN 2)) (zw (sIf (bE (eOp YE (zi 2) (qx 1))) (zw (zH (zbJ [qE "pass",qE "end",qE "lost",qE "set",qE "hand",qE "draw",qE "if",qE "gain",qE "while",qE "look",qE "times",qE "leaf",qE "fork"]) (gN 3)) (zw (zH (zx (zJ) [zi 0,qx 13]) (gN 4)) (zR (xt [gi,eV 3,eV 4] (iR1 (zi 1)) (gN 0) xl (eOp YD (zi 1) (eOp Xz (eOp wL (zi 2) (zi 0)) (qx 13))))))) zK) (zw (zH (zx (Zj) [zx (zJ) [zi 0,eOp znC (qx 26) (qx 8)],qx 8]) (gN 5)) (zw (sIf (zbI (bE (eOp YE (zi 2) (qx 2))) (bE (eOp dLt (zi 1) (qx 9)))) (zR (xt [gi,eV 5] (iR1 (zi 1)) (gN 0) xl (eSl zdn (zi 1) oNo (VQ (eOp wL (zi 0) (qx 1)))))) zK) (zw (zH (zx (zJ) [zi 0,qx 1664]) (gN 6)) (zw (zH (eOp wL (qx 1) (eOp Xz (zi 6) (qx 8))) (gN 7)) (zw (zH (eOp Xz (eOp zce (zi 6) (qx 8)) (zi 7)) (gN 8)) (zR (xt [gi,eV 5,eV 7,eV 8,eV 6] (iR1 (zi 1)) (gN 0) xl (eOp zaS (eOp zaS (eSl zdn (zi 1) oNo (VQ (zi 3))) (zx (Zj) [eOp wL (eOp zce (zi 4) (qx 64)) (zi 0),qx 1])) (eSl zdn (zi 1) (VQ (eOp wL (zi 3) (qx 1))) (VQ (zi 2)))))))))))))
def Wu:TwF:=zL 2 7 (Wt)
def zeH:T.cF.Ok P w base 2 2 (Wu):=
 T.cF<$>(zew,Wt,(2^^^(zT<*>(pv 0::zk::zj)))<|>zU (yx (xR (pv 2) zk)) ((3^^^@YR _ _ _ _ (zD::zD::zD::zD::zD::zD::zD::zD::zD::zD::zD::zD::zD::zj))<|>(4^^^(zT<*>(pv 0::zk::zj)))<|>¬(!(vy∘(["_law_k","_law_some","_law_turn"],yK (3::4::yM),yJ rfl T.aJ (pv 1::zj),↑0,yL,pv 1&&&zP vO (zP xy (pv 2) (pv 0)) zk)))) zA<|>(5^^^(zbg<*>((zT<*>(pv 0::zP zmE zk zk::zj))::zk::zj)))<|>zU (PW.pt (zby (yx (xR (pv 2) zk)) (Tn (yx (zb5 (pv 1) zk))))) (¬(!(vy∘(["_law_k","_law_word_here"],yK (5::yM),yJ rfl T.aJ (pv 1::zj),↑0,yL,WE zje (pv 1) zaL (WZ (zP xy (pv 0) zk)))))) zA<|>(6^^^(zT<*>(pv 0::zk::zj)))<|>(7^^^zP xy zk (zP vO (pv 6) zk))<|>(8^^^zP vO (zP zfK (pv 6) zk) (pv 7))<|>¬(!(vy∘(["_law_k","_law_word_here","_law_size","_law_at","_law_cell"],yK (5::7::8::6::yM),yJ rfl T.aJ (pv 1::zj),↑0,yL,zP zaf (zP zaf (WE zje (pv 1) zaL (WZ (pv 3))) (zbg<*(zP xy (zP zfK (pv 4) zk) (pv 0)::zk::zj))) (WE zje (pv 1) (WZ (zP xy (pv 3) zk)) (WZ (pv 2)))))))
def Wv:TwS:=(zw (zH (zx (zJ) [zi 0,qx 40]) (gN 2)) (zw (sIf (bE (eOp dGt (zi 2) (qx 9))) (zH (eOp wL (qx 1) (eOp Xz (zi 2) (qx 3))) (gN 2)) zK) (zw (zH (xc []) (gN 3)) (zw (zH (qx 1) (gN 4)) (zw (Zs (iL (zx (Wu) [zi 0,zi 2])) (gN 5) (zw (zH (eOp wL (qx 1) (zx (zJ) [zi 0,qx 9])) (gN 6)) (zw (sIf (zbI (bE (eOp dGt (zi 2) (qx 1))) (bE (eOp dLt (zi 1) (qx 100)))) (zH (eOp wL (qx 1) (eOp Xz (zi 6) (qx 3))) (gN 6)) zK) (zw (zH (eFn zsd [zi 6,eOp zbN (zi 1) (zi 4)]) (gN 6)) (zw (zH (eOp XH (zi 3) (xc [xc [zi 5,zi 6]])) (gN 3)) (zH (eOp ww (zi 4) (zi 6)) (gN 4))))))) (zR (zi 3)))))))
def Ww:TwF:=zL 2 5 (Wv)
def zeI:T.cG.Ok P w base 3 2 (Ww):=
 T.cG<$>(zex,Wv,(2^^^(zT<*>(pv 0::zk::zj)))<|>zU (yx (zeR (pv 2) zk)) (¬(2^^^zP xy zk (zP vO (pv 2) zk))) zA<|>(3^^^(~~~zj))<|>(4^^^zk)<|>(((zeH<*>(pv 0::pv 2::zj))*0)>>=(↑5,(6^^^zP xy zk (zT<*>(pv 0::zk::zj)))<|>zU (PW.pt (zby (yx (zeR (pv 2) zk)) (Tn (yx (zb5 (pv 1) zk))))) (¬(6^^^zP xy zk (zP vO (pv 6) zk))) zA<|>(6^^^yh (zlw rfl) rfl T.hZ boot_min (pv 6::zP zdg (pv 1) (pv 4)::zj))<|>(3^^^zP (Vd (K:=K)) (pv 3) (~~~((~~~(pv 5::pv 6::zj))::zj)))<|>¬(4^^^zP xq (pv 4) (pv 6))))<|>¬(!pv 3))
def Ys:TwS:=(zw (zH (zx (zJ) [zi 0,eOp wL (eOp zpV (qx 2) (eFn wM [zi 1])) (qx 3)]) (gN 2)) (zw (sIf (bE (eOp dGt (zi 2) (qx 2))) (zR (eOp zB (eOp zB (zi 1) (eOp Xz (zi 2) (eFn wM [zi 1]))) (qx 0))) zK) (zw (sIf (bE (eOp YE (zi 2) (qx 2))) (zR (zx (zJ) [zi 0,eOp znC (qx 10) (qx 9)])) zK) (zR (zx (zJ) [zi 0,qx 10])))))
def xA:TwF:=zL 2 1 (Ys)
def wO:T.bY.Ok P w base 2 2 (xA):=
 T.bY<$>(zcL,Ys,(2^^^(zT<*>(pv 0::zP xy (zP zrL zk (-pv 1)) zk::zj)))<|>zU (yx (zeR (pv 2) zk)) (¬(!((pv 1%zP vO (pv 2) (-pv 1))%zk))) zA<|>zU (yx (xR (pv 2) zk)) (¬(!(zT<*>(pv 0::zP zmE zk zk::zj)))) zA<|>¬(!(zT<*>(pv 0::zk::zj))))
def VI:TwS:=(zw (zH (zx (xA) [zi 0,zi 1]) (gN 2)) (zw (zH (eOp zhH (qE "=<#") (zx (zJ) [zi 0,qx 3])) (gN 3)) (zR (xc [zi 2,zi 3,zx (xA) [zi 0,zi 1]]))))
def YH:TwF:=zL 2 2 (VI)
def zbh:T.cm.Ok P w base 3 2 (YH):=
 T.cm<$>(zgA,VI,(2^^^(wO<*>(pv 0::pv 1::zj)))<|>(3^^^(zfM>>>(zD,zT<*>(pv 0::zk::zj))))<|>¬(!(~~~(pv 2::pv 3::(wO<*>(pv 0::pv 1::zj))::zj))))
def Zk:TwS:=(zw (zH (zx (zJ) [zi 0,qx 6]) (gN 3)) (zw (sIf (bE (eOp YE (zi 3) (qx 5))) (zR (xc [zi 2,qE "+",eOp wL (qx 1) (zx (zJ) [zi 0,qx 8])])) zK) (zw (zH (zx (xA) [zi 0,zi 1]) (gN 4)) (zw (sIf (bE (eOp YE (zi 3) (qx 4))) (zR (xc [zi 4,qE "-",zi 2])) zK) (zw (sIf (bE (eOp YE (zi 3) (qx 0))) (zR (xc [zi 4])) zK) (zR (xc [zi 4,eOp zhH (qE " +-*") (zi 3),zx (xA) [zi 0,zi 1]])))))))
def wZ:TwF:=zL 3 2 (Zk)
def XV:T.bH.Ok P w base 3 3 (wZ):=
 T.bH<$>(zba,Zk,(3^^^(zT<*>(pv 0::zk::zj)))<|>zU (yx (xR (pv 3) zk)) (¬(!(~~~(pv 2::zD::zP xy zk (zT<*>(pv 0::zk::zj))::zj)))) zA<|>(4^^^(wO<*>(pv 0::pv 1::zj)))<|>zU (yx (xR (pv 3) zk)) (¬(!(~~~(pv 4::zD::pv 2::zj)))) zA<|>zU (yx (xR (pv 3) zk)) (¬(!(~~~(pv 4::zj)))) zA<|>¬(!(~~~(pv 4::(zfM>>>(zD,pv 3))::(wO<*>(pv 0::pv 1::zj))::zj))))
def Yt:TwS:=(zw (zH (xt [gi,eV 0] (iR1 (zi 1)) (gN 0) xl (zx (zJ) [zi 1,qx 4])) (gN 2)) (zw (zH (zx (zJ) [zi 0,zi 1]) (gN 3)) (zw (zH (eFn zlU [qx 1,eOp YD (zi 2) (zi 3)]) (zf7 (zi 2) (zi 3))) (zR (eFn YW [zi 2])))))
def vN:TwF:=zL 2 2 (Yt)
def VX:T.bW.Ok P w base 2 2 (vN):=
 T.bW<$>(zcM,Yt,(2∘(top 49)∘(["_law_k","_law_left"],yK (0::yM),yJ rfl T.aJ (pv 1::zj),↑0,yL,zT<*(pv 1::zk::zj)))<|>(3^^^(zT<*>(pv 0::pv 1::zj)))<|>zmy (yh (zbA rfl) rfl T.gm boot_max (zk::(pv 2&&&pv 3)::zj)) (zmx (pv 2) (pv 3) zhm)<|>¬(!vU (vf (K:=K)) rfl T.bJ boot_tuple (pv 2::zj)))
def Xq:TwS:=(zw (sIf (bE (eOp (yD mK) (zi 2) (qE "gain"))) (zR (xc [qE "gain",zx (xA) [zi 0,zi 1]])) zK) (zw (sIf (bE (eOp (yD mK) (zi 2) (qE "look"))) (zR (xc [qE "look",zx (YH) [zi 0,zi 1]])) zK) (zw (sIf (bOr (bE (eOp YE (eFn wM [zi 1]) (qx 0))) (bE (eOp (yD mK) (zi 2) (qE "pass")))) (zR (xc [qE "pass"])) zK) (zw (zH (eOp zB (zi 1) (zx (zJ) [zi 0,eFn wM [zi 1]])) (gN 3)) (zw (sIf (bE (eOp (yD mK) (zi 2) (qE "set"))) (zR (xc [qE "set",eOp zB (zi 3) (qx 0),zx (wZ) [zi 0,zi 1,eOp zB (zi 3) (qx 0)]])) zK) (zR (xc [qE "draw",eOp zB (zi 3) (qx 0),zx (vN) [zi 0,eOp zB (zi 3) (qx 1)]])))))))
def Xr:TwF:=zL 3 1 (Xq)
def zd1:T.bK.Ok P w base 4 3 (Xr):=
 T.bK<$>(zdQ,Xq,zU (zV yC (pv 2) zD (by rfl)) (¬(!(~~~(zD::(wO<*>(pv 0::pv 1::zj))::zj)))) zA<|>zU (zV yC (pv 2) zD (by rfl)) (¬(!(~~~(zD::(zbh<*>(pv 0::pv 1::zj))::zj)))) zA<|>zU (PW.pt (zeS (yx (xR (-pv 1) zk)) (zbx (zV yC (pv 2) zD (by rfl))))) (¬(!(~~~(zD::zj)))) zA<|>(3^^^(pv 1%(zT<*>(pv 0::(-pv 1)::zj))))<|>zU (zV yC (pv 2) zD (by rfl)) (¬(!(~~~(zD::(pv 3%zk)::(XV<*>(pv 0::pv 1::(pv 3%zk)::zj))::zj)))) zA<|>¬(!(~~~(zD::(pv 3%zk)::(VX<*>(pv 0::(pv 3%zk)::zj))::zj))))
def Zl(bw:TwF):TwS:=(zw (zH (qx 0) (gN 1)) (zw (Zs (iT (zi 0)) (gN 2) (zw (zH (eOp wL (zi 1) (qx 1)) (gN 1)) (zw (sIf (bE (eOp (yD mK) (eOp zB (zi 2) (qx 0)) (qE "if"))) (zH (eOp wL (eOp wL (zi 1) (zx bw [eOp zB (zi 2) (qx 2)])) (zx bw [eOp zB (zi 2) (qx 3)])) (gN 1)) zK) (zw (sIf (bE (eOp (yD mK) (eOp zB (zi 2) (qx 0)) (qE "while"))) (zH (eOp wL (zi 1) (zx bw [eOp zB (zi 2) (qx 2)])) (gN 1)) zK) (zw (sIf (bE (eOp (yD mK) (eOp zB (zi 2) (qx 0)) (qE "times"))) (zH (eOp wL (zi 1) (eOp ww (eFn zlU [qx 1,eOp zB (zi 2) (qx 1)]) (eOp wL (qx 1) (zx bw [eOp zB (zi 2) (qx 2)])))) (gN 1)) zK) (sIf (bE (eOp (yD mK) (eOp zB (zi 2) (qx 0)) (qE "hand"))) (zH (eOp wL (zi 1) (eFn zgc [xt [gi] (iA (eOp zB (zi 2) (qx 1))) (gN 0) xl (zx bw [zi 0])])) (gN 1)) zK)))))) (zR (zi 1))))
def yI:Nat->TwF
 |0=>λ_ _=>gi
 |n+1=>zL 1 2 (Zl (yI n))
def Yz(n:Nat):yI (n+1)=zL 1 2 (Zl (yI n)):=by rfl
def TL:yI 0=λ_ _=>gi:=by rfl
def zcQ:∀n:Nat,T.az.Ok P w base (0+n) 1 (yI n):=by
 intro n
 induction n with
 |zero=>
  skip
  rw[TL];show wV
 |succ n ih=>
  .rw[Yz];show T.az<$>(zdR,Zl,(1^^^zk)<|>ZK (K:=K) (pv 0)>>=(↑2,(1^^^zP xy (pv 1) zk)<|>zU (zV yC (pv 2%zk) zD (by rfl)) (¬(1^^^zP xy (zP xy (pv 1) (T.az\(ih,hr.mono #v[0],yc,(pv 2%zk)::zj))) (T.az\(ih,hr.mono #v[0],yc,(pv 2%zk)::zj)))) zA<|>zU (zV yC (pv 2%zk) zD (by rfl)) (¬(1^^^zP xy (pv 1) (T.az\(ih,hr.mono #v[0],yc,(pv 2%zk)::zj)))) zA<|>zU (zV yC (pv 2%zk) zD (by rfl)) (¬(1^^^zP xy (pv 1) (zP xq (yh (zbA rfl) rfl T.gm boot_max (zk::(pv 2%zk)::zj)) (zP xy zk (T.az\(ih,hr.mono #v[0],yc,(pv 2%zk)::zj)))))) zA<|>¬zU (zV yC (pv 2%zk) zD (by rfl)) (¬(1^^^zP xy (pv 1) (yh (ze6 (K:=K) rfl) rfl T.fE PyProof.Rows.Boot.«sum» (zQ ((top 51)∘(["_law_one"],yK yM,zgl (K:=K) (pv 2%zk),↑0,yL,T.az\(ih,hr.mono #v[0],wH,pv 0::zj))) zj)))) zA)<|>¬(!pv 1))
def UZ(T:Tx K mg kA')(n:Nat):T.az.Ok P w base (0+n) 1 (yI n):=(zcQ T n)
def ZS(bR:TwF)(dS:TwF):TwS:=(zR (eFn YW [xt [gi,eV 0,eV 1,eV 2,eV 3] (iR1 (zx (zJ) [zi 0,qx 4])) (gN 0) xl (zx dS [zi 1,zi 2,zi 3,zi 4])]))
def YI(bR:TwF)(dS:TwF):TwS:=(zw (zH (eOp YD (zi 2) (zx (zJ) [zi 0,eFn wM [zi 2]])) (gN 4)) (zw (sIf (bE (eOp (dIn hG) (zi 4) (zbJ [qE "if",qE "while",qE "times",qE "hand"]))) (zR (zx (Xr) [zi 0,zi 1,zi 4])) zK) (zw (sIf (bE (eOp YE (zi 3) (qx 0))) (zR (xc [qE "pass"])) zK) (zw (zH (zx bR [zi 0,zi 1,zi 2,eOp zjs (zi 3) (qx 1)]) (gN 5)) (zw (sIf (bE (eOp (yD mK) (zi 4) (qE "times"))) (zw (zH (zx (zJ) [zi 0,eOp wL (qx 1) (eOp zbN (qx 60) (eOp wL (qx 1) (zx (yI 6) [zi 5])))]) (gN 6)) (zw (sIf (bE (eOp YE (eOp Xz (zi 6) (qx 2)) (qx 1))) (zH (eOp Xz (zi 6) (qx 6)) (gN 6)) zK) (zR (xc [qE "times",zi 6,zi 5])))) zK) (zw (zH (zx bR [zi 0,zi 1,zi 2,eOp zjs (zi 3) (qx 1)]) (gN 7)) (zw (sIf (bE (eOp (yD mK) (zi 4) (qE "if"))) (zR (xc [qE "if",zx (YH) [zi 0,zi 1],zi 5,zi 7])) zK) (zw (zH (zx (zJ) [zi 0,qx 10]) (gN 8)) (zw (zH (eOp zhL (zbJ [zi 5,zi 7]) (xt [gi,eV 0,eV 1,eV 2] (iR1 (eFn zlU [qx 0,eOp zjs (zi 8) (qx 3)])) (gN 0) xl (zx bR [zi 1,zi 2,zi 3,qx 0]))) (gN 9)) (zR (xc [qE "hand",eFn YW [zi 9]])))))))))))
mutual
def yP:Nat->TwF
 |0=>λ_ _=>gi
 |n+1=>zL 4 0 (ZS (yP n) (yv n))
def yv:Nat->TwF
 |0=>λ_ _=>gi
 |n+1=>zL 4 6 (YI (yP n) (yv n))
end
def Xs(n:Nat):yP (n+1)=zL 4 0 (ZS (yP n) (yv n)):=by rw[yP]
def zaD:yP 0=λ_ _=>gi:=by rw[yP]
def XW(n:Nat):yv (n+1)=zL 4 6 (YI (yP n) (yv n)):=by rw[yv]
def zbi:yv 0=λ_ _=>gi:=by rw[yv]
def zd2:∀n:Nat,T.bu.Ok P w base (6+n) 4 (yP n)/\T.bC.Ok P w base (6+n) 4 (yv n):=by
 intro n
 induction n with
 |zero=>
  show#[?_,?_];rw[zaD];show wV;rw[zbi];show wV
 |succ n ih=>
  show#[?_,?_];rw[Xs];show T.bu<$>(zey,ZS,¬(!vU (vf (K:=K)) rfl T.bJ boot_tuple (zQ ((top 52)∘(["_law_k","_law_left","_law_boxes_here","_law_kinds","_law_depth"],yK (0::1::2::3::yM),yJ rfl T.aJ ((T.bj\(zT T,hr.mono #v[0],yc,pv 0::zk::zj))::zj),↑0,yL,T.bC\(ih.2,hr.mono #v[0],wH,pv 1::pv 2::pv 3::pv 4::zj))) zj)));rw[XW];show T.bC<$>(zgB,YI,(4^^^(pv 2&&&(T.bj\(zT T,hr.mono #v[0],yc,pv 0::(-pv 2)::zj))))<|>zU (zV (ze5 (K:=K)) (pv 4) (@YR _ _ _ _ (zD::zD::zD::zD::zj)) (by rfl)) (¬(!(T.bK\(zd1 T,hr.mono #v[0],yc,pv 0::pv 1::pv 4::zj)))) zA<|>zU (yx (xR (pv 3) zk)) (¬(!(~~~(zD::zj)))) zA<|>(5^^^(T.bu\(ih.1,hr.mono #v[0],yc,pv 0::pv 1::pv 2::zP zc3 (pv 3) zk::zj)))<|>zU (zV yC (pv 4) zD (by rfl)) ((6^^^(T.bj\(zT T,hr.mono #v[0],yc,pv 0::zP xy zk (zP zdg zk (zP xy zk (T.az\(UZ T 6,hr.mono #v[0],yc,pv 5::zj))))::zj)))<|>zU (yx (xR (zP vO (pv 6) zk) zk)) (¬(6^^^zP vO (pv 6) zk)) zA<|>¬(!(~~~(zD::pv 6::pv 5::zj)))) zA<|>(7^^^(T.bu\(ih.1,hr.mono #v[0],yc,pv 0::pv 1::pv 2::zP zc3 (pv 3) zk::zj)))<|>zU (zV yC (pv 4) zD (by rfl)) (¬(!(~~~(zD::(T.cm\(zbh T,hr.mono #v[0],yc,pv 0::pv 1::zj))::pv 5::pv 7::zj)))) zA<|>(8^^^(T.bj\(zT T,hr.mono #v[0],yc,pv 0::zk::zj)))<|>(9^^^zP (zpL (K:=K)) (@YR _ _ _ _ (pv 5::pv 7::zj)) ((top 53)∘(["_law_k","_law_left","_law_boxes_here","_law_kinds"],yK (0::1::2::yM),yJ rfl T.aJ (yh (zbA rfl) rfl T.gm boot_max (zk::zP zc3 (pv 8) zk::zj)::zj),↑0,yL,T.bu\(ih.1,hr.mono #v[0],wH,pv 1::pv 2::pv 3::zk::zj))))<|>¬(!(~~~(zD::vU (vf (K:=K)) rfl T.bJ boot_tuple (pv 9::zj)::zj))))
def zgN(T:Tx K mg kA')(n:Nat):T.bC.Ok P w base (6+n) 4 (yv n):=(zd2 T n).2
def Wx:TwS:=(zw (Zs (iR1 (eFn wM [zi 0])) (gN 3) (sIf (bE (eOp (yD mK) (eOp zB (eOp zB (zi 0) (zi 3)) (qx 0)) (zi 2))) (zR (eOp zB (zi 1) (zi 3))) zK)) (zR (zi 2)))
def xG:TwF:=zL 3 1 (Wx)
def vH:T.bS.Ok P w base 1 3 (xG):=
 T.bS<$>(zez,Wx,yJ rfl T.aJ ((-pv 0)::zj)>>=(↑3,¬zU (zV yC ((pv 0%pv 3)%zk) (pv 2) (by rfl)) (¬(!(pv 1%pv 3))) zA)<|>¬(!pv 2))
def Wy:TwS:=(zw (zH (zx (xG) [zi 0,zi 1,eOp zB (zi 2) (qx 0)]) (gN 3)) (zw (zH (zx (xG) [zi 0,zi 1,eOp zB (zi 2) (qx 2)]) (gN 4)) (zw (sIf (bE (eOp (yD mK) (eOp zB (zi 2) (qx 1)) (qE "="))) (zR (eOp YE (zi 3) (zi 4))) zK) (zw (sIf (bE (eOp (yD mK) (eOp zB (zi 2) (qx 1)) (qE "<"))) (zR (eOp dLt (zi 3) (zi 4))) zK) (zR (eOp zga (zi 3) (zi 4)))))))
def wR:TwF:=zL 3 2 (Wy)
def zac:T.bG.Ok P w base 2 3 (wR):=
 T.bG<$>(zeA,Wy,(3^^^(vH<*>(pv 0::pv 1::(pv 2%zk)::zj)))<|>(4^^^(vH<*>(pv 0::pv 1::(pv 2%zk)::zj)))<|>zU (zV yC (pv 2%zk) zD (by rfl)) (¬(!YN (xR (pv 3) (pv 4)))) zA<|>zU (zV yC (pv 2%zk) zD (by rfl)) (¬(!YN (zb5 (pv 3) (pv 4)))) zA<|>¬(!YN (zbw (pv 3) (pv 4))))
def Tc:TwS:=(zw (zH (eFn zkM [zi 1]) (gN 4)) (zw (Zs (iR1 (eFn wM [zi 0])) (gN 5) (sIf (bE (eOp (yD mK) (eOp zB (eOp zB (zi 0) (zi 5)) (qx 0)) (zi 2))) (zH (eOp Xz (zi 3) (eOp zB (eOp zB (zi 0) (zi 5)) (qx 1))) (zf7 (zi 4) (zi 5))) zK)) (zR (eFn YW [zi 4]))))
def Yd:TwF:=zL 4 2 (Tc)
def zct:T.dm.Ok P w base 1 4 (Yd):=
 T.dm<$>(zii,Tc,(4^^^vU (zjd (K:=K)) rfl T.eG boot_list (pv 1::zj))<|>yJ rfl T.aJ ((-pv 0)::zj)>>=(↑5,¬zU (zV yC ((pv 0%pv 5)%zk) (pv 2) (by rfl)) (¬zmy (zP vO (pv 3) ((pv 0%pv 5)%zk)) (zmx (pv 4) (pv 5) zhm)) zA)<|>¬(!vU (vf (K:=K)) rfl T.bJ boot_tuple (pv 4::zj)))
def Td:TwS:=(zw (zH (zx (xG) [zi 0,zi 1,eOp zB (eOp zB (zi 2) (qx 2)) (qx 0)]) (gN 3)) (zw (sIf (bE (eOp YE (eFn wM [eOp zB (zi 2) (qx 2)]) (qx 3))) (zw (zH (zx (xG) [zi 0,zi 1,eOp zB (eOp zB (zi 2) (qx 2)) (qx 2)]) (gN 4)) (zw (sIf (bE (eOp (yD mK) (eOp zB (eOp zB (zi 2) (qx 2)) (qx 1)) (qE "+"))) (zH (eOp wL (zi 3) (zi 4)) (gN 3)) zK) (zw (sIf (bE (eOp (yD mK) (eOp zB (eOp zB (zi 2) (qx 2)) (qx 1)) (qE "-"))) (zH (eOp zjs (zi 3) (zi 4)) (gN 3)) zK) (sIf (bE (eOp (yD mK) (eOp zB (eOp zB (zi 2) (qx 2)) (qx 1)) (qE "*"))) (zH (eOp ww (zi 3) (zi 4)) (gN 3)) zK)))) zK) (zR (zx (Yd) [zi 0,zi 1,eOp zB (zi 2) (qx 1),zi 3]))))
def XX:TwF:=zL 3 2 (Td)
def zir:T.cE.Ok P w base 2 3 (XX):=
 T.cE<$>(zij,Td,(3^^^(vH<*>(pv 0::pv 1::((pv 2%zk)%zk)::zj)))<|>zU (yx (xR (-(pv 2%zk)) zk)) ((4^^^(vH<*>(pv 0::pv 1::((pv 2%zk)%zk)::zj)))<|>zU (zV yC ((pv 2%zk)%zk) zD (by rfl)) (¬(3^^^zP xy (pv 3) (pv 4))) zA<|>zU (zV yC ((pv 2%zk)%zk) zD (by rfl)) (¬(3^^^zP zc3 (pv 3) (pv 4))) zA<|>¬zU (zV yC ((pv 2%zk)%zk) zD (by rfl)) (¬(3^^^zP xq (pv 3) (pv 4))) zA) zA<|>¬(!(zct<*>(pv 0::pv 1::(pv 2%zk)::pv 3::zj))))
def Te:TwS:=(zw (zH (eFn zlT [zi 0]) (gN 2)) (zw (zH (zi 1) (gN 3)) (zw (sWh fu (bE (eOp dGt (zi 3) (qx 0))) (zw (zH (eOp Xz (zi 2) (zi 3)) (gN 4)) (zw (zH (zi 3) (gN 2)) (zH (zi 4) (gN 3))))) (zR (xc [eOp Ux (zi 0) (zi 2),eOp Ux (zi 1) (zi 2)])))))
def Ye:TwF:=zL 2 3 (Te)
def zcu:T.dq.Ok P w base 33 2 (Ye):=
 T.dq<$>(zik,Te,(2^^^yh zc4 rfl T.gu boot_abs (pv 0::zj))<|>(3^^^pv 1)<|>zaJ PassesOwn.leaving (yx (zeR (pv 3) zk)) ((4^^^zP vO (pv 2) (pv 3))<|>(2^^^pv 3)<|>¬(3^^^pv 4))<|>¬(!(~~~(zP (Uw hr) (pv 0) (pv 2)::zP (Uw hr) (pv 1) (pv 2)::zj))))
def Tf:TwS:=(zR (zx (Ye) [eOp wL (eOp ww (eOp zB (zi 0) (qx 0)) (eOp zB (zi 1) (qx 1))) (eOp ww (eOp zB (zi 1) (qx 0)) (eOp zB (zi 0) (qx 1))),eOp ww (eOp zB (zi 0) (qx 1)) (eOp zB (zi 1) (qx 1))]))
def Yf:TwF:=zL 2 0 (Tf)
def zcv:T.cD.Ok P w base 34 2 (Yf):=
 T.cD<$>(zil,Tf,¬(!(zcu<*>(zP xy (zP xq (pv 0%zk) (pv 1%zk)) (zP xq (pv 1%zk) (pv 0%zk))::zP xq (pv 0%zk) (pv 1%zk)::zj))))
def vz(dR:TwF):TwS:=(zw (sIf (bE (eUn (Vg "tuple") (zi 1))) (zw (sIf (bOr (Um (bE (eUn (Vg "tuple") (zi 0)))) (bE (eOp zga (eFn wM [zi 0]) (eFn wM [zi 1])))) (zR (eC (.bl mK))) zK) (zR (eFn zhO [xt [gi,eV 0,eV 1] (iR1 (eFn wM [zi 1])) (gN 0) xl (zx dR [eOp zhI (zi 1) (zi 0),eOp zhI (zi 2) (zi 0)])]))) zK) (zw (sIf (bE (eUn (Vg "list") (zi 1))) (zw (sIf (bOr (Um (bE (eUn (Vg "list") (zi 0)))) (bE (eOp zga (eFn wM [zi 0]) (eFn wM [zi 1])))) (zR (eC (.bl mK))) zK) (zR (eFn zhO [xt [gi,eV 0,eV 1] (iR1 (eFn wM [zi 1])) (gN 0) xl (zx dR [eOp zhI (zi 1) (zi 0),eOp zhI (zi 2) (zi 0)])]))) zK) (zw (sIf (bE (eUn zjr (zi 1))) (zR (eUn zjr (zi 0))) zK) (zw (sIf (bE (eUn (Vg "str") (zi 1))) (zR (zf4 (eUn (Vg "str") (zi 0)) (eOp (yD mK) (zi 0) (zi 1)))) zK) (zR (zf4 (eUn (Vg "int") (zi 0)) (zf4 (eB (Um (bE (eUn (Vg "bool") (zi 0))))) (eOp (yD mK) (zi 0) (zi 1)))))))))
def xk:Nat->TwF
 |0=>λ_ _=>gi
 |n+1=>zL 2 0 (vz (xk n))
def vc(n:Nat):xk (n+1)=zL 2 0 (vz (xk n)):=by rfl
def zbj:xk 0=λ_ _=>gi:=by rfl
def zeJ:∀n:Nat,T.bo.Ok P w base (0+n) 2 (xk n):=by
 intro n
 induction n with
 |zero=>
  skip
  rw[zbj];show wV
 |succ n ih=>
  .rw[vc];show T.bo<$>(zgC,vz,zU (wS (yh (xH (K:=K)) rfl T.ax boot_isinstance (zQ (pv 1) (zQ (vt (v:= .ty "tuple") rfl T.bJ boot_tuple rfl) zj)))) (zU (PW.pt (zeS (Uf (wS (yh (xH (K:=K)) rfl T.ax boot_isinstance (zQ (pv 0) (zQ (vt (v:= .ty "tuple") rfl T.bJ boot_tuple rfl) zj))))) (zbx (yx (zbw (-pv 0) (-pv 1)))))) (¬(!zmt)) zA<|>¬(!yh (zbG (K:=K) rfl) rfl T.gq PyProof.Rows.Boot.«all» (zQ (ZZ∘(["_law_k","_law_found","_law_due"],yK (0::1::yM),yJ rfl T.aJ ((-pv 1)::zj),↑0,yL,T.bo\(ih,hr.mono #v[0],wH,(zcX (K:=K)>>>(pv 1,pv 0))::(zcX (K:=K)>>>(pv 2,pv 0))::zj))) zj))) zA<|>zU (wS (yh (xH (K:=K)) rfl T.ax boot_isinstance (zQ (pv 1) (zQ (vt (v:= .ty "list") rfl T.eG boot_list rfl) zj)))) (zU (PW.pt (zeS (Uf (wS (yh (xH (K:=K)) rfl T.ax boot_isinstance (zQ (pv 0) (zQ (vt (v:= .ty "list") rfl T.eG boot_list rfl) zj))))) (zbx (yx (zbw (-pv 0) (-pv 1)))))) (¬(!zmt)) zA<|>¬(!yh (zbG (K:=K) rfl) rfl T.gq PyProof.Rows.Boot.«all» (zQ (ZZ∘(["_law_k","_law_found","_law_due"],yK (0::1::yM),yJ rfl T.aJ ((-pv 1)::zj),↑0,yL,T.bo\(ih,hr.mono #v[0],wH,(zcX (K:=K)>>>(pv 1,pv 0))::(zcX (K:=K)>>>(pv 2,pv 0))::zj))) zj))) zA<|>zU (yx (ziT (pv 1))) (¬(!YN (ziT (pv 0)))) zA<|>zU (wS (yh (xH (K:=K)) rfl T.ax boot_isinstance (zQ (pv 1) (zQ (vt (v:= .ty "str") rfl T.gk boot_str rfl) zj)))) (¬(!zae (yh (xH (K:=K)) rfl T.ax boot_isinstance (zQ (pv 0) (zQ (vt (v:= .ty "str") rfl T.gk boot_str rfl) zj))) (zbz (zcU yC (pv 0) (pv 1) (by rfl))))) zA<|>¬(!zae (yh (xH (K:=K)) rfl T.ax boot_isinstance (zQ (pv 0) (zQ (vt (v:= .ty "int") rfl T.gn boot_int rfl) zj))) (zae (zfJ (yh (xH (K:=K)) rfl T.ax boot_isinstance (zQ (pv 0) (zQ (vt (v:= .ty "bool") rfl T.eX boot_bool rfl) zj)))) (zbz (zcU yC (pv 0) (pv 1) (by rfl))))))
def zgO(T:Tx K mg kA')(n:Nat):T.bo.Ok P w base (0+n) 2 (xk n):=(zeJ T n)
def Wz:TwS:=(zR (zf4 (eUn (Vg "int") (zi 0)) (eB (Um (bE (eUn (Vg "bool") (zi 0)))))))
def WA:TwF:=zL 1 0 (Wz)
def zeK:T.cB.Ok P w base 1 1 (WA):=
 T.cB<$>(zeB,Wz,¬(!zae (yh (xH (K:=K)) rfl T.ax boot_isinstance (zQ (pv 0) (zQ (vt (v:= .ty "int") rfl T.gn boot_int rfl) zj))) (zbz (zfJ (yh (xH (K:=K)) rfl T.ax boot_isinstance (zQ (pv 0) (zQ (vt (v:= .ty "bool") rfl T.eX boot_bool rfl) zj)))))))
def Xt:TwS:=(zw (zH (zbJ [xc []]) (gN 1)) (zw (Zs (iT (zi 0)) (gN 2) (zw (zH (zbJ []) (gN 3)) (zw (Zs (iL (zi 1)) (gN 4) (zcd (eMt XG (zi 3) [xt [gi,eV 4] (iR1 (eOp zB (zi 2) (qx 1))) (gN 0) xl (eOp XH (zi 1) (xc [zi 0]))]))) (zH (zi 3) (gN 1))))) (zR (zi 1))))
def Zm:TwF:=zL 1 4 (Xt)
def zd3:T.cu.Ok P w base 1 1 (Zm):=
 T.cu<$>(zdS,Xt,(1^^^@YR _ _ _ _ ((~~~zj)::zj))<|>ZK (K:=K) (pv 0)>>=(↑2,(3^^^@YR _ _ _ _ zj)<|>((pv 1*0)>>=(↑4,¬To (zc6 AJ DK DL (zdj (K:=K)) (pv 3) (zQ ((top 62)∘(["_law_number","_law_state"],yK (4::yM),yJ rfl T.aJ ((pv 2%zk)::zj),↑0,yL,zP (Vd (K:=K)) (pv 1) (~~~(pv 0::zj)))) zj))))<|>¬(1^^^pv 3))<|>¬(!pv 1))
def Zn(ft:TwF):TwS:=(zw (zH (eFn wM [zi 3]) (gN 4)) (zw (sIf (bE (eOp YE (zi 4) (eFn wM [zi 1]))) (zR (yy "Store" "leaf" (wP) (zi 0) [wE (zi 2) (zi 3)])) zK) (zw (zH (zbJ []) (gN 5)) (zw (Zs (iR1 (eOp zB (eOp zB (zi 1) (zi 4)) (qx 1))) (gN 6) (zcd (eMt XF (zi 5) [zx ft [zi 0,zi 1,zi 2,eOp XH (zi 3) (xc [zi 6])]]))) (zR (yy "Store" "fork" (wQ) (zi 0) [zi 4,zi 5]))))))
def xE:Nat->TwF
 |0=>λ_ _=>gi
 |n+1=>zL 4 3 (Zn (xE n))
def Zo(n:Nat):xE (n+1)=zL 4 3 (Zn (xE n)):=by rfl
def zbk:xE 0=λ_ _=>gi:=by rfl
def zeL:∀n:Nat,T.bp.Ok P w base (2+n) 4 (xE n):=by
 intro n
 induction n with
 |zero=>
  skip
  rw[zbk];show wV
 |succ n ih=>
  .rw[Zo];show T.bp<$>(zgD,Zn,(4^^^(-pv 3))<|>zU (yx (xR (pv 4) (-pv 1))) (¬(!zZ (pv 0) T.ae T.aD.mt (ZP T) (hr.mono #v[0]) T.aD.b .nil yc (vg (K:=K) hr (pv 2) (pv 3) (λ_ _=>rfl)::zj))) zA<|>(5^^^@YR _ _ _ _ zj)<|>yJ rfl T.aJ (((pv 1%pv 4)%zk)::zj)>>=(↑6,¬To (zc6 AJ BR BU WG (pv 5) ((T.bp\(ih,hr.mono #v[0],yc,pv 0::pv 1::pv 2::zP (Vd (K:=K)) (pv 3) (~~~(pv 6::zj))::zj))::zj)))<|>¬(!zZ (pv 0) T.ae T.aE.mt (ZQ T) (hr.mono #v[0]) T.aE.b .nil yc (pv 4::pv 5::zj)))
def zbl(T:Tx K mg kA')(n:Nat):T.bp.Ok P w base (2+n) 4 (xE n):=(zeL T n)
def WB:TwS:=(zw (Zs (iDN (zi 3)) (gN 4) (sIf (Um (bE (zx (xk 10) [yy "Store" "value_at" (Zi) (zi 0) [zi 2,zi 4],wE (zi 3) (zi 4)]))) (zR (eC (.bl mK))) zK)) (zR (zf4 (zx (WA) [zi 2]) (eOp YE (zi 2) (zx (xE 12) [zi 0,zi 1,zi 3,xc []])))))
def ZT:TwF:=zL 4 1 (WB)
def zad:T.cC.Ok P w base 15 4 (ZT):=
 T.cC<$>(zeC,WB,zia (pv 3)>>=(↑4,¬zU (Uf (wS (T.bo\(zgO T 10,hr.mono ∅,yc,zZ (pv 0) T.ae T.aU.mt (zbf T) (hr.mono ∅) T.aU.b .nil yc (pv 2::pv 4::zj)::vg (K:=K) hr (pv 3) (pv 4) (λ_ _=>rfl)::zj)))) (¬(!zmt)) zA)<|>¬(!zae (zeK<*>(pv 2::zj)) (zbz (YN (xR (pv 2) (T.bp\(zbl T 12,hr.mono ∅,yc,pv 0::pv 1::pv 3::(~~~zj)::zj)))))))
def WC:TwS:=(zw (zH (xc [qx 0,qx 1]) (gN 4)) (zw (Zs (iR1 (eFn wM [eOp zB (zi 1) (qx 2)])) (gN 5) (zw (zH (wE (zi 2) (zx (Yd) [zi 0,zi 3,eOp zB (zi 1) (qx 1),zi 5])) (gN 6)) (zw (zH (xc [eOp ww (eOp zB (zi 6) (qx 0)) (eOp zB (eOp zB (zi 1) (qx 2)) (zi 5)),eOp ww (eOp zB (zi 6) (qx 1)) (eFn zfe [eOp zB (zi 1) (qx 2)])]) (gN 7)) (zH (zx (Yf) [zi 4,zi 7]) (gN 4))))) (zR (zi 4))))
def ZU:TwF:=zL 4 4 (WC)
def zeM:T.bT.Ok P w base 35 4 (ZU):=
 T.bT<$>(zeD,WC,(4^^^(~~~(zk::zk::zj)))<|>yJ rfl T.aJ ((-(pv 1%zk))::zj)>>=(↑5,(6^^^vg (K:=K) hr (pv 2) (zct<*>(pv 0::pv 3::(pv 1%zk)::pv 5::zj)) (λ_ _=>rfl))<|>(7^^^(~~~(zP xq (pv 6%zk) ((pv 1%zk)%pv 5)::zP xq (pv 6%zk) (yh (zdh (K:=K) rfl) rfl T.fE PyProof.Rows.Boot.«sum» ((pv 1%zk)::zj))::zj)))<|>¬(4^^^(zcv<*>(pv 4::pv 7::zj))))<|>¬(!pv 4))
def YJ(cf:TwF)(cx:TwF):TwS:=(zw (Zs (zp8 (zi 1)) (gN 4) (zH (zx cx [zi 0,zi 4,zi 2,zi 3]) (gN 2))) (zR (zi 2)))
def yW(cf:TwF)(cx:TwF):TwS:=(zw (zH (zbJ [zi 2]) (gN 4)) (zw (sIf (bE (eOp (yD mK) (eOp zB (zi 1) (qx 0)) (qE "if"))) (zH (xt [gi,eV 0,eV 2,eV 3] (iT (eSl zlP (zi 1) (VQ (qx 2)) oNo)) (gN 0) xl (zx cf [zi 1,zi 0,zi 2,zi 3])) (gN 4)) zK) (zw (sIf (bE (eOp (yD mK) (eOp zB (zi 1) (qx 0)) (qE "hand"))) (zH (xt [gi,eV 0,eV 2,eV 3] (iA (eOp zB (zi 1) (qx 1))) (gN 0) xl (zx cf [zi 1,zi 0,zi 2,zi 3])) (gN 4)) zK) (zw (sIf (bE (eOp (yD mK) (eOp zB (zi 1) (qx 0)) (qE "times"))) (zw (Zs (iR1 (eOp zB (zi 1) (qx 1))) (gN 5) (zH (zx cf [zi 0,eOp zB (zi 1) (qx 2),zi 2,zi 3]) (gN 2))) (zR (zi 2))) zK) (zw (zH Vh (gN 6)) (zw (Zs (iDN (zi 2)) (gN 7) (zw (zH (wE (eOp YD (zi 4) (qx 0)) (zi 7)) (gN 8)) (zw (sIf (bE (eOp (yD mK) (eOp zB (zi 1) (qx 0)) (qE "set"))) (zH (wE (zi 2) (zx (XX) [zi 0,zi 7,zi 1])) (gN 8)) zK) (zw (sIf (bE (eOp (yD mK) (eOp zB (zi 1) (qx 0)) (qE "draw"))) (zH (zx (ZU) [zi 0,zi 1,zi 2,zi 7]) (gN 8)) zK) (zw (sIf (zbI (bE (eOp (yD mK) (eOp zB (zi 1) (qx 0)) (qE "look"))) (Um (bE (zx (wR) [zi 0,zi 7,eOp zB (zi 1) (qx 1)])))) (zH (xc [qx 0,qx 1]) (gN 8)) zK) (zw (sIf (zbI (bE (eOp (yD mK) (eOp zB (zi 1) (qx 0)) (qE "gain"))) (bE (zi 3))) (zH (zx (Yf) [zi 8,xc [zx (xG) [zi 0,zi 7,eOp zB (zi 1) (qx 1)],qx 1]]) (gN 8)) zK) (zw (sIf (zbI (bE (eOp (yD mK) (eOp zB (zi 1) (qx 0)) (qE "if"))) (Um (bE (zx (wR) [zi 0,zi 7,eOp zB (zi 1) (qx 1)])))) (zH (wE (eOp YD (zi 4) (qx 1)) (zi 7)) (gN 8)) zK) (zw (sIf (bE (eOp (yD mK) (eOp zB (zi 1) (qx 0)) (qE "hand"))) (Zs (iL (zi 4)) (gN 9) (sIf (bE (eOp dLt (eOp ww (eOp zB (zi 8) (qx 0)) (eOp zB (wE (zi 9) (zi 7)) (qx 1))) (eOp ww (eOp zB (wE (zi 9) (zi 7)) (qx 0)) (eOp zB (zi 8) (qx 1))))) (zH (wE (zi 9) (zi 7)) (gN 8)) zK)) zK) (ZM (zi 6) (zi 7) (zi 8)))))))))) (zR (zi 6))))))))
mutual
def yG:Nat->TwF
 |0=>λ_ _=>gi
 |n+1=>zL 4 1 (YJ (yG n) (zX n))
def zX:Nat->TwF
 |0=>λ_ _=>gi
 |n+1=>zL 4 6 (yW (yG n) (zX n))
end
def XY(n:Nat):yG (n+1)=zL 4 1 (YJ (yG n) (zX n)):=by rw[yG]
def zbm:yG 0=λ_ _=>gi:=by rw[yG]
def yX(n:Nat):zX (n+1)=zL 4 6 (yW (yG n) (zX n)):=by rw[zX]
def VJ:zX 0=λ_ _=>gi:=by rw[zX]
def zeN:∀n:Nat,T.aY.Ok P w base (35+n) 4 (yG n)/\T.bq.Ok P w base (35+n) 4 (zX n):=by
 intro n
 induction n with
 |zero=>
  show#[?_,?_];rw[zbm];show wV;rw[VJ];show wV
 |succ n ih=>
  show#[?_,?_];rw[XY];show T.aY<$>(zgE,YJ,znd (K:=K) rfl T.cz (pv 1::zj)>>=(↑4,¬(2^^^(T.bq\(ih.2,hr.mono #v[0],yc,pv 0::pv 4::pv 2::pv 3::zj))))<|>¬(!pv 2));rw[yX];show T.bq<$>(zbb,yW,(4^^^@YR _ _ _ _ (pv 2::zj))<|>zU (zV yC (pv 1%zk) zD (by rfl)) (¬(4∘wo∘(["_law_one","_law_boxes_here","_law_aims","_law_counted"],yK (0::2::3::yM),ZK (K:=K) (WE (zpN (K:=K)) (pv 1) (WZ zk) zaL),↑0,yL,T.aY\(ih.1,hr.mono #v[0],wH,pv 1::pv 0::pv 2::pv 3::zj)))) zA<|>zU (zV yC (pv 1%zk) zD (by rfl)) (¬(4∘wo∘(["_law_one","_law_boxes_here","_law_aims","_law_counted"],yK (0::2::3::yM),zgl (K:=K) (pv 1%zk),↑0,yL,T.aY\(ih.1,hr.mono #v[0],wH,pv 1::pv 0::pv 2::pv 3::zj)))) zA<|>zU (zV yC (pv 1%zk) zD (by rfl)) (yJ rfl T.aJ ((pv 1%zk)::zj)>>=(↑5,¬(2^^^(T.aY\(ih.1,hr.mono #v[0],yc,pv 0::(pv 1%zk)::pv 2::pv 3::zj))))<|>¬(!pv 2)) zA<|>(6^^^WH)<|>zia (pv 2)>>=(↑7,(8^^^vg (K:=K) hr (pv 4&&&zk) (pv 7) (λ_ _=>rfl))<|>zU (zV yC (pv 1%zk) zD (by rfl)) (¬(8^^^vg (K:=K) hr (pv 2) (T.cE\(zir T,hr.mono #v[0],yc,pv 0::pv 7::pv 1::zj)) (λ_ _=>rfl))) zA<|>zU (zV yC (pv 1%zk) zD (by rfl)) (¬(8^^^(T.bT\(zeM T,hr.mono #v[0],yc,pv 0::pv 1::pv 2::pv 7::zj)))) zA<|>zU (PW.pt (zby (zV yC (pv 1%zk) zD (by rfl)) (Tn (Uf (wS (T.bG\(zac T,hr.mono #v[0],yc,pv 0::pv 7::(pv 1%zk)::zj))))))) (¬(8^^^(~~~(zk::zk::zj)))) zA<|>zU (PW.pt (zby (zV yC (pv 1%zk) zD (by rfl)) (Tn (wS (pv 3))))) (¬(8^^^(T.cD\(zcv T,hr.mono #v[0],yc,pv 8::(~~~((T.bS\(vH T,hr.mono #v[0],yc,pv 0::pv 7::(pv 1%zk)::zj))::zk::zj))::zj)))) zA<|>zU (PW.pt (zby (zV yC (pv 1%zk) zD (by rfl)) (Tn (Uf (wS (T.bG\(zac T,hr.mono #v[0],yc,pv 0::pv 7::(pv 1%zk)::zj))))))) (¬(8^^^vg (K:=K) hr (pv 4&&&zk) (pv 7) (λ_ _=>rfl))) zA<|>zU (zV yC (pv 1%zk) zD (by rfl)) (¬((pv 4*0)>>=(↑9,¬zU (yx (zb5 (zP xq (pv 8%zk) (vg (K:=K) hr (pv 9) (pv 7) (λ_ _=>rfl)%zk)) (zP xq (vg (K:=K) hr (pv 9) (pv 7) (λ_ _=>rfl)%zk) (pv 8%zk)))) (¬(8^^^vg (K:=K) hr (pv 9) (pv 7) (λ_ _=>rfl))) zA))) zA<|>¬za0 (K:=K) hr (pv 6) (pv 7) (pv 8) rfl)<|>¬(!pv 6))
def zgP(T:Tx K mg kA')(n:Nat):T.aY.Ok P w base (35+n) 4 (yG n):=(zeN T n).1
def VL:TwS:=(zw (zH (zx (zJ) [zi 0,qx 41]) (gN 2)) (zw (sIf (bOr (bE (eOp dGt (zi 2) (qx 20))) (bE (eOp YE (eFn wM [zi 1]) (qx 0)))) (zR (xc [])) zK) (zw (zH (eOp zB (zi 1) (zx (zJ) [zi 0,eFn wM [zi 1]])) (gN 3)) (zw (zH (xc [qE "draw",eOp zB (zi 3) (qx 0),zx (vN) [zi 0,eOp zB (zi 3) (qx 1)]]) (gN 4)) (zR (eOp zh0 (xc [zi 4,xc [qE "set",eOp zB (zi 3) (qx 0),zx (wZ) [zi 0,zi 1,eOp zB (zi 3) (qx 0)]]]) (zi 2)))))))
def VM:TwF:=zL 2 3 (VL)
def zgQ:T.cU.Ok P w base 4 2 (VM):=
 T.cU<$>(zgF,VL,(2^^^(zT<*>(pv 0::zk::zj)))<|>zU (PW.pt (zeS (yx (zeR (pv 2) zk)) (zbx (yx (xR (-pv 1) zk))))) (¬(!(~~~zj))) zA<|>(3^^^(pv 1%(zT<*>(pv 0::(-pv 1)::zj))))<|>(4^^^(~~~(zD::(pv 3%zk)::(VX<*>(pv 0::(pv 3%zk)::zj))::zj)))<|>¬(!zP (znh (K:=K)) (~~~(pv 4::(~~~(zD::(pv 3%zk)::(XV<*>(pv 0::pv 1::(pv 3%zk)::zj))::zj))::zj)) (pv 2)))
def zj1:TwS:=(zw (zH (eUn Uo (eSl zhJ (zi 0) oNo (VQ (qx 200)))) (gN 1)) (zw (zH (zx (Ww) [zi 1,qx 6]) (gN 2)) (zw (zH (eOp YE (zx (zJ) [zi 1,qx 2]) (qx 1)) (gN 3)) (zw (zH (zbJ [qE "draw",qE "set",qE "draw",qE "if",qE "times",qE "draw",qE "look",qE "gain",qE "hand",qE "set",qE "draw",qE "pass"]) (gN 4)) (zw (zH Vh (gN 5)) (zw (Zs (iL (zx (Zm) [zi 2])) (gN 6) (ZM (zi 5) (zi 6) (zx (Ye) [zx (zJ) [zi 1,qx 4],eOp wL (qx 1) (zx (zJ) [zi 1,qx 4])]))) (zw (zH (zx (VM) [zi 1,zi 2]) (gN 7)) (zw (sWh fu (bE (eOp dGt (eFn wM [zi 1]) (qx 0))) (zw (zH (eOp XH (zi 7) (xc [zx (yv 6) [zi 1,zi 2,zi 4,qx 2]])) (gN 8)) (sIf (bE (eOp dLt (zx (yI 6) [zi 8]) (qx 61))) (zH (zi 8) (gN 7)) zK))) (zw (zH (zgj "Store" (wY) [zi 2]) (gN 9)) (zw (zH (zx (xE 12) [zi 9,zi 2,zi 5,xc []]) (gN 10)) (zw (zH (zx (VF) [zi 9,zi 7,zi 10,zi 3]) (gN 11)) (zw (zH (zx (yG 6) [zi 2,zi 7,zi 5,zi 3]) (gN 12)) (zR (zf4 (zx (ZT) [zi 9,zi 2,zi 11,zi 12]) (zx (ZT) [zi 9,zi 2,zi 10,zi 5])))))))))))))))
def zj2:TwF:=zL 1 12 (zj1)
def zqi:T.eK.Ok P w base 75 1 (zj2):=
 T.eK<$>(zsA,zj1,(1^^^zjj (K:=K) rfl rfl T.eG rfl T.cz (WE (zhv (K:=K)) (pv 0) zaL (WZ zk)))<|>(2^^^(zeI<*>(pv 1::zk::zj)))<|>(3^^^YN (xR (zT<*>(pv 1::zk::zj)) zk))<|>(4^^^@YR _ _ _ _ (zD::zD::zD::zD::zD::zD::zD::zD::zD::zD::zD::zD::zj))<|>(5^^^WH)<|>(((zd3<*>(pv 2::zj))*0)>>=(↑6,¬za0 (K:=K) hr (pv 5) (pv 6) (zcu<*>((zT<*>(pv 1::zk::zj))::zP xy zk (zT<*>(pv 1::zk::zj))::zj)) rfl))<|>(7^^^(zgQ<*>(pv 1::pv 2::zj)))<|>zaJ PassesOwn.leaving (yx (zeR (-pv 1) zk)) ((8^^^zP (Vd (K:=K)) (pv 7) (~~~((T.bC\(zgN T 6,hr.mono ∅,yc,pv 1::pv 2::pv 4::zk::zj))::zj)))<|>¬zU (yx (zb5 (T.az\(UZ T 6,hr.mono ∅,yc,pv 8::zj)) zk)) (¬(7^^^pv 8)) zA)<|>(9^^^zps T.fF (zbe T) (hr.mono ∅) rfl T.gv T.aX.b .nil yc (pv 2::zj))<|>(10^^^(T.bp\(zbl T 12,hr.mono ∅,yc,pv 9::pv 2::pv 5::(~~~zj)::zj)))<|>(11^^^(zgM<*>(pv 9::pv 7::pv 10::pv 3::zj)))<|>(12^^^(T.aY\(zgP T 6,hr.mono ∅,yc,pv 2::pv 7::pv 5::pv 3::zj)))<|>¬(!zae (zad<*>(pv 9::pv 2::pv 11::pv 12::zj)) (zbz (zad<*>(pv 9::pv 2::pv 10::pv 5::zj)))))
end
section
open Mth
def Big(fu:Nat):Prop:=2^9000<=fu
def Big.le(h:Big fu):1000000<=fu:=v7 (show 1000000<=2^20 by decide) (v7 (B6 ∅ ∅) h)
local macro_rules|`(tactic|walk_at "w1")=>do
 let g(s:String):=(s.splitOn " ").toArray.mapM fun n=>`(tacticSeq|apply $(Lean.mkIdent (.mkSimple n)))
 let a<-g "yi zsg zv zp4 zo"
 let b<-g "zcW ye mJ zM znS xg ztO zge zm Zz zbP xF ya znT zrf znU zsj zsk mX ztP pk ztQ ztR zsl zsm zsp znW zsq zsr"
 `(tactic|first|with_reducible apply wm|((with_reducible apply zq); show rfl)|(with_reducible first $[| $a]*)|((with_reducible apply zO); try dsimp only[v8])|(with_reducible first $[| $b]*)|((with_reducible apply zso); show#[∅, by decide, by decide])|((with_reducible apply zsn); first | exact .inl ∅ | exact .inr ∅)|with_reducible show Exists.intro _ (And.intro rfl ?_))
local macro_rules|`(tactic|walk_at "w")=>`(tactic|repeat walk_at "w1")|`(tactic|ext)=>`(tactic|walk_at "w")|`(tactic|walk_at "wr")=>`(tactic|(show zsi rfl rfl ?_; dsimp only [List.map, HAppend.hAppend, Append.append, List.append, List.replicate]))
section
variable{S' S2:Sto}{x y:Xv}
def yS{c:Prop}[Decidable c]{A B:Prop}(h:c->A)(g:¬c->B):(decide c=hG->A)/\(decide c=mK->B):=#[λe=>h (of_decide_eq_true e),λe=>g (of_decide_eq_false e)]
def Kp(w:Nat->Prop)(S S':Sto):Prop:=S.length<=S'.length/\∀(n:Nat) c,S[n]? =eV c->¬w n->S'[n]? =eV c
def Kp.refl(w:Nat->Prop):Kp w S S:=#[v3 _,λ_ _ e _=>e]
def Kp.trans{w:Nat->Prop}(a:Kp w S S')(b:Kp w S' S2):Kp w S S2:=#[v7 a.1 b.1,λn c e z=>b.2 n c (a.2 n c e z) z]
def Kp.mono{w w':Nat->Prop}(a:Kp w S S')(h:∀n,w n->w' n):Kp w' S S':=#[a.1,λn c e z=>a.2 n c e λq=>z (h n q)]
def Kp.pre{w:Nat->Prop}(p:S<+:S'):Kp w S S':=#[p.length_le,λn c e _=>by
 have#[T,rfl]:=p;rw[v5 (uT.1 e).1]
 show e]
def Kp.app{w:Nat->Prop}(a:Kp w S S'):Kp w S (S'++T):=a.trans (Kp.pre (uW _ _))
def Kp.set{w:Nat->Prop}(a:Kp w S S')(h:w n\/S.length<=n):Kp w S (S'.set n c):=#[by simpa using a.1,λm d e z=>by
 rw[Ai];have hm:=(uT.1 e).1
 rw[GP λq=>by
  subst q;rcases h with h|h;show z h
  omega]
 show a.2 m d e z]
def yz:(S++[c])[S.length]? =eV c:=by simp
def wq(h:S[n]? =eV c):(S.set n c')[n]? =eV c':=by rw[Ai,GO rfl,GO (uT.1 h).1]
def xN(h:S[m]? =eV c)(q:n≠m):(S.set n c')[m]? =eV c:=by rw[Ai,GP q];show h
def Yg(h:n<=100):n<FU:=y0 h ∅
def yb(mx ln:Nat)(S:Sto):Prop:=∃ns:kx Int,S[ln]? =eV (.lst (ns.map Xv.int))/\ns.length<=mx
def yb.keep{w:Nat->Prop}(h:yb mx ln S)(k:Kp w S S')(z:¬w ln):yb mx ln S':=by
 have#[ns,e,l]:=h;show#[ns,k.2 _ _ e z,l]
def yb.more(h:yb mx ln S)(k:mx<=my):yb my ln S:=by
 have#[ns,e,l]:=h;show#[ns,e,v7 l k]
def zk5(hl:yb mx ln S)(hm:0<many):W (zJ [.ref ln,.int many] S) λv S'=>∃c,v= .int c/\0<=c/\c<many/\yb (mx-1) ln S'/\Kp (· =ln) S S':=by
 have#[ns,e,l]:=id hl;delta VG;calc zG ?_;calc zdz (zC e) ?_;ext;rw[uZ];show yS (λh=> ?_) (λh=> ?_);ext;show#[⋯,hm,#[ns,e,⋯],Kp.refl _]
 calc zcg ?_;calc#[#[_,zC e],?_];ext;have hn:ns.length-1<ns.length:=by omega
 show WO.of (show zns (.ref ln) [] S = eV (.int ns[ns.length - 1], S.set ln (.lst (ns.dropLast.map Xv.int))) by
  unfold zns;rw[ZL e];dsimp only;rw[uZ,uY,uV hn,<-List.map_dropLast]
  rfl) ?_
 calc vQ hm ?_;show#[_,rfl,Ap _ ⋯,Av _ hm,#[_,wq e,by rw[Eo];omega],(Kp.refl _).set (.inl rfl)]
def xO(hl:yb mx ln S)(hm:0<many):W (zJ [.ref ln,.int many] S) λv S'=>∃c,v= .int c/\0<=c/\c<many/\yb mx ln S'/\Kp (· =ln) S S':=by
 let#[_,S1,#[c,rfl,h0,h1,l,k]]:=zk5 hl hm;show#[c,rfl,h0,h1,l.more ⋯,k]
noncomputable def plX:Nat->Xv->Bool
 |_,.int _=>hG
 |_,.str _=>hG
 |n+1,.tup l=>decide (l.length<=100)&&l.all (plX n)
 |_,_=>mK
def zsB(h:atI l i=eV z):zhI (.tup l) (.int i) S=eV (z,S):=by
 change(atI l i).map (λz=>(z,S))=_;rw[h];rfl
theorem zd4:∀n:Nat,Zu (z4 n (Xv.bl hG))=eV (z4 n hG)
 |0=>rfl
 |n+1=>by rw[AG,AG];simp[Zu,zd4 n]
def zj3{bs:kx Bool}(h:yn S x=eV l)(h2:Zu l=eV bs)(k:P (.bl (bs.all id)) S):WO (zhO [x] S) P:= .of (by unfold zhO;dsimp only;rw[h,z0,h2];rfl) k
def zF(k:P (.bl (decide (a=b))) S):WO (yD mK (.str a) (.str b) S) P:= .of (by change eV (Xv.bl (mK !=decide (a=b)),S)=_;rw[Ei]) k
def zqj(k:P (.bl (decide (a=b))) S):WO (yD mK (.int a) (.int b) S) P:= .of (by change eV (Xv.bl (mK !=decide (a=b)),S)=_;rw[Ei]) k
def zov:∀(n:Nat) {S:Sto} {x:Xv},plX n x=hG->W (xk (n+1) [x,x] S) λv S'=>v= .bl hG/\S<+:S':=by
 have flat:∀(n:Nat) {S:Sto} {x:Xv},((∃i,x= .int i)\/∃s,x= .str s)->W (xk (n+1) [x,x] S) λv S'=>v= .bl hG/\S<+:S':=by
  intro n S x hx;rw[vc];delta vz;show zo (zG ?_);calc vR (v:=mK) (by rcases hx with⟨i,rfl⟩|⟨s,rfl⟩<;>rfl) ?_;show#[_,rfl,λz=>(by cases z),λ_=>zv ?_];show zo (zG ?_);calc vR (v:=mK) (by rcases hx with⟨i,rfl⟩|⟨s,rfl⟩<;>rfl) ?_;show#[_,rfl,λz=>(by cases z),λ_=>zv ?_];show zo (zG ?_);calc WO.of (show zjr x S=eV (.bl mK,S) by rcases hx with⟨i,rfl⟩|⟨s,rfl⟩<;>rfl) ?_;show#[_,rfl,λz=>(by cases z),λ_=>zv ?_];show zo (zG ?_);ext;rcases hx with⟨i,rfl⟩|⟨s,rfl⟩
  .show vR (v:=mK) rfl ?_;show#[_,rfl,λz=>(by cases z),λ_=>zv ?_];show ye (Vi ?_);calc vR (v:=hG) rfl ?_;show#[_,rfl,λ_=> ?_,λz=>(by cases z)];show Vi ?_;calc vR (v:=mK) rfl ?_;show#[_,rfl,_,rfl,λ_=> ?_,λz=>(by cases z)];calc zqj ?_;show#[by rw[decide_eq_true rfl],Ae _]
  show vR (v:=hG) rfl ?_;show#[_,rfl,λ_=> ?_,λz=>(by cases z)];show ye (Vi ?_);calc vR (v:=hG) rfl ?_;show#[_,rfl,λ_=> ?_,λz=>(by cases z)];calc zF ?_;show#[by rw[decide_eq_true rfl],Ae _]
 intro n
 induction n with
 |zero=>
  intro S x h;show flat 0 ?_;cases x<;>first|exact .inl #[_,rfl]|exact .inr #[_,rfl]|(simp[plX] at h)
 |succ n ih=>
  intro S x h;cases x with
  |int i=>show flat _ (.inl #[_,rfl])
  |str i=>show flat _ (.inr #[_,rfl])
  |tup l=>
   unfold plX at h;rw[Aj,AB] at h;have#[hl,f7]:=h;have hl:=of_decide_eq_true hl;rw[vc];delta vz;show zo (zG ?_);calc vR (v:=hG) rfl ?_;show#[_,rfl,λ_=> ?_,λz=>(by cases z)];show zo (zG (zcf ?_));calc vR (v:=hG) rfl ?_;show#[_,rfl,λz=>(by cases z),λ_=> ?_];calc WO.of (show wM [Xv.tup l] S=eV (.int l.length,S) from rfl) ?_;calc WO.of (show wM [Xv.tup l] S=eV (.int l.length,S) from rfl) ?_;calc#[λz=> ?_,λ_=>zv ?_];simp at z;show ye (xF (zm ?_));show xi (wT ?_);calc WO.of (show wM [Xv.tup l] S=eV (.int l.length,S) from rfl) ?_;show#[_,rfl,#[⋯,⋯],_,rfl,?_];show yR (by rw[yg];show A3 (Yg ⋯)) (λi es S2=>S<+:S2/\es=z4 i (.bl hG)) (λ_ _ _ _ _=>rfl) ?_ #[Ae _,rfl] ?_
   .intro i w es S2 hw fq #[p2,rfl];have#[hi,rfl]:=xu hw;have gW:i<l.length:=by omega
    have lj:atI l ((0:Int)+(i:Int))=eV l[i]:=by rw[Bg];show zbQ ⋯ (by rw[z7];show uV gW)
    show .of rfl ?_;dsimp only[vw,Ak,v8];calc#[rfl,?_];calc WO.of (zsB lj) ?_;calc WO.of (zsB lj) ?_;let#[_,S3,#[rfl,p3]]:=ih (f7 _ (A9 gW));show#[p2.trans p3,by rw[Et]]
   intro es S2 _ #[p2,rfl];calc zj3 xW (zd4 _) ?_;show#[by simp,p2.trans (uW _ _)]
  |_=>simp[plX] at h
abbrev Q2:=Int×Int
noncomputable def qv(q:Q2):Xv:= .tup [.int q.1,.int q.2]
noncomputable def ksX(ks:kx Nat):kx Xv:=ks.map λ(k:Nat)=> .int (k:Int)
inductive zN where
 |leaf (q:Q2)
 |fork (lv:Nat) (ks:List Nat)
noncomputable def Yh:zN->NK
 | .leaf q=> .tup [.str "leaf",.tup [.int q.1,.int q.2]]
 | .fork lv ks=> .tup [.str "fork",.int (lv:Int),.tup (ks.map λ(k:Nat)=> .int (k:Int))]
def QX(x:Xv)(q:Q2):Prop:=x.tupOf=eV [.int q.1,.int q.2]
def zow(q:Q2):QX (qv q) q:=rfl
def FX(x:Xv):zN->Prop
 | .leaf q=>∃y,x= .tup [.str "leaf",y]/\QX y q
 | .fork lv ks=>x= .tup [.str "fork",.int (lv:Int),.tup (ksX ks)]
inductive F2:List Xv->List zN->Prop
 |nil:F2 [] []
 |cons {x:Xv} {f:zN} {xs:List Xv} {fs:List zN}:FX x f->F2 xs fs->F2 (x::xs) (f::fs)
def F2.len:∀{xs:kx Xv} {fs:kx zN},F2 xs fs->xs.length=fs.length:=λ{xs fs} h=>by
 induction h with
 |nil=>rfl
 |cons _ _ ih=>rw[y4,y4,ih]
def F2.get:∀{xs:kx Xv} {fs:kx zN} {i:Nat} {f:zN},F2 xs fs->fs[i]? =eV f->∃x,xs[i]? =eV x/\FX x f:=λ{xs fs i f} h=>by
 induction h generalizing i with
 |nil=>intro e;simp at e
 |cons h _ ih=>
  intro e;cases i with
  |zero=>simp at e;subst e;show#[_,rfl,h]
  |succ i=>have#[x,q]:=ih (i:=i) e;show#[x,q]
def F2.snoc:∀{xs:kx Xv} {fs:kx zN} {x:Xv} {f:zN},F2 xs fs->FX x f->F2 (xs++[x]) (fs++[f]):=λ{xs fs x f} h k=>by
 induction h with
 |nil=>show .cons k .nil
 |cons h _ ih=>show .cons h ih
theorem zgR:∀ks:kx Nat,WJ (ksX ks)=eV (ks.map λ(k:Nat)=> .int (k:Int))
 |[]=>rfl
 |k::r=>by
  change WJ (Xv.int (k:Int)::ksX r)=_;simp[WJ,YT,zgR r]
theorem zj4:∀ks:kx Nat,VP (ks.map λ(k:Nat)=>NK.int (k:Int))<=1
 |[]=>by simp[VP]
 |k::r=>by
  have:=zj4 r;simp[VP,Zx];omega
def zbn(h:FX x f):Up x=eV (Yh f):=by
 cases f with
 |leaf q=>
  have#[y,rfl,hy]:=h;have:YT y=eV (.tup [.int q.1,.int q.2]):=by
   unfold QX at hy;cases y with
   |tup l=>simp only[Xv.tupOf,Ar] at hy;subst hy;simp[YT,WJ]
   |ct l=>simp only[Xv.tupOf,Ar] at hy;subst hy;simp[YT,WJ]
   |_=>simp[Xv.tupOf] at hy
  simp[Up,Yh,YT,WJ,this,Zx,VP]
 |fork lv ks=>
  have hx:x= .tup [.str "fork",.int (lv:Int),.tup (ksX ks)]:=h;subst hx;have:=zj4 ks;simp[Up,Yh,YT,WJ,zgR,Zx,VP];omega
def zfx(h:FX x f):zai x=gi:=by
 cases f with
 |leaf q=>have#[y,rfl,_]:=h;rfl
 |fork lv ks=>have hx:x= .tup [.str "fork",.int (lv:Int),.tup (ksX ks)]:=h;subst hx;rfl
theorem zaE:∀{a b:kx Nat},(a.map λ(k:Nat)=>NK.int (k:Int))=(b.map λ(k:Nat)=>NK.int (k:Int))->a=b
 |[],[],_=>rfl
 |[],_::_,h=>by cases h
 |_::_,[],h=>by cases h
 |x::r,y::t,h=>by
  rw[y8,y8] at h;injection h with h1 h2;injection h1 with h1;rw[zaE h2,Dr.1 h1]
def zfy(h:Yh f=Yh g):f=g:=by
 cases f with
 |leaf q=>
  cases g with
  |leaf p=>
   have#[a,b]:=q;have#[c,d]:=p;simp[Yh] at h;rw[h.1,h.2]
  |fork lv ks=>simp[Yh] at h
 |fork lv ks=>
  cases g with
  |leaf p=>simp[Yh] at h
  |fork lw js=>
   simp only[Yh,NK.tup.injEq,List.cons.injEq,NK.int.injEq,and_true,true_and] at h;rw[zaE h.2,Dr.1 h.1]
noncomputable def XZ(i:Nat):kx Xv->kx zN->kx (NK×Xv×Xv)
 |x::xs,f::r=>(Yh f,x,.int (i:Int))::XZ (i+1) xs r
 |_,_=>[]
noncomputable def YA(xs:kx Xv):kx zN->Ce
 |[]=> .dk []
 |f::r=> .dn (XZ 0 xs (f::r))
def zox:∀(i:Nat) {xs:kx Xv} {fs:kx zN},F2 xs fs->(XZ i xs fs).length=fs.length:=λi {xs fs} h=>by
 induction h generalizing i with
 |nil=>rfl
 |cons _ _ ih=>simp[XZ,ih (i+1)]
def zoy:∀(i:Nat) {xs:kx Xv} {fs:kx zN},F2 xs fs->XZ i (xs++[y]) (fs++[g])=XZ i xs fs++[(Yh g,y,.int ((i+fs.length:Nat):Int))]:=λi {xs fs} h=>by
 induction h generalizing i with
 |nil=>simp[XZ]
 | @cons x f xs fs _ l ih=>
  simp only[B5,XZ,ih (i+1),y4];rw[show i+1+fs.length=i+(fs.length+1) by omega]
def zfz:∀(i:Nat) {xs:kx Xv} {fs:kx zN},F2 xs fs->g∉fs->yN (XZ i xs fs) (Yh g)=gi:=λi {xs fs} h=>by
 induction h generalizing i with
 |nil=>intro _;simp[XZ,yN]
 | @cons x f xs fs _ l ih=>
  intro h;have ih:=ih (i+1) λz=>h (w6 _ z);have dD:¬Yh f=Yh g:=λe=>h (by rw[zfy e];show y6);unfold yN at ih ⊢;rw[XZ,A5,decide_eq_false dD];show ih
def zl8:∀(i:Nat) {xs:kx Xv} {fs:kx zN} (j:Nat),F2 xs fs->fs.Nodup->fs[j]? =eV g->yN (XZ i xs fs) (Yh g)=eV (.int ((i+j:Nat):Int)):=λi {xs fs} j h=>by
 induction h generalizing i j with
 |nil=>intro _ e;simp at e
 | @cons x f xs fs _ l ih=>
  intro nd e;cases j with
  |zero=>
   simp at e;subst e;unfold yN;rw[XZ,A5,decide_eq_true rfl];rfl
  |succ j=>
   have ih:=ih (i+1) j (Bc.1 nd).2 (by simpa using e);have dD:¬Yh f=Yh g:=λq=>(Bc.1 nd).1 (by rw[zfy q];show uX (by simpa using e));unfold yN at ih ⊢;rw[XZ,A5,decide_eq_false dD,show i+(j+1)=i+1+j by omega];show ih
structure yU(sn fn dn:Nat)(bx:Xv)(fs:kx zN)(S:Sto):Prop where
 o:S[sn]? =eV (.ins "Store" [("boxes",bx),("facts",.ref fn),("numbers",.ref dn)])
 fd':∃xs,F2 xs fs/\S[fn]? =eV (.lst xs)/\S[dn]? =eV (YA xs fs)
 nd:fs.Nodup
section
def zis:YA xs fs≠ .lst l:=by cases fs<;>simp[YA]
def zoz:YA xs fs≠ .ins c l:=by cases fs<;>simp[YA]
def zoA:YA xs fs≠ .tab t:=by cases fs<;>simp[YA]
def yU.fd(h:yU sn fn dn bx fs S):fn≠dn:=λe=>by
 have#[xs,_,h1,h2]:=h.fd';rw[e,h2] at h1;show zis (A0 h1)
def yU.sf(h:yU sn fn dn bx fs S):sn≠fn:=λe=>by
 have#[xs,_,h1,h2]:=h.fd';have h3:=h.o;rw[e,h1] at h3;cases h3
def yU.sd(h:yU sn fn dn bx fs S):sn≠dn:=λe=>by
 have#[xs,_,h1,h2]:=h.fd';have h3:=h.o;rw[e,h2] at h3;show zoz (A0 h3)
def yU.flt(h:yU sn fn dn bx fs S):fn<S.length/\dn<S.length:=by
 have#[xs,_,h1,h2]:=h.fd';show#[(uT.1 h1).1,(uT.1 h2).1]
def yU.nd'(h:yU sn fn dn bx fs S)(e:S[n]? =eV (.lst l)):n≠dn:=λz=>by
 have#[xs,_,h1,h2]:=h.fd';rw[z,h2] at e;show zis (A0 e)
def yU.keep{w:Nat->Prop}(h:yU sn fn dn bx fs S)(k:Kp w S S')(h1:¬w sn)(h2:¬w fn)(h3:¬w dn):yU sn fn dn bx fs S':=#[k.2 _ _ h.o h1,(let ⟨xs,a,b,c⟩:=h.fd';#[xs,a,k.2 _ _ b h2,k.2 _ _ c h3]),h.nd]
def yU.pre(h:yU sn fn dn bx fs S)(p:S<+:S'):yU sn fn dn bx fs S':=h.keep (Kp.pre (w:=λ_=>False) p) id id id
def zk6(l:F2 xs fs)(nd:fs.Nodup)(hd:S[dn]? =eV (YA xs fs))(hx:FX x f):∃o,YY S (.ref dn) x=eV o/\(∀j:Nat,fs[j]? =eV f->o=eV (.int (j:Int)))/\(f∉fs->o=gi):=by
 unfold YY;dsimp only;rw[hd];cases l with
 |nil=>
  unfold YA;dsimp only;rw[zfx hx,zbn hx];show#[gi,rfl,(λj e=>by simp at e),λ_=>rfl]
 | @cons y g ys r h1 h2=>
  unfold YA;dsimp only;rw[zbn hx];show#[_,rfl,λj e=> ?_,λe=>zfz 0 (.cons h1 h2) e];rw[zl8 0 j (.cons h1 h2) nd e,DM]
def zqk(l:F2 xs fs)(hd:S[dn]? =eV (YA xs fs))(hl:fs.length<FU)(hf:f∉fs)(hx:FX x f):TZ S (.ref dn) x (.int (fs.length:Int))=eV (S.set dn (YA (xs++[x]) (fs++[f]))):=by
 unfold TZ;dsimp only;rw[hd];cases l with
 |nil=>
  unfold YA;dsimp only;rw[zfx hx,zbn hx];rfl
 | @cons y g ys r h1 h2=>
  unfold YA;dsimp only[B5];have l2:F2 (y::ys) (g::r):= .cons h1 h2;rw[GO (by rw[zox 0 l2];show hl),zbn hx];dsimp only[Bd];unfold XI;rw[zfz 0 l2 hf];have:=zoy (g:=f) (y:=x) 0 l2;rw[DM] at this;rw[B5,B5] at this;rw[this];rfl
structure yQ(sn fn dn:Nat)(bx:Xv)(fs:kx zN)(m:Nat)(S:Sto)(fs':kx zN)(S':Sto):Prop where
 st:yU sn fn dn bx fs' S'
 pre:fs<+:fs'
 len:fs'.length<=fs.length+m
 kp:Kp (λn=>n=fn\/n=dn) S S'
def yU.grown(h:yU sn fn dn bx fs S):yQ sn fn dn bx fs 0 S fs S:=#[h,Ae _,⋯,Kp.refl _]
def yQ.trans(a:yQ sn fn dn bx fs m S de S')(b:yQ sn fn dn bx de m' S' aM S2):yQ sn fn dn bx fs (m+m') S aM S2:=#[b.st,a.pre.trans b.pre,by have:=a.len;have:=b.len;omega,a.kp.trans b.kp]
def yQ.more(a:yQ sn fn dn bx fs m S de S')(h:m<=m'):yQ sn fn dn bx fs m' S de S':=#[a.st,a.pre,by have:=a.len;omega,a.kp]
def yQ.app{de:kx zN}{m:Nat}(a:yQ sn fn dn bx fs m S de S')(p:S'<+:S2):yQ sn fn dn bx fs m S de S2:=#[a.st.pre p,a.pre,a.len,a.kp.trans (Kp.pre p)]
def yQ.of_pre(h:yU sn fn dn bx fs S)(p:S<+:S'):yQ sn fn dn bx fs 0 S fs S':=h.grown.app p
def xB{α:Type}{l l':kx α}{i:Nat}{a:α}(p:l<+:l')(h:l[i]? =eV a):l'[i]? =eV a:=by
 have#[t,rfl]:=p;rw[v5 (uT.1 h).1];show h
def zoB{fs:kx zN}(h:fs.Nodup){i j:Nat}{f:zN}(h1:fs[i]? =eV f)(h2:fs[j]? =eV f):i=j:=by
 have#[a,e1]:=uT.1 h1;have#[b,e2]:=uT.1 h2;show(CT h).1 (e1.trans e2.symm)
def Add(fs:kx zN)(f:zN)(fs':kx zN):Prop:=fs'=fs\/fs'=fs++[f]
def zit(h:yU sn fn dn bx fs S)(hl:fs.length<=1000000)(hx:FX x f):W (wF [.ref sn,x] S) λv S'=>∃(i:Nat) (fs':kx zN),v= .int (i:Int)/\fs'[i]? =eV f/\Add fs f fs'/\yQ sn fn dn bx fs 1 S fs' S':=by
 delta vS;have hz:fs.length<FU:=y0 hl ∅;have#[xs,l,mz,oz]:=h.fd';have#[o,eo,os,on]:=zk6 l h.nd oz hx;show zo (zaj (λρ S2=>ρ=[eV (.ref sn),eV x]/\∃(i:Nat) (fs':kx zN),fs'[i]? =eV f/\Add fs f fs'/\yQ sn fn dn bx fs 1 S fs' S2) (zG ?_) ?_)
 .show xg (zkX ?_);calc xm ?_;ext;show#[_,_,_,rfl,h.o,rfl,o,eo,_,rfl,λz=> ?_,λz=>zv #[rfl,?_]]
  .have hf:f∉fs:=λhm=>by
    have#[j,hj]:=Ab hm;rw[os j hj] at z;cases z
   show zo (Uq ?_);calc xm ?_;calc#[_,_,_,rfl,h.o,rfl,?_];calc zdz (zC mz) ?_;rw[l.len];show xm ?_;calc#[_,_,_,rfl,h.o,rfl,?_];calc#[_,zqk l oz hz hf hx,?_];show zcW (zcg (xm ?_));ext;have ho:=xN (c':=YA (xs++[x]) (fs++[f])) h.o h.sd.symm;have f6:=xN (c':=YA (xs++[x]) (fs++[f])) mz h.fd.symm;show#[_,_,_,rfl,ho,rfl,#[_,zC f6],?_];calc Tu (ZL f6) (by rw[l.len];show hz) ?_;show#[rfl,fs.length,fs++[f],by simp,.inr rfl,#[#[xN ho h.sf.symm,#[_,l.snoc hx,?_,xN (wq oz) h.fd],?_],uW _ _,by simp,((Kp.refl _).set (.inl (.inr rfl))).set (.inl (.inl rfl))]];rw[wq f6];rw[List.nodup_append];show#[h.nd,by simp,?_];intro a ha b hb e;rw[A7] at hb;subst hb e;show hf ha
  have hm:f∈fs:=Cj λhm=>by
   rw[on hm] at z;cases z
  have#[j,hj]:=Ab hm;show#[j,fs,hj,.inl rfl,h.grown.more ⋯]
 intro _ S2 #[rfl,i,fs',hi,ad,g];show ye (vh ?_);show xm ?_;calc#[_,_,_,rfl,g.st.o,rfl,?_];ext;have#[ys,l2,uJ,sU]:=g.st.fd';have#[o2,tU,os2,_]:=zk6 l2 g.st.nd sU hx;show#[_,by rw[tU,os2 i hi],i,fs',rfl,hi,ad,g]
def zgS(h:yU sn fn dn bx fs S)(hl:fs.length<=1000000)(hy:QX y q):W (wP [.ref sn,y] S) λv S'=>∃(i:Nat) (fs':kx zN),v= .int (i:Int)/\fs'[i]? =eV (.leaf q)/\Add fs (.leaf q) fs'/\yQ sn fn dn bx fs 1 S fs' S':=by
 delta Wn;show ye (yo ?_);calc#[_,_,rfl,h.o,rfl,?_];ext;show zit h hl (f:= .leaf q) #[_,rfl,hy]
def yd{l:kx Xv}{i:Nat}{z:Xv}(h:l[i]? =eV z):atI l (i:Int)=eV z:=zbQ ⋯ (by rw[z7];show h)
def zaF{ks:kx Nat}{i k:Nat}(h:ks[i]? =eV k):(ksX ks)[i]? =eV (.int (k:Int)):=by unfold ksX;rw[uY,h];rfl
def yU.fact(h:yU sn fn dn bx fs S){i:Nat}{f:zN}(hi:fs[i]? =eV f):∃x l,FX x f/\yn S (.ref fn)=eV l/\atI l (i:Int)=eV x:=by
 have#[xs,l,mz,_]:=h.fd';have#[x,e,hx]:=l.get hi;show#[x,xs,hx,zC mz,yd e]
def zgT(h:yU sn fn dn bx fs S){i lv:Nat}{ks:kx Nat}(hi:fs[i]? =eV (.fork lv ks)):W (yE [.ref sn,.int (i:Int)] S) λv S'=>v= .int (lv:Int)/\S'=S:=by
 delta wW;calc xm ?_;calc#[_,_,_,rfl,h.o,rfl,?_];ext;have#[fx,fl,fm,fN,f6]:=h.fact hi;change fx=_ at fm;subst fm;show wD fN f6 ?_;calc Wh ?_;calc zF #[_,rfl,λ_=> ?_,λz=> ?_];ext;show#[rfl,rfl];show absurd z ∅
def xa(k:P (.int l.length) S):WO (wM [.tup l] S) P:= .of rfl k
def zoC(h:yU sn fn dn (.tup bl) fs S){i:Nat}{q:Q2}(hi:fs[i]? =eV (.leaf q)):W (yE [.ref sn,.int (i:Int)] S) λv S'=>v= .int (bl.length:Int)/\S'=S:=by
 delta wW;calc xm ?_;calc#[_,_,_,rfl,h.o,rfl,?_];ext;have#[fx,fl,fm,fN,f6]:=h.fact hi;have#[fy,rfl,oo]:=fm;show wD fN f6 ?_;calc Wh ?_;calc zF #[_,rfl,λz=>absurd z ∅,λ_=> ?_];calc xm ?_;calc#[_,_,_,rfl,h.o,rfl,?_];ext;show xa #[rfl,rfl]
def zj5(h:yU sn fn dn bx fs S){i lv:Nat}{ks:kx Nat}(hi:fs[i]? =eV (.fork lv ks)):W (xJ [.ref sn,.int (i:Int)] S) λv S'=>v= .tup (ksX ks)/\S'=S:=by
 delta ZH;calc xm ?_;calc#[_,_,_,rfl,h.o,rfl,?_];ext;have#[fx,fl,fm,fN,f6]:=h.fact hi;change fx=_ at fm;subst fm;show wD fN f6 ?_;calc Wh ?_;calc zF #[_,rfl,λ_=> ?_,λz=> ?_];ext;show zE rfl (show atI [Xv.str "fork",.int (lv:Int),.tup (ksX ks)] 2=eV (.tup (ksX ks)) from rfl) #[rfl,rfl];show absurd z ∅
inductive VA(fs:List zN)(st:List Nat)(q:Q2):Nat->Nat->Prop
 |leaf {h n:Nat}:fs[n]? =eV (.leaf q)->VA fs st q h n
 |fork {h n lv j k:Nat} {ks:List Nat}:fs[n]? =eV (.fork lv ks)->st[lv]? =eV j->ks[j]? =eV k->VA fs st q h k->VA fs st q (h+1) n
def VA.mono(p:fs<+:fs')(v:VA fs st q h n):VA fs' st q h n:=by
 induction v with
 |leaf e=>show .leaf (xB p e)
 |fork e e1 e2 _ ih=>show .fork (xB p e) e1 e2 ih
def VA.more(v:VA fs st q h n)(hh:h<=h'):VA fs st q h' n:=by
 induction v generalizing h' with
 |leaf e=>show .leaf e
 | @fork h1 n1 lv j k ks e e1 e2 _ ih=>
  obtain⟨m,rfl⟩:∃m,h'=m+1:=#[h'-1,⋯];show .fork e e1 e2 (ih ⋯)
def zj6(st:kx Nat)(q:Q2)(H:yU sn fn dn bx fs S):∀(h n m:Nat),VA fs st q h n->h<m->WS (zbL (bE (eOp (yD mK) (eOp zB (eOp YD (wA "Store" "facts" (zi 0)) (zi 1)) (qx 0)) (qE "fork"))) (zH (eOp zB (yy "Store" "kids_of" (xJ) (zi 0) [zi 1]) (eOp zB (zi 2) (yy "Store" "level_of" (yE) (zi 0) [zi 1]))) (gN 1)) m [eV (.ref sn),eV (.int (n:Int)),eV (.tup (ksX st))] S) (λρ S'=>∃n':Nat,ρ=[eV (.ref sn),eV (.int (n':Int)),eV (.tup (ksX st))]/\S'=S/\fs[n']? =eV (.leaf q)) (λ_ _=>False):=by
 intro h n m v
 induction v generalizing m with
 | @leaf h n e=>
  intro hm;obtain⟨m,rfl⟩:∃k,m=k+1:=#[m-1,⋯];show Tt ?_;calc xm ?_;calc#[_,_,_,rfl,H.o,rfl,?_];ext;have#[fx,fl,fm,fN,f6]:=H.fact e;have#[fy,rfl,oo]:=fm;show wD fN f6 ?_;calc zF #[_,rfl,λz=> ?_,λ_=>#[_,rfl,rfl,e]];show absurd z ∅
 | @fork h n lv j k ks e e1 e2 _ ih=>
  intro hm;obtain⟨m,rfl⟩:∃k,m=k+1:=#[m-1,⋯];show Tt ?_;calc xm ?_;calc#[_,_,_,rfl,H.o,rfl,?_];ext;have#[fx,fl,fm,fN,f6]:=H.fact e;change fx=_ at fm;subst fm;show wD fN f6 ?_;calc zF #[_,rfl,λ_=> ?_,λz=>absurd z ∅];calc yo ?_;calc#[_,_,rfl,H.o,rfl,?_];let#[_,S2,#[rfl,rfl]]:=zj5 H e;calc yo ?_;calc#[_,_,rfl,H.o,rfl,?_];let#[_,S2,#[rfl,rfl]]:=zgT H e;calc zE rfl (yd (zaF e1)) ?_;show zE rfl (yd (zaF e2)) ?_;show ih _ ⋯
def zql(H:yU sn fn dn bx fs S)(v:VA fs st q h n)(hf:h<fu):W (Zi [.ref sn,.int (n:Int),.tup (ksX st)] S) λv S'=>QX v q/\S'=S:=by
 delta Zh;rcases zj6 st q H h n fu v hf with⟨ρ,S2,e0,n',rfl,rfl,e⟩|⟨_,_,_,z⟩
 rotate_left
 .show z.elim
 show zo (zkT (.nx e0 ?_));calc xm ?_;calc#[_,_,_,rfl,H.o,rfl,?_];ext;have#[fx,fl,fm,fN,f6]:=H.fact e;have#[fy,rfl,oo]:=fm;show wD fN f6 ?_;ext;show#[oo,rfl]
def zqm:W (WA [.int i] S) λv S'=>v= .bl hG/\S'=S:=by
 delta Wz;show ye (Vi ?_);calc vR (v:=hG) rfl ?_;show#[_,rfl,λ_=> ?_,λz=>(by cases z)];calc vR (v:=mK) rfl ?_;show#[_,rfl,rfl,rfl]
end
end
section
theorem ziu:∀bs:kx Bool,Zu (bs.map Xv.bl)=eV bs
 |[]=>rfl
 |b::r=>by rw[y8];simp[Zu,ziu r]
def Xu(h:S[n]? =eV (.lst l))(k:P (.tup l) S):WO (YW [.ref n] S) P:= .of (by unfold YW;dsimp only;rw[zC h];rfl) k
def yA(ks:kx Nat):(ksX ks).length=ks.length:=by simp[ksX]
def Zp(ks:kx Nat)(k:Nat):ksX (ks++[k])=ksX ks++[.int (k:Int)]:=by simp[ksX]
def YK{ks:kx Nat}{i:Nat}{w:Xv}(h:(ksX ks)[i]? =eV w):∃k,ks[i]? =eV k/\w= .int (k:Int):=by
 unfold ksX at h;rw[uY] at h;cases e:ks[i]? with
 |none=>rw[e] at h;cases h
 |some k=>rw[e] at h;cases h;show#[k,rfl,rfl]
def zqn{kn k0:Nat}{ks:kx Nat}{cap:kx (pf Nat)}{m n:TwE}(hk:S[kn]? =eV (.lst (ksX ks)))(hl:ks.length<=100)(hn:W (n ρ S) λv S'=>v= .ref kn/\S'=S)
  (hm:∀k:Nat,W (m ((vw cap ρ).set 0 (eV (.int (k:Int)))) S) λv S'=>v= .bl (decide ((k:Int)=(k0:Int)))/\S'=S)
  (k:P (.bl (decide (∀k∈ks,k=k0))) (S++[.lst ((ks.map λ(k:Nat)=>decide ((k:Int)=(k0:Int))).map Xv.bl)])):W (eFn zhO [xt cap (iL n) (gN 0) xl m] ρ S) P:=by
 show xF (zm (xi (TX (hn.imp ?_))));intro _ S1 #[rfl,rfl];show#[_,zC hk,_,zC hk,?_];show yR (by rw[yA];show A3 (Yg hl)) (λi es S2=>S2=S1/\es=((ks.take i).map λ(k:Nat)=>decide ((k:Int)=(k0:Int))).map Xv.bl) ?_ ?_ #[rfl,by simp] ?_;intro i es _ _ #[rfl,_];show zC hk;intro i w es _ hw fq #[rfl,rfl];have#[kk,e1,rfl]:=YK hw;show .of rfl ?_;calc#[rfl,?_];let#[_,_,#[rfl,rfl]]:=hm kk;show#[rfl,?_];have#[hi,e1]:=uT.1 e1;rw[Aa hi,A1,A1,e1];rfl;intro es _ _ #[rfl,rfl];rw[yA,A4];ext;show zj3 xW (ziu _) ?_
 rw[show(ks.map λ(k:Nat)=>decide ((k:Int)=(k0:Int))).all id=decide (∀k∈ks,k=k0) by
  rw[AV,decide_eq_true_iff,AB];constructor;intro h k hk;have:=h _ (Ad.2 #[k,hk,rfl]);show Dr.1 (of_decide_eq_true this);intro h b hb;have#[k,hk,rfl]:=Ad.1 hb
  show decide_eq_true (by rw[h k hk])]
 show k
def zgU(fs:kx zN)(lv:Nat)(ks:kx Nat)(i:Nat):Prop:=∃k0,ks[0]? =eV k0/\((∀k∈ks,k=k0)/\i=k0\/(¬∀k∈ks,k=k0)/\fs[i]? =eV (.fork lv ks))
def zgV{lv kn k0:Nat}{ks:kx Nat}(h:yU sn fn dn bx fs S)(hl:fs.length<=1000000)(hk:S[kn]? =eV (.lst (ksX ks)))(h0:ks[0]? =eV k0)(eS:ks.length<=100):W (wQ [.ref sn,.int (lv:Int),.ref kn] S) λv S'=>∃(i:Nat) (fs':kx zN),v= .int (i:Int)/\zgU fs' lv ks i/\(fs'=fs\/(¬∀k∈ks,k=k0)/\fs'=fs++[.fork lv ks])/\yQ sn fn dn bx fs 1 S fs' S':=by
 delta Wo;calc wD (zC hk) (yd (i:=0) (zaF h0)) ?_;calc zG (xg ?_);show zqn (kn:=kn) (k0:=k0) hk eS (zq rfl #[rfl,rfl]) ?_ ?_;intro k;dsimp only[vw,Ak,v8];ext;show#[rfl,rfl];show#[_,rfl,yS (λhc=> ?_) (λhc=> ?_)];ext;show#[k0,fs,rfl,#[k0,h0,.inl #[hc,rfl]],.inl rfl,(yQ.of_pre h (uW _ _)).more ⋯];ext;have h2:=h.pre (uW S [.lst ((ks.map λ(k:Nat)=>decide ((k:Int)=(k0:Int))).map Xv.bl)]);show yo ?_;calc#[_,_,rfl,h2.o,rfl,?_];calc Xu (l:=ksX ks) (xB (uW _ _) hk) ?_;let#[_,S2,#[i,fs',rfl,e,ad,g]]:=zit h2 hl (f:= .fork lv ks) (x:= .tup [.str "fork",.int (lv:Int),.tup (ksX ks)]) rfl;show#[i,fs',rfl,#[k0,h0,.inr #[hc,e]],ad.imp (λz=>z) (λz=>#[hc,z]),((yQ.of_pre h (uW _ _)).trans g).more ⋯]
def zsC(h:S[n]? =eV (.ins "Store" []))(bx:Xv):W (wY [.ref n,bx] S) λv S'=>v= .non/\yU n S.length (S.length+1) bx [] S'/\Kp (· =n) S S'/\S'.length=S.length+2:=by
 have hn:=(uT.1 h).1;delta Zg;calc zgk ?_;calc#[_,_,rfl,h,∅,?_];calc zgk ?_;calc#[_,_,rfl,xB (uW _ _) (wq h),(show(1:Nat)<1000 by decide),?_];show zgk ?_;calc#[_,_,rfl,xB (uW _ _) (wq (xB (uW _ _) (wq h))),(show(2:Nat)<1000 by decide),rfl,?_];simp only[Bm,y7,y4,Aw];show#[#[wq (xB (uW _ _) (wq (xB (uW _ _) (wq h)))),#[[],.nil,?_,?_],Ej],?_,by simp];show xN (xB (uW _ _) (xN ?_ ⋯)) ⋯;have:=yz (S:=S.set n (.ins "Store" (zeq "boxes" bx []))) (c:= .lst []);rw[Bm] at this;show this;show xN ?_ ⋯;have:=yz (S:=(v8 S n (Ce.ins "Store" (zeq "boxes" bx []))++[Ce.lst []]).set n (.ins "Store" (zeq "facts" (.ref S.length) (zeq "boxes" bx [])))) (c:= .dk []);simp only[Bm,y7,y4,Aw] at this;show this;show (((((Kp.refl (· =n)).set (.inl rfl)).app).set (.inl rfl)).app).set (.inl rfl)
end
section
noncomputable def lvl(n:Nat):zN->Nat
 | .leaf _=>n
 | .fork lv _=>lv
structure WF(ss:kx Nat)(fs:kx zN):Prop where
 nd:fs.Nodup
 ok:∀(i lv:Nat) ks,fs[i]? =eV (.fork lv ks)->(∃s,ss[lv]? =eV s/\ks.length=s)/\(∀k∈ks,k<i/\∃f,fs[k]? =eV f/\lv<lvl ss.length f)/\¬∀k∈ks,∀k'∈ks,k=k'
def yw(ss st:kx Nat):Prop:=st.length=ss.length/\∀(i:Nat) x s,st[i]? =eV x->ss[i]? =eV s->x<s
variable{fs fs':kx zN}{st':kx Nat}{q q':Q2}{i j:Nat}{f g:zN}
def yw.get(h:yw ss st){lv s:Nat}(e:ss[lv]? =eV s):∃x,st[lv]? =eV x/\x<s:=by
 have hl:lv<st.length:=by rw[h.1];show(uT.1 e).1
 show#[st[lv],uV hl,h.2 lv _ s (uV hl) e]
set_option tactic.hygienic true in
def yw.set(h:yw ss st){lv s m:Nat}(e:ss[lv]? =eV s)(hm:m<s):yw ss (st.set lv m):=by
 show#[by rw[Bm];show h.1,λi x t e1 e2=> ?_];rw[Ai] at e1;split at e1;rename_i q;subst q;split at e1;cases e1;rw[e] at e2;cases e2;show hm;cases e1;show h.2 i x t e1 e2
def VA.uniq(v:VA fs st q h i):∀{h':Nat},VA fs st q' h' i->q=q':=by
 induction v with
 |leaf e=>
  intro h' w;cases w with
  |leaf e'=>rw[e] at e';cases e';rfl
  |fork e' _ _ _=>rw[e] at e';cases e'
 |fork e e1 e2 _ ih=>
  intro h' w;cases w with
  |leaf e'=>rw[e] at e';cases e'
  |fork e' f1 f2 w=>
   rw[e] at e';cases e';rw[e1] at f1;cases f1;rw[e2] at f2;cases f2;show ih w
def WF.lv(w:WF ss fs)(e:fs[i]? =eV f):lvl ss.length f<=ss.length:=by
 cases f with
 |leaf q=>show v3 _
 |fork lv ks=>
  have#[#[s,h,_],_]:=w.ok i lv ks e;show A3 (uT.1 h).1
theorem WF.val(w:WF ss fs)(hs:yw ss st):∀(n i:Nat) (f:zN),i<n->fs[i]? =eV f->∃q,VA fs st q (ss.length-lvl ss.length f) i:=by
 intro n
 induction n with
 |zero=>intro i f h;omega
 |succ n ih=>
  intro i f hi e;cases f with
  |leaf q=>show#[q,.leaf e]
  |fork lv ks=>
   have#[#[s,h1,h2],h3,_]:=w.ok i lv ks e;have#[x,e1,hx]:=hs.get h1;have hk:ks[x]? =eV ks[x]:=uV ⋯;have#[h4,g,h5,h6]:=h3 ks[x] (A9 _);have#[q,v]:=ih ks[x] g ⋯ h5;show#[q,VA.more (.fork e e1 hk v) ?_];have:=(uT.1 h1).1;change ss.length-lvl ss.length g+1<=ss.length-lv;have:=w.lv h5;omega
theorem WF.val'(w:WF ss fs)(hs:yw ss st)(e:fs[i]? =eV f):∃q,VA fs st q ss.length i:=by
 have#[q,v]:=w.val hs (i+1) i f ⋯ e;show#[q,v.more ⋯]
def VA.other(w:WF ss fs)(ag:∀k,l<=k->st'[k]? =st[k]?)(v:VA fs st q h i):∀{f:zN},fs[i]? =eV f->l<=lvl ss.length f->VA fs st' q h i:=by
 induction v with
 |leaf e=>intro f _ _;show .leaf e
 | @fork h n lv j k ks e e1 e2 _ ih=>
  intro f ef hl;rw[e] at ef;cases ef;have#[_,h3,_]:=w.ok n lv ks e;have#[_,g,h5,h6]:=h3 k (uX e2);show .fork e ((ag lv hl).trans e1) e2 (ih h5 (by have:l<=lv:=hl;omega))
def zj7:∀k,lv+1<=k->(st.set lv m)[k]? =st[k]? :=λk hk=>by rw[Ai,GP ⋯]
def zbo:∀k,lv+1<=k->st[k]? =(st.set lv m)[k]? :=λk hk=>(zj7 k hk).symm
def Ag(ss:kx Nat)(fs:kx zN)(i j:Nat):Prop:=∀st,yw ss st->∃q h h',VA fs st q h i/\VA fs st q h' j
def Ag.symm(a:Ag ss fs i j):Ag ss fs j i:=λst hs=>by
 have#[q,h,h',a,b]:=a st hs;show#[q,h',h,b,a]
def VA.kid(v:VA fs st q h i)(e:fs[i]? =eV (.fork lv ks))(e1:st[lv]? =eV x):∃k h',ks[x]? =eV k/\VA fs st q h' k:=by
 cases v with
 |leaf e'=>rw[e] at e';cases e'
 |fork e' f1 f2 w=>
  rw[e] at e';cases e';rw[e1] at f1;cases f1;show#[_,_,f2,w]
def Ag.kid(w:WF ss fs){lv s m k:Nat}(a:Ag ss fs i j)(ei:fs[i]? =eV (.fork lv ks))(es:ss[lv]? =eV s)(hm:m<s)(ek:ks[m]? =eV k)(ej:fs[j]? =eV g)(hg:lv<lvl ss.length g):Ag ss fs k j:=λst hs=>by
 have#[_,f,h5,h6]:=(w.ok i lv ks ei).2.1 k (uX ek);have#[q,h,h',v,u]:=a _ (hs.set es hm);have hl:lv<st.length:=by rw[hs.1];show(uT.1 es).1
 have#[k',h1,e',v]:=v.kid ei (by rw[Ai,GO rfl,GO hl]);rw[ek] at e';cases e';show#[q,h1,h',v.other w zbo h5 h6,u.other w zbo ej hg]
def Ag.kids(w:WF ss fs){lv s m k k':Nat}(a:Ag ss fs i j)(ei:fs[i]? =eV (.fork lv ks))(ej:fs[j]? =eV (.fork lv js))(es:ss[lv]? =eV s)(hm:m<s)(ek:ks[m]? =eV k)(ek':js[m]? =eV k'):Ag ss fs k k':=λst hs=>by
 have#[_,f,h5,h6]:=(w.ok i lv ks ei).2.1 k (uX ek);have#[_,f',oK,qp]:=(w.ok j lv js ej).2.1 k' (uX ek');have#[q,h,h',v,u]:=a _ (hs.set es hm);have hl:lv<st.length:=by rw[hs.1];show(uT.1 es).1
 have#[k1,h1,e1,v]:=v.kid ei (by rw[Ai,GO rfl,GO hl]);have#[k2,h2,e2,u]:=u.kid ej (by rw[Ai,GO rfl,GO hl]);rw[ek] at e1;cases e1;rw[ek'] at e2;cases e2;show#[q,h1,h2,v.other w zbo h5 h6,u.other w zbo oK qp]
def zul(w:WF ss fs)(z:∃st,yw ss st):∀(d i j:Nat) (f g:zN),fs[i]? =eV f->fs[j]? =eV g->ss.length<=lvl ss.length f+d->ss.length<=lvl ss.length g+d->Ag ss fs i j->i=j:=by
 have lt:∀{i lv:Nat} {ks:kx Nat},fs[i]? =eV (.fork lv ks)->lv<ss.length:=λe=>by
  have#[#[s,h,_],_]:=w.ok _ _ _ e;show(uT.1 h).1
 intro d
 induction d with
 |zero=>
  intro i j f g ei ej hf hg a;have#[st,hs]:=z;have#[q,h,h',v,u]:=a st hs;cases f with
  |fork lv ks=>have:=lt ei;have:ss.length<=lv+0:=hf;omega
  |leaf p=>
   cases g with
   |fork lv ks=>have:=lt ej;have:ss.length<=lv+0:=hg;omega
   |leaf p'=>
    have e1:=v.uniq (.leaf (h:=0) ei);have e2:=u.uniq (.leaf (h:=0) ej);subst e1 e2;show zoB w.nd ei ej
 |succ d ih=>
  have side:∀{i j lv:Nat} {ks:kx Nat} {g:zN},fs[i]? =eV (.fork lv ks)->fs[j]? =eV g->ss.length<=lv+(d+1)->ss.length<=lvl ss.length g+d->¬ss.length<=lv+d->Ag ss fs i j->False:=by
   intro i j lv ks g ei ej h1 h2 h3 a;have#[#[s,es,hl],hk,hn]:=w.ok i lv ks ei;have all:∀k∈ks,k=j:=λk hm=>by
    have#[m,dA]:=Ab hm;have gL:=(uT.1 dA).1;have#[_,f,h5,h6]:=hk k hm;show ih k j f g h5 ej ⋯ h2 (a.kid w ei es ⋯ dA ej ⋯)
   show hn λk hk k' jn=>(all k hk).trans (all k' jn).symm
  intro i j f g ei ej hf hg a;by_cases hi:ss.length<=lvl ss.length f+d
  .by_cases hj:ss.length<=lvl ss.length g+d;show ih i j f g ei ej hi hj a
   cases g with
   |leaf p=>show absurd (BQ _ _) hj
   |fork lv ks=>show(side ej ei hg hi hj a.symm).elim
  cases f with
  |leaf p=>show absurd (BQ _ _) hi
  |fork lv ks=>
   by_cases hj:ss.length<=lvl ss.length g+d;show (side ei ej hf hj hi a).elim
   cases g with
   |leaf p=>show absurd (BQ _ _) hj
   |fork lw js=>
    have jQ:ss.length<=lv+(d+1):=hf;have uH:ss.length<=lw+(d+1):=hg;have jO:¬ss.length<=lv+d:=hi;have qc:¬ss.length<=lw+d:=hj;have:lw=lv:=by omega
    subst this;have#[#[s,es,hl],hk,_]:=w.ok i lw ks ei;have#[#[s',es',iF],jn,_]:=w.ok j lw js ej;rw[es] at es';cases es';have:ks=js:=by
     apply List.ext_getElem ⋯;intro m h1 h2;have e1:ks[m]? =eV ks[m]:=uV h1;have e2:js[m]? =eV js[m]:=uV h2;have#[_,f,h5,h6]:=hk ks[m] (A9 _);have#[_,f',oK,qp]:=jn js[m] (A9 _);show ih _ _ f f' h5 oK ⋯ ⋯ (a.kids w ei ej es ⋯ e1 e2)
    subst this;show zoB w.nd ei ej
def WF.canon(w:WF ss fs)(z:∃st,yw ss st)(ei:fs[i]? =eV f)(ej:fs[j]? =eV g)(a:Ag ss fs i j):i=j:=Prf.zul w z ss.length i j f g ei ej ⋯ ⋯ a
def WF.leaf(w:WF ss fs){q:Q2}(n:fs'.Nodup)(a:Add fs (.leaf q) fs'):WF ss fs':=by
 rcases a with rfl|rfl;show w
 show#[n,λi lv ks e=> ?_];have hi:i<fs.length:=by
  rcases As i fs.length with h|h|h;show h;subst h;simp at e;rw[z5 (by simp;omega)] at e;cases e
 rw[v5 hi] at e;have#[h1,h2,h3]:=w.ok i lv ks e;show#[h1,λk hk=> ?_,h3];have#[a,f,b,c]:=h2 k hk;show#[a,f,xB (uW _ _) b,c]
def WF.fork(w:WF ss fs){lv s:Nat}{ks:kx Nat}(n:fs'.Nodup)(a:Add fs (.fork lv ks) fs')(es:ss[lv]? =eV s)(hl:ks.length=s)(hk:∀k∈ks,∃f,fs[k]? =eV f/\lv<lvl ss.length f)(hn:¬∀k∈ks,∀k'∈ks,k=k'):WF ss fs':=by
 rcases a with rfl|rfl;show w;show#[n,λi lw js e=> ?_];rcases As i fs.length with h|h|h;rw[v5 h] at e;have#[h1,h2,h3]:=w.ok i lw js e;show#[h1,λk hk=> ?_,h3];have#[a,f,b,c]:=h2 k hk;show#[a,f,xB (uW _ _) b,c];subst h;simp at e;have#[rfl,rfl]:=e;show#[#[s,es,hl],λk hm=> ?_,hn];have#[f,b,c]:=hk k hm;show#[(uT.1 b).1,f,xB (uW _ _) b,c];rw[z5 (by simp;omega)] at e;cases e
theorem VA.back(w:WF ss fs)(p:fs<+:fs')(hs:yw ss st)(e:fs[i]? =eV f)(v:VA fs' st q h i):VA fs st q ss.length i:=by
 have#[q',v']:=w.val' hs e;rw[v.uniq (v'.mono p)];show v'
end
section
structure Bx(ss:kx Nat)(bl:kx Xv):Prop where
 len:bl.length=ss.length
 at_:∀(i s:Nat),ss[i]? =eV s->∃nm:Xv,bl[i]? =eV (.tup [nm,.int (s:Int)])
 siz:∀s∈ss,1<=s/\s<=90
structure Bx9(ss:kx Nat)(bl:kx Xv):Prop extends Bx ss bl where
 l9:ss.length<=9
def zgU.va(f:zgU fs lv ks i)(hj:st[lv]? =eV j)(hk:ks[j]? =eV k)(v:VA fs st q h k):VA fs st q (h+1) i:=by
 obtain⟨k0,e0,⟨a,rfl⟩|⟨a,b⟩⟩:=f;rw[a k (uX hk)] at v;show v.more ⋯;show .fork b hj hk v
def zd5(h:yU sn fn dn (.tup bl) fs S){i:Nat}{f:zN}(hb:bl.length=ss.length)(hi:fs[i]? =eV f):W (yE [.ref sn,.int (i:Int)] S) λv S'=>v= .int (lvl ss.length f:Int)/\S'=S:=by
 cases f with
 |leaf q=>rw[show lvl ss.length (.leaf q)=bl.length from hb.symm];show zoC h hi
 |fork lv ks=>show zgT h hi
def Kd(ss:kx Nat)(fs:kx zN)(a lv m k:Nat):Prop:=(∃ks,fs[a]? =eV (.fork lv ks)/\ks[m]? =eV k)\/(k=a/\∃f,fs[a]? =eV f/\lv<lvl ss.length f)
def Kd.mono(h:Kd ss fs a lv m k)(p:fs<+:fs'):Kd ss fs' a lv m k:=by
 rcases h with⟨ks,e,h⟩|⟨rfl,f,e,h⟩
 .show .inl #[ks,xB p e,h]
 show .inr #[rfl,f,xB p e,h]
def Kd.lv{a lv m k:Nat}(h:Kd ss fs a lv m k)(w:WF ss fs):∃f,fs[k]? =eV f/\lv<lvl ss.length f:=by
 rcases h with⟨ks,e,h⟩|⟨rfl,f,e,h⟩
 .obtain⟨_,f,e1,e2⟩:=(w.ok a lv ks e).2.1 k (uX h);show#[f,e1,e2]
 show#[f,e,h]
def Kd.va{a lv m k h:Nat}{q:Q2}(d:Kd ss fs a lv m k)(v:VA fs st q h a)(e:st[lv]? =eV m):∃h',VA fs st q h' k:=by
 rcases d with⟨ks,e1,e2⟩|⟨rfl,_⟩
 .obtain⟨k',h',e3,v⟩:=v.kid e1 e;rw[e2] at e3;cases e3;show#[h',v]
 show#[h,v]
def zk7(h:yU sn fn dn (.tup bl) fs S)(w:WF ss fs)(hb:bl.length=ss.length){a lv m s:Nat}(e:fs[a]? =eV f)(hl:lv<=lvl ss.length f)(es:ss[lv]? =eV s)(hm:m<s):∃k,Kd ss fs a lv m k/\W (xz [.ref sn,.int (a:Int),.int (lv:Int),.int (m:Int)] S) λv S'=>v= .int (k:Int)/\S'=S:=by
 have go:∀k:Nat,(∀z:(lvl ss.length f:Int)=(lv:Int),∃ks,f= .fork lv ks/\ks[m]? =eV k)->((lvl ss.length f:Int)≠(lv:Int)->k=a)->W (xz [.ref sn,.int (a:Int),.int (lv:Int),.int (m:Int)] S) λv S'=>v= .int (k:Int)/\S'=S:=by
  intro k h1 h2;delta Yl;show ye (Wh (xg (zM (yo ?_))));calc#[_,_,rfl,h.o,rfl,?_];let#[_,_,#[rfl,rfl]]:=zd5 h hb e;calc yS (λz=> ?_) (λz=> ?_);have#[ks,rfl,ek]:=h1 z;show zM (yo ?_);calc#[_,_,rfl,h.o,rfl,?_];let#[_,_,#[rfl,rfl]]:=zj5 h e;ext;show zE rfl (yd (zaF ek)) #[rfl,rfl];ext;show#[by rw[h2 z],rfl]
 by_cases hq:lvl ss.length f=lv
 .cases f with
  |leaf q=>
   have:=(uT.1 es).1;have:ss.length=lv:=hq;omega
  |fork lw ks=>
   have hq:lw=lv:=hq;subst hq;have#[#[s',es',hs],_]:=w.ok a lw ks e;rw[es] at es';cases es';have ek:ks[m]? =eV ks[m]:=uV ⋯;show#[ks[m],.inl #[ks,e,ek],go _ (λ_=>#[ks,rfl,ek]) (λz=>absurd rfl z)]
 show#[a,.inr #[rfl,f,e,⋯],go a (λz=>absurd (Dr.1 z) hq) (λ_=>rfl)]
noncomputable def wt:kx Nat->Nat
 |[]=>2
 |s::r=>2+s*wt r
noncomputable def cst(ss:kx Nat)(d:Nat):Nat:=wt (ss.drop (ss.length-d))
def zqo(h:∀s∈ss,1<=s):∀k,wt (ss.drop k)<=wt ss:=by
 induction ss with
 |nil=>intro k;rw[List.drop_nil];show v3 _
 |cons s r ih=>
  intro k;cases k with
  |zero=>show v3 _
  |succ k=>
   rw[List.drop_succ_cons];have h1:=ih (λt ht=>h t (w6 _ ht)) k;have h2:=h s y6;have:1*wt r<=s*wt r:=z9 _ h2;change _<=2+s*wt r;omega
def zbp(h:∀s∈ss,1<=s)(hd:d<=d'):cst ss d<=cst ss d':=by
 unfold cst;have e:ss.drop (ss.length-d)=(ss.drop (ss.length-d')).drop ((ss.length-d)-(ss.length-d')):=by
  rw[List.drop_drop]
  congr 1
  omega
 rw[e];show zqo (λs hs=>h s (List.mem_of_mem_drop hs)) _
def zgW{lv s:Nat}(es:ss[lv]? =eV s):cst ss (ss.length-lv)=2+s*cst ss (ss.length-lv-1):=by
 have#[hl,e]:=uT.1 es;unfold cst;rw[show ss.length-(ss.length-lv)=lv by omega,show ss.length-(ss.length-lv-1)=lv+1 by omega,DC hl,e];rfl
end
section
variable{F:kx Q2->Q2}
noncomputable def kL(as:kx Nat):NK:= .tup (as.map λ(k:Nat)=> .int (k:Int))
def TM(as:kx Nat):Xv:= .tup (ksX as)
noncomputable def wu:kx (NK×Xv×Xv)->Ce
 |[]=> .dk []
 |p::l=> .dn (p::l)
def Xw(as:kx Nat):Up (TM as)=eV (kL as):=by
 have:=zj4 as;simp[Up,TM,kL,YT,zgR,Zx];omega
def zj8(h:kL a=kL b):a=b:=by
 unfold kL at h;injection h with h;show zaE h
def Tr(h:S[n]? =eV (wu l))(hk:Up x=eV k)(hx:zai x=gi):YY S (.ref n) x=eV (yN l k):=by
 unfold YY;dsimp only;rw[h];cases l with
 |nil=>
  unfold wu;dsimp only;rw[hx,hk];rfl
 |cons p l=>
  unfold wu;dsimp only;rw[hk];rfl
def zgX(h:S[n]? =eV (wu l))(hk:Up x=eV k)(hx:zai x=gi)(hl:l.length<FU):TZ S (.ref n) x z=eV (S.set n (wu (XI l k x z))):=by
 unfold TZ;dsimp only;rw[h];cases l with
 |nil=>
  unfold wu;dsimp only;rw[hx,hk];rfl
 |cons p l=>
  unfold wu;dsimp only[B5];rw[GO hl,hk];dsimp only[Bd];unfold XI;split<;>rfl
def Zq:yN (p::l) k=if p.1=k then eV p.2.2 else yN l k:=by
 unfold yN;rw[A5];by_cases h:p.1=k;rw[decide_eq_true h,GO h];rfl;rw[decide_eq_false h,GP h]
theorem zk8:∀{l:kx (NK×Xv×Xv)},yN (l.map λp=>if p.1=k then (p.1,p.2.1,y) else p) k'=if k'=k then (yN l k).map (λ_=>y) else yN l k'
 |[]=>by simp[yN]
 |p::l=>by
  rw[y8,Zq,zk8 (l:=l),Zq,Zq];by_cases h:p.1=k;rw[GO h,GO h];dsimp only;by_cases h2:k'=k;rw[GO (h.trans h2.symm),GO h2];rfl;rw[GP (λz=>h2 (z.symm.trans h)),GP h2,GP h2,GP (λz=>h2 (z.symm.trans h))];rw[GP h,GP h];by_cases h2:k'=k;rw[GO h2,GO h2,GP (λz=>h (z.trans h2))];rw[GP h2,GP h2]
theorem zk9:∀{l:kx (NK×Xv×Xv)},yN l k=gi->yN (l++[(k,x,y)]) k'=if k'=k then eV y else yN l k'
 |[],_=>by
  rw[DX,Zq];dsimp only;by_cases h:k'=k;rw[GO h.symm,GO h];rw[GP (λz=>h z.symm),GP h]
 |p::l,hn=>by
  rw[Zq] at hn;by_cases h:p.1=k;rw[GO h] at hn;cases hn;rw[GP h] at hn;rw[B5,Zq,zk9 hn,Zq];by_cases h2:k'=k;rw[GO h2,GO h2,GP (λz=>h (z.trans h2))];rw[GP h2,GP h2]
set_option tactic.hygienic true in
def zgY:yN (XI l k x y) k'=if k'=k then eV y else yN l k':=by
 unfold XI;split;rename_i h;have#[u,hu]:=Ay.1 h;rw[zk8,hu];rfl;rename_i h;show zk9 (by simpa using h)
def zqp:(XI l k x y).length<=l.length+1:=by
 unfold XI;split<;>simp
def VaL(fs:kx zN)(st:kx Nat)(as:kx Nat)(qs:kx Q2):Prop:=as.length=qs.length/\∀(i a:Nat) q,as[i]? =eV a->qs[i]? =eV q->∃h,VA fs st q h a
def ExL(fs:kx zN)(as:kx Nat):Prop:=∀a∈as,∃f,fs[a]? =eV f
def ExL.mono(h:ExL fs as)(p:fs<+:fs'):ExL fs' as:=λa ha=>by
 have#[f,e]:=h a ha;show#[f,xB p e]
def VaL.back(v:VaL fs' st as qs)(w:WF ss fs)(p:fs<+:fs')(hs:yw ss st)(e:ExL fs as):VaL fs st as qs:=#[v.1,λi a q e1 e2=>by
 have#[h,u]:=v.2 i a q e1 e2;have#[f,ef]:=e a (uX e1)
 show#[_,u.back w p hs ef]]
theorem VaL.ex(w:WF ss fs)(hs:yw ss st):∀{as:kx Nat},ExL fs as->∃qs,VaL fs st as qs
 |[],_=>#[[],rfl,λi a q e=>by simp at e]
 |a::r,h=>by
  have#[f,e]:=h a y6;have#[q,v]:=w.val' hs e;have#[qs,hl,u]:=VaL.ex w hs (as:=r) λb hb=>h b (w6 _ hb);show#[q::qs,by simp[hl],λi b p e1 e2=> ?_];cases i with
  |zero=>simp at e1 e2;subst e1 e2;show#[_,v]
  |succ i=>show u i b p (by simpa using e1) (by simpa using e2)
structure Tg(ss:kx Nat)(F:kx Q2->Q2)(fs:kx zN)(as:kx Nat)(r:Nat):Prop where
 ex:ExL fs as
 lv:∃fr,fs[r]? =eV fr/\∀l,(∀a∈as,∀f,fs[a]? =eV f->l<=lvl ss.length f)->l<=lvl ss.length fr
 va:∀st,yw ss st->∀qs,VaL fs st as qs->∃h,VA fs st (F qs) h r
def Tg.mono(g:Tg ss F fs as r)(w:WF ss fs)(p:fs<+:fs'):Tg ss F fs' as r:=by
 have#[fr,er,hl]:=g.lv;show#[g.ex.mono p,#[fr,xB p er,λl h=>hl l λa ha f e=>h a ha f (xB p e)],λst hs qs v=> ?_];have#[h,u]:=g.va st hs qs (v.back w p hs g.ex);show#[h,u.mono p]
def VbL(G:kx Q2->Prop)(ss:kx Nat)(fs:kx zN)(as:kx Nat):Prop:=∀st,yw ss st->∀qs,VaL fs st as qs->G qs
def VbL.mono{G:kx Q2->Prop}(v:VbL G ss fs as)(w:WF ss fs)(p:fs<+:fs')(e:ExL fs as):VbL G ss fs' as:=λst hs qs u=>v st hs qs (u.back w p hs e)
structure JS(sn fn dn kn:Nat)(bx:Xv)(ss:kx Nat)(F:kx Q2->Q2)(fs:kx zN)(l:kx (NK×Xv×Xv))(S:Sto):Prop where
 st:yU sn fn dn bx fs S
 wf:WF ss fs
 kd:S[kn]? =eV (wu l)
 kl:∀k y,yN l k=eV y->∃(as:kx Nat) (r:Nat),k=kL as/\y= .int (r:Int)/\Tg ss F fs as r
 ne:kn≠dn
def zl9:wu l≠ .lst m:=by cases l<;>simp[wu]
def zma:wu l≠ .ins c m:=by cases l<;>simp[wu]
section
variable{l l' l2:kx (NK×Xv×Xv)}
def JS.kf(h:JS sn fn dn kn bx ss F fs l S):kn≠fn:=λe=>by
 have#[xs,_,e1,_]:=h.st.fd';have h1:=h.kd;rw[e,e1] at h1;show zl9 (A0 h1).symm
def JS.ks(h:JS sn fn dn kn bx ss F fs l S):kn≠sn:=λe=>by
 have h1:=h.kd;rw[e,h.st.o] at h1;show zma (A0 h1).symm
noncomputable abbrev wJ(fn dn kn:Nat):Nat->Prop:=λn=>n=fn\/n=dn\/n=kn
structure JP(sn fn dn kn:Nat)(bx:Xv)(ss:kx Nat)(F:kx Q2->Q2)(m:Nat)(fs:kx zN)(l:kx (NK×Xv×Xv))(S:Sto)(fs':kx zN)(l':kx (NK×Xv×Xv))(S':Sto):Prop where
 js:JS sn fn dn kn bx ss F fs' l' S'
 pre:fs<+:fs'
 fl:fs'.length<=fs.length+m
 ll:l'.length<=l.length+m
 kp:Kp (wJ fn dn kn) S S'
def JS.pre(h:JS sn fn dn kn bx ss F fs l S)(p:S<+:S'):JS sn fn dn kn bx ss F fs l S':=#[h.st.pre p,h.wf,xB p h.kd,h.kl,h.ne]
def JS.grown(h:JS sn fn dn kn bx ss F fs l S)(w:WF ss fs')(g:yQ sn fn dn bx fs m S fs' S'):JS sn fn dn kn bx ss F fs' l S':=
 #[g.st,w,g.kp.2 _ _ h.kd (λz=>by rcases z with z|z;show h.kf z;show h.ne z),λk y e=>by
  have#[a,r,e1,e2,e3]:=h.kl k y e
  show#[a,r,e1,e2,e3.mono h.wf g.pre],h.ne]
def JP.grown(h:JS sn fn dn kn bx ss F fs l S)(w:WF ss fs')(g:yQ sn fn dn bx fs m S fs' S'):JP sn fn dn kn bx ss F m fs l S fs' l S':=
 #[h.grown w g,g.pre,g.len,⋯,g.kp.mono λn z=>z.elim .inl λz=> .inr (.inl z)]
def JP.trans(a:JP sn fn dn kn bx ss F m fs l S de l' S')(b:JP sn fn dn kn bx ss F m' de l' S' aM l2 S2):JP sn fn dn kn bx ss F (m+m') fs l S aM l2 S2:=
 #[b.js,a.pre.trans b.pre,by have:=a.fl;have:=b.fl;omega,by have:=a.ll;have:=b.ll;omega,a.kp.trans b.kp]
def JP.more(a:JP sn fn dn kn bx ss F m fs l S de l' S')(h:m<=m'):JP sn fn dn kn bx ss F m' fs l S de l' S':=#[a.js,a.pre,by have:=a.fl;omega,by have:=a.ll;omega,a.kp]
def JP.app{m:Nat}{de:kx zN}(a:JP sn fn dn kn bx ss F m fs l S de l' S')(p:S'<+:S2):JP sn fn dn kn bx ss F m fs l S de l' S2:=#[a.js.pre p,a.pre,a.fl,a.ll,a.kp.trans (Kp.pre p)]
def JS.jp(h:JS sn fn dn kn bx ss F fs l S)(p:S<+:S'):JP sn fn dn kn bx ss F 0 fs l S fs l S':=#[h.pre p,Ae _,⋯,⋯,Kp.pre p]
def JP.set(h:JS sn fn dn kn bx ss F fs l S)(a:JP sn fn dn kn bx ss F m fs l S de l' S')(hn:S.length<=n):JP sn fn dn kn bx ss F m fs l S de l' (S'.set n c):=by
 have q:∀{k:Nat} {d:Ce},S[k]? =eV d->n≠k:=λ{k d} e=>by have:=(uT.1 e).1;omega
 have#[_,_,z1,z2]:=h.st.fd';have#[xs,u1,u2,u3]:=a.js.st.fd';show#[#[#[xN a.js.st.o (q h.st.o),#[xs,u1,xN u2 (q z1),xN u3 (q z2)],a.js.st.nd],a.js.wf,xN a.js.kd (q h.kd),a.js.kl,a.js.ne],a.pre,a.fl,a.ll,a.kp.set (.inr hn)]
set_option tactic.hygienic true in
def JS.put(h:JS sn fn dn kn bx ss F fs l S)(g:Tg ss F fs as r):JP sn fn dn kn bx ss F 1 fs l S fs (XI l (kL as) (TM as) (.int (r:Int))) (S.set kn (wu (XI l (kL as) (TM as) (.int (r:Int))))):=by
 have#[xs,u1,u2,u3]:=h.st.fd';show#[#[#[xN h.st.o h.ks,#[xs,u1,xN u2 h.kf,xN u3 h.ne],h.st.nd],h.wf,wq h.kd,λk y e=> ?_,h.ne],Ae _,⋯,zqp,(Kp.refl _).set (.inl (.inr (.inr rfl)))];rw[zgY] at e;split at e;rename_i q;cases e;show#[as,r,q,rfl,g];show h.kl k y e
end
def KdL(ss:kx Nat)(fs:kx zN)(as:kx Nat)(lv m:Nat)(bs:kx Nat):Prop:=bs.length=as.length/\∀(i a b:Nat),as[i]? =eV a->bs[i]? =eV b->Kd ss fs a lv m b
def KdL.mono{bs:kx Nat}(h:KdL ss fs as lv m bs)(p:fs<+:fs'):KdL ss fs' as lv m bs:=#[h.1,λi a b e1 e2=>(h.2 i a b e1 e2).mono p]
def KdL.of{bs:kx Nat}(h:KdL ss fs as lv m bs)(hb:b∈bs):∃a∈as,Kd ss fs a lv m b:=by
 have#[i,e]:=Ab hb;have hi:i<as.length:=by rw[<-h.1];show(uT.1 e).1
 show#[_,A9 hi,h.2 i _ b (uV hi) e]
def KdL.va{bs:kx Nat}(h:KdL ss fs as lv m bs)(v:VaL fs st as qs)(e:st[lv]? =eV m):VaL fs st bs qs:=#[h.1.trans v.1,λi b q e1 e2=>by
 have hi:i<as.length:=by rw[<-h.1];show(uT.1 e1).1
 have ea:as[i]? =eV as[i]:=uV hi;have#[_,u]:=v.2 i _ q ea e2
 show(h.2 i _ b ea e1).va u e]
def Kd.up{a lv m s k h:Nat}(d:Kd ss fs a lv m k)(w:WF ss fs)(es:ss[lv]? =eV s)(hs:yw ss st)(u:VA fs st q h k):∃h',VA fs (st.set lv m) q h' a:=by
 rcases d with⟨ks,e1,e2⟩|⟨rfl,f,e1,e2⟩
 .obtain⟨_,f,e3,e4⟩:=(w.ok a lv ks e1).2.1 k (uX e2);have hl:lv<st.length:=by rw[hs.1];show(uT.1 es).1
  show#[_,.fork e1 (by rw[Ai,GO rfl,GO hl]) e2 (u.other w zj7 e3 e4)]
 show#[_,u.other w zj7 e1 e2]
def KdL.vb{G:kx Q2->Prop}{bs:kx Nat}{lv m s:Nat}(h:KdL ss fs as lv m bs)(w:WF ss fs)(v:VbL G ss fs as)(es:ss[lv]? =eV s)(hm:m<s):VbL G ss fs bs:=λst hs qs u=>by
 show v _ (hs.set es hm) qs #[h.1.symm.trans u.1,λi a q e1 e2=> ?_];have hi:i<bs.length:=by rw[h.1];show(uT.1 e1).1
 have eb:bs[i]? =eV bs[i]:=uV hi;have#[_,u]:=u.2 i _ q eb e2;show(h.2 i a _ e1 eb).up w es hs u
def zqq(h:v∈ns)(hl:∀n∈ns,v<=n):zl0 ns=v:=by
 have key:∀(l:kx Int) (a:Int),v<=a->(∀n∈l,v<=n)->(a=v\/v∈l)->l.foldl (λa b=>if b<a then b else a) a=v:=by
  intro l
  induction l with
  |nil=>intro a _ _ h;rcases h with h|h;show h;cases h
  |cons b r ih=>
   intro a h1 h2 h3;rw[D5];have hb:=h2 b y6;have hr:∀n∈r,v<=n:=λn hn=>h2 n (w6 _ hn);split;show ih b hb hr ?_;rcases h3 with h3|h3;omega;rcases x8.1 h3 with h3|h3;show .inl h3.symm;show .inr h3;show ih a h1 hr ?_;rcases h3 with h3|h3;show .inl h3;rcases x8.1 h3 with h3|h3;show .inl ⋯;show .inr h3
 unfold zl0;cases ns with
 |nil=>cases h
 |cons a r=>show key _ _ (hl a y6) hl (.inr h)
set_option tactic.hygienic true in
def zoD(hn:W (m ρ S) λz S'=>z= .tup xs/\S'=S)(hl:us.length=xs.length)(hx:xs.length<=100)(h:∀(i:Nat) x u,xs[i]? =eV x->us[i]? =eV u->W (e ((vw cap ρ).set 0 (eV x)) S) λw S'=>w=u/\S'=S)(k:P (.ref S.length) (S++[.lst us])):
  W (xt cap (iT m) (gN 0) xl e ρ S) P:=by
 show xi (zch (hn.imp ?_));intro _ _ #[rfl,rfl];show#[_,rfl,_,rfl,?_];rename_i S;show yR (A3 (Yg hx)) (λi es S2=>S2=S/\es=us.take i) (λ_ _ _ _ _=>rfl) ?_ #[rfl,rfl] ?_;intro i w es S2 hw fq #[rfl,rfl];have hi:=(uT.1 hw).1;have hu:us[i]? =eV us[i]:=uV ⋯;show .of rfl ?_;calc#[rfl,(h i w _ hw hu).imp ?_];intro _ _ #[rfl,rfl];show#[rfl,(Aa ⋯).symm];intro es S2 _ #[rfl,rfl];rw[Bh ⋯];show k
end
section
variable{F:kx Q2->Q2}
noncomputable def isF:zN->Bool
 | .leaf _=>mK
 | .fork _ _=>hG
def DpL(ss:kx Nat)(fs:kx zN)(as:kx Nat)(d:Nat):Prop:=∀a∈as,∀f,fs[a]? =eV f->ss.length<=lvl ss.length f+d
def Jn(G:kx Q2->Prop)(fu sn fn dn kn:Nat)(bl:kx Xv)(ss:kx Nat)(F:kx Q2->Q2)(xs:Xv)(rj:TwF)(d c:Nat):Prop:=
 ∀{S:Sto} {fs:kx zN} {l:kx (NK×Xv×Xv)} {as:kx Nat},JS sn fn dn kn (.tup bl) ss F fs l S->ExL fs as->1<=as.length->as.length<=12->DpL ss fs as d->VbL G ss fs as->fs.length+c<=1000000->l.length+c<=1000000->
  W (rj [.ref sn,TM as,xs,.ref kn] S) λv S'=>∃(r:Nat) (fs':kx zN) (l':kx (NK×Xv×Xv)),v= .int (r:Int)/\Tg ss F fs' as r/\JP sn fn dn kn (.tup bl) ss F c fs l S fs' l' S'
noncomputable def lvF(n:Nat)(fs:kx zN)(a:Nat):Nat:=match fs[a]? with
 |some f=>lvl n f
 |none=>0
def zj9(e:fs[a]? =eV f):lvF n fs a=lvl n f:=by unfold lvF;rw[e]
def zfA(ks:kx Nat):Yx (ksX ks)=eV (ks.map λ(k:Nat)=>(k:Int)):=by
 have:=zfd (ks.map λ(k:Nat)=>(k:Int));rw[BF] at this;show this
theorem zd6{P:Nat->Nat->Prop}:∀{as:kx Nat},(∀a∈as,∃k,P a k)->∃cs:kx Nat,cs.length=as.length/\∀(n a k:Nat),as[n]? =eV a->cs[n]? =eV k->P a k
 |[],_=>#[[],rfl,λn a k e=>by simp at e]
 |a::r,h=>by
  have#[k,hk]:=h a y6;have#[cs,h1,h2]:=zd6 (P:=P) (as:=r) λb hb=>h b (w6 _ hb);show#[k::cs,by simp[h1],λn b k' e1 e2=> ?_];cases n with
  |zero=>simp at e1 e2;subst e1 e2;show hk
  |succ n=>show h2 n b k' (by simpa using e1) (by simpa using e2)
def zoE{G:kx Q2->Prop}(bh:Bx ss bl){xs:Xv}{rj rb:TwF}{lv s c:Nat}(hj:Jn G fu sn fn dn kn bl ss F xs rj (ss.length-lv-1) c)(h:JS sn fn dn kn (.tup bl) ss F fs l S)(ex:ExL fs as)(h1:1<=as.length)(gZ:as.length<=12)(es:ss[lv]? =eV s)
  (ha:∀a∈as,∀f,fs[a]? =eV f->lv<=lvl ss.length f) (hm:∃a∈as,∃f,fs[a]? =eV f/\lvl ss.length f=lv) (va:VbL G ss fs as) (hf:fs.length+(1+s*c)<=1000000) (hl:l.length+(1+s*c)<=1000000):
  W (zL 4 4 (xf rj rb) [.ref sn,TM as,xs,.ref kn] S) λv S'=>∃(r:Nat) (fs':kx zN) (l':kx (NK×Xv×Xv)),v= .int (r:Int)/\Tg ss F fs' as r/\JP sn fn dn kn (.tup bl) ss F (1+s*c) fs l S fs' l' S':=by
 have iD:=bh.siz s (uX es);have jL:=(uT.1 es).1;delta xf;show zo (zO (xF (zm ?_)));show zoD (xs:=ksX as) (us:=ksX (as.map (lvF ss.length fs))) (zq rfl #[rfl,rfl]) (by rw[yA,yA,uZ]) (by rw[yA];omega) (λi x u e1 e2=> ?_) ?_;have#[a,ea,rfl]:=YK e1;have#[b,eb,rfl]:=YK e2;rw[uY,ea] at eb;cases eb;have#[f,ef]:=ex a (uX ea);dsimp only[vw,Ak,v8];show yo ?_;calc#[_,_,rfl,h.st.o,rfl,?_];ext;rw[zj9 ef];show zd5 h.st bh.len ef;ext
 show zqf (ns:=(as.map (lvF ss.length fs)).map λ(k:Nat)=>(k:Int)) xW (zfA _) (λz=>by
  have:=congrArg E8 z;simp at this;subst this
  simp at h1) ?_
 rw[zqq (v:=(lv:Int)) (by
  have#[a,ig,f,ef,e]:=hm;rw[Ad];show#[lv,Ad.2 #[a,ig,by rw[zj9 ef,e]],rfl]) (λn hn=>by
  have#[k,hk,rfl]:=Ad.1 hn;have#[a,ig,rfl]:=Ad.1 hk;have#[f,ef]:=ex a ig;rw[zj9 ef]
  show Int.ofNat_le.2 (ha a ig f ef))]
 dsimp only[v8];have j0:=h.jp (uW S [.lst (ksX (as.map (lvF ss.length fs)))]);generalize S++[Ce.lst (ksX (as.map (lvF ss.length fs)))]=S1 at j0;ext;have sH:S.length<=S1.length:=j0.kp.1;have j1:=j0.app (uW S1 [.lst []]);have ml:(S1++[Ce.lst []])[S1.length]? =eV (.lst (ksX [])):=yz;generalize uN:S1++[Ce.lst []]=S2 at j1 ml;show xM (wT (zM (zM (xm ?_))));calc#[_,_,_,rfl,j1.js.st.o,rfl,?_];ext;have#[nm,gO]:=bh.at_ lv s es;show zE (l:=bl) rfl (yd gO) ?_;calc#[#[⋯,⋯],_,rfl,?_];rw[z7]
 show yZ (xs:=wk 0 s) (λi ρ S3=>∃(cy:kx zN) (l3:kx (NK×Xv×Xv)) (ks:kx Nat) (a6 a7:pf Xv),ρ=[eV (.ref sn),eV (TM as),eV xs,eV (.ref kn),eV (.int (lv:Int)),eV (.ref S1.length),a6,a7]/\JP sn fn dn kn (.tup bl) ss F (i*c) fs l S cy l3 S3/\S3[S1.length]? =eV (.lst (ksX ks))/\ks.length=i/\
   ∀(m k:Nat),ks[m]? =eV k->∃cs,KdL ss cy as lv m cs/\Tg ss F cy cs k) (λ_ _ _ _ _=>rfl) ?_ ?_ ?_
 .intro i w ρ S3 hw #[cy,l3,ks,a6,a7,rfl,j3,eP,eS,eZ];have#[hi,rfl]:=xu hw;rw[Bg];show .of rfl ?_;dsimp only[v8];have w3:=j3.js.wf;have kid:∀a∈as,∃k,Kd ss cy a lv i k/\W (xz [.ref sn,.int (a:Int),.int (lv:Int),.int (i:Int)] S3) λv S'=>v= .int (k:Int)/\S'=S3:=λa ig=>by
   have#[f,ef]:=ex a ig;show zk7 j3.js.st w3 bh.len (xB j3.pre ef) (ha a ig f ef) es hi
  obtain⟨cs,lx,gx⟩:∃cs:kx Nat,cs.length=as.length/\∀(n a k:Nat),as[n]? =eV a->cs[n]? =eV k->Kd ss cy a lv i k/\W (xz [.ref sn,.int (a:Int),.int (lv:Int),.int (i:Int)] S3) λv S'=>v= .int (k:Int)/\S'=S3:=zd6 kid;have kd:KdL ss cy as lv i cs:=#[lx,λn a k e1 e2=>(gx n a k e1 e2).1];show zo (zO (xF (zm ?_)));show zoD (xs:=ksX as) (us:=ksX cs) (zq rfl #[rfl,rfl]) (by rw[yA,yA,lx]) (by rw[yA];omega) (λn x u e1 e2=> ?_) ?_;have#[a,ea,rfl]:=YK e1;have#[k,ek,rfl]:=YK e2;dsimp only[vw,Ak,v8];show yo ?_;calc#[_,_,rfl,j3.js.st.o,rfl,?_];ext;show(gx n a k ea ek).2
  calc Xu yz ?_;dsimp only[v8];have j4:=j3.app (uW S3 [.lst (ksX cs)]);have lg:=xB (uW S3 [Ce.lst (ksX cs)]) eP;generalize S3++[Ce.lst (ksX cs)]=S4 at j4 lg;show zcW (zcg ?_);calc#[#[_,zC lg],zm (yo ?_)];calc#[_,_,rfl,j4.js.st.o,rfl,?_];ext;have mq:(i+1)*c<=s*c:=z9 _ hi;have jN:(i+1)*c=i*c+c:=Ax i c;have f3:=j3.fl;have g3:=j3.ll;have exc:ExL cy cs:=λk hk=>by
   have#[a,_,d]:=kd.of hk;have#[f,e,_]:=d.lv w3;show#[f,e]
  have tZ:DpL ss cy cs (ss.length-lv-1):=λk hk f e=>by
   have#[a,_,d]:=kd.of hk;have#[f',e',iF]:=d.lv w3;rw[e] at e';cases e';omega
  let#[_,S5,#[r,tL,l5,rfl,gd,j5]]:=hj j4.js exc ⋯ ⋯ tZ (kd.vb w3 (va.mono h.wf j3.pre ex) es hi) ⋯ ⋯;ext;have dD:¬wJ fn dn kn S1.length:=λz=>by
   have q:∀{n:Nat} {d:Ce},S[n]? =eV d->S1.length≠n:=λ{n d} e z=>by have:=(uT.1 e).1;omega
   have#[_,_,z1,z2]:=h.st.fd';rcases z with z|z|z;show q z1 z;show q z2 z;show q h.kd z
  have mn:=j5.kp.2 _ _ lg dD;have qY:=j4.trans j5;show Tu (ZL mn) (by rw[yA];show Yg ⋯) ?_;show#[tL,l5,ks++[r],_,_,rfl,(qY.set h sH).more ⋯,?_,by simp[eS],λm k e=> ?_];rw[wq mn,Zp];rcases As m ks.length with dA|dA|dA;rw[v5 dA] at e;have#[cs',d1,g]:=eZ m k e;show#[cs',d1.mono j5.pre,g.mono w3 j5.pre];subst dA;rw[w5 (v3 _),AU] at e;cases e;rw[eS];show#[cs,kd.mono j5.pre,gd];rw[z5 (by simp;omega)] at e;cases e
 .show#[fs,l,[],gi,gi,rfl,j1.more ⋯,ml,rfl,λm k e=>by simp at e]
 intro ρ S3 #[cy,l3,ks,a6,a7,rfl,j3,eP,eS,eZ];rw[yg] at j3 eS;have w3:=j3.js.wf;have f3:=j3.fl;have g3:=j3.ll;have h0:ks[0]? =eV ks[0]:=uV ⋯;show ye (yo ?_);calc#[_,_,rfl,j3.js.st.o,rfl,?_];let#[_,S4,#[r,dW,rfl,fo,ad,g]]:=zgV j3.js.st ⋯ eP h0 ⋯;have gM:∀k∈ks,∃f,cy[k]? =eV f/\lv<lvl ss.length f:=λk hk=>by
  have#[m,dA]:=Ab hk;have#[cs,d1,gd]:=eZ m k dA;have#[fr,q3,q4]:=gd.lv;show#[fr,q3,q4 (lv+1) λb hb f e=> ?_];have#[a,_,d]:=d1.of hb;have#[f',e',iF]:=d.lv w3;rw[e] at e';cases e';show iF
 have w4:WF ss dW:=by
  rcases ad with rfl|⟨fW,ad⟩
  .show w3
  show w3.fork g.st.nd (.inr ad) es eS gM λz=>fW λk hk=> ?_;show z k hk ks[0] (A9 _)
 have p4:=j3.pre.trans g.pre;show#[r,dW,l3,rfl,#[ex.mono p4,?_,λst hs qs v=> ?_],(j3.trans (JP.grown j3.js w4 g)).more ⋯]
 .have ji:∀q,(∀a∈as,∀f,dW[a]? =eV f->q<=lvl ss.length f)->q<=lv:=λq hq=>by
   have#[a,ig,f,ef,e]:=hm;have:=hq a ig f (xB p4 ef);omega
  obtain⟨k0,e0,⟨all,rfl⟩|⟨_,e⟩⟩:=fo;have#[f,e1,e2]:=gM r (uX e0);show#[f,xB g.pre e1,λq hq=>by have:=ji q hq;omega];show#[_,e,λq hq=>ji q hq]
 have#[m,em,dA]:=hs.get es;have ek:ks[m]? =eV ks[m]:=uV ⋯;have#[cs,d1,gd]:=eZ m _ ek;have#[h3,u3]:=(gd.mono w3 g.pre).va st hs qs ((d1.mono g.pre).va v em);show#[_,fo.va em ek u3]
end
section
variable{F:kx Q2->Q2}{G:kx Q2->Prop}
def zsD{f:zN}{i:Nat}(w:WF ss fs)(e:fs[i]? =eV f)(h:isF f=hG):lvl ss.length f<ss.length:=by
 cases f with
 |leaf q=>cases h
 |fork lv ks=>
  have#[#[s,es,_],_]:=w.ok i lv ks e;show(uT.1 es).1
def ziv(sn fn dn:Nat)(bl:kx Xv)(ss:kx Nat)(G:kx Q2->Prop)(F:kx Q2->Q2)(xs:Xv):Prop:=∃(L:xD) (b7:kx Xv) (tw:kx Xv->TwF),xs= .lam L b7/\YZ [(zcp,zfr),(zcq,zfs)] L=eV tw/\
 ∀{S:Sto} {fs:kx zN} {as:kx Nat},yU sn fn dn (.tup bl) fs S->WF ss fs->ExL fs as->1<=as.length->as.length<=12->VbL G ss fs as->fs.length+1<=1000000->W (tw b7 [TM as] S) λw S'=>(w= .non/\(∃a∈as,∃f,fs[a]? =eV f/\isF f=hG)/\S<+:S')\/∃(r:Nat) (fs':kx zN),w= .int (r:Int)/\Tg ss F fs' as r/\WF ss fs'/\yQ sn fn dn (.tup bl) fs 1 S fs' S'
def zum(ex:ExL fs as)(h:∃a∈as,∃f,fs[a]? =eV f/\isF f=hG)(w:WF ss fs):∃lv s,ss[lv]? =eV s/\(∀a∈as,∀f,fs[a]? =eV f->lv<=lvl ss.length f)/\∃a∈as,∃f,fs[a]? =eV f/\lvl ss.length f=lv:=by
 have key:∀as:kx Nat,as≠[]->ExL fs as->∃a∈as,∃f,fs[a]? =eV f/\∀b∈as,∀g,fs[b]? =eV g->lvl ss.length f<=lvl ss.length g:=by
  intro as
  induction as with
  |nil=>intro h;show absurd rfl h
  |cons a r ih=>
   intro _ ex;have#[f,ef]:=ex a y6;cases r with
   |nil=>show#[a,y6,f,ef,λb hb g eg=>by
     rw[A7] at hb;subst hb;rw[ef] at eg;cases eg
     show v3 _]
   |cons b t=>
    have#[a',hm,f',ef',hl]:=ih (by simp) λb hb=>ex b (w6 _ hb);by_cases q:lvl ss.length f<=lvl ss.length f';show#[a,y6,f,ef,λb' hb g eg=> ?_];rcases x8.1 hb with rfl|hb;rw[ef] at eg;cases eg;show v3 _;show v7 q (hl b' hb g eg);show#[a',w6 _ hm,f',ef',λb' hb g eg=> ?_];rcases x8.1 hb with rfl|hb;rw[ef] at eg;cases eg;omega;show hl b' hb g eg
 have#[a0,q9,f0,e0,hF]:=h;have#[a,hm,f,ef,hl]:=key as (by rintro rfl;cases q9) ex;have gL:lvl ss.length f<ss.length:=y0 (hl a0 q9 f0 e0) (zsD w e0 hF);show#[_,_,uV gL,hl,a,hm,f,ef,rfl]
def zmb(bh:Bx ss bl)(hr:ziv sn fn dn bl ss G F xs):∀(d N:Nat),2*d+1<=N->Jn G fu sn fn dn kn bl ss F xs (yf N) d (cst ss d):=by
 have#[L,b7,tw,rfl,hp,ht]:=hr;intro d
 induction d using Fs with
 |_ d ih=>
  intro N hN S fs l as h ex h1 gZ dp va hf hl;obtain⟨N,rfl⟩:∃M,N=M+1:=#[N-1,⋯];have c2:2<=cst ss d:=by unfold cst;cases ss.drop (ss.length-d)<;>simp[wt]
  rw[Yc];delta Ym;show zo (zaj (λρ S2=>∃(a4:pf Xv) (r:Nat) (fs':kx zN) (l':kx (NK×Xv×Xv)),ρ=[eV (.ref sn),eV (TM as),eV (.lam L b7),eV (.ref kn),a4]/\Tg ss F fs' as r/\yN l' (kL as)=eV (.int (r:Int))/\JP sn fn dn kn (.tup bl) ss F (cst ss d) fs l S fs' l' S2) (zG ?_) ?_)
  .show xg (zkX ?_);ext;show#[_,Tr h.kd (Xw as) rfl,_,rfl,λz=> ?_,λz=>zv ?_]
   .show zo (zO (zdG rfl hp ?_));calc(ht h.st h.wf ex h1 gZ va ⋯).imp ?_;rintro w S1 (⟨rfl,hF,p⟩|⟨i,de,rfl,gd,w1,g⟩)
    .dsimp only[v8];show Uq (Wh (xg (znS ?_)));calc WO.of (show zjr .non S1=eV (.bl hG,S1) from rfl) #[_,rfl,λ_=> ?_,nofun];have j1:=h.jp p;show yo ?_;calc#[_,_,rfl,j1.js.st.o,rfl,?_];ext;have#[lv,s,es,l1,l3]:=zum ex hF h.wf;have jL:=(uT.1 es).1;have uK:ss.length<=lv+d:=by
      have#[a,ig,f,ef,e]:=l3;have:=dp a ig f ef;omega
     obtain⟨M,rfl⟩:∃M,N=M+1:=#[N-1,⋯];rw[vn];have hc:2+s*cst ss (ss.length-lv-1)<=cst ss d:=by
      rw[<-zgW es];show zbp (λt ht=>(bh.siz t ht).1) ⋯
     let#[_,S2,#[r,aM,qV,rfl,gd,j2]]:=zoE bh (ih (ss.length-lv-1) ⋯ M ⋯) j1.js ex h1 gZ es l1 l3 va ⋯ ⋯;ext;have jl:=j2.ll;show#[_,zgX j2.js.kd (Xw as) rfl (y0 (show qV.length<=1000000 by omega) ∅),_,r,aM,_,rfl,gd,?_,((j1.trans j2).trans (j2.js.put gd)).more ⋯];rw[zgY,GO rfl]
    dsimp only[v8];show Uq (Wh (xg (znS ?_)));calc WO.of (show zjr (.int (i:Int)) S1=eV (.bl mK,S1) from rfl) #[_,rfl,λz=>(by cases z),λ_=> ?_];ext;have j1:=JP.grown h w1 g;show#[_,zgX j1.js.kd (Xw as) rfl (y0 (show l.length<=1000000 by omega) ∅),_,i,de,_,rfl,gd,?_,(j1.trans (j1.js.put gd)).more ⋯];rw[zgY,GO rfl]
   cases e:yN l (kL as) with
   |none=>rw[e] at z;cases z
   |some y=>
    have#[as',r,e1,rfl,gd]:=h.kl _ _ e;obtain rfl:=zj8 e1;show#[gi,r,fs,l,rfl,gd,e,(h.jp (Ae _)).more ⋯]
  intro _ S2 #[a4,r,fs',l',rfl,gd,hv,j];show ye (vh ?_);ext;show#[_,by rw[Tr j.js.kd (Xw as) rfl,hv],r,fs',l',rfl,gd,j]
def zmc(bh:Bx9 ss bl)(hr:ziv sn fn dn bl ss G F xs)(h:yU sn fn dn (.tup bl) fs S)(w:WF ss fs)(ex:ExL fs as)(h1:1<=as.length)(gZ:as.length<=12)(va:VbL G ss fs as)(hf:fs.length+cst ss ss.length<=1000000)(hc:cst ss ss.length<=1000000):
  W (yf 24 [.ref sn,TM as,xs,.ref S.length] (S++[.dk []])) λv S'=>∃(r:Nat) (fs':kx zN),v= .int (r:Int)/\Tg ss F fs' as r/\WF ss fs'/\yQ sn fn dn (.tup bl) fs (cst ss ss.length) S fs' S':=by
 have p:=uW S [Ce.dk []];have hd:=h.flt.2;have js:JS sn fn dn S.length (.tup bl) ss F fs [] (S++[.dk []]):=#[h.pre p,w,yz,λk y e=>by simp[yN] at e,⋯];let#[_,S2,#[r,aM,l2,rfl,gd,j]]:=zmb bh.toBx hr ss.length 24 (by have:=bh.l9;omega) js ex h1 gZ (λa ha f e=>by omega) va hf (by simpa using hc);show#[r,aM,rfl,gd,j.js.wf,#[j.js.st,j.pre,j.fl,#[by have:=j.kp.1;rw[y7] at this;omega,λn c e nw=> ?_]]];have hn:=(uT.1 e).1;show j.kp.2 _ _ (xB p e) λz=>by
  rcases z with z|z|z;show nw (.inl z);show nw (.inr z);omega
noncomputable def chQ:kx Q2->Q2
 |c::qs=>qs.getD c.1.toNat (0,1)
 |[]=>(0,1)
def chG:kx Q2->Prop
 |c::qs=>0<=c.1/\c.1.toNat<qs.length
 |[]=>False
def zka(hz:∃st,yw ss st):ziv sn fn dn bl ss chG chQ (.lam zcq [.ref sn]):=#[zcq,[.ref sn],zfs,rfl,(Vk ∅).trans XJ,λ{S fs as} h w ex h1 gZ va hf=>by
 cases as with
 |nil=>simp at h1
 |cons a r=>
  have#[f,ef]:=ex a y6;unfold zfs;show XL rfl rfl ?_;unfold zud;dsimp only[Ak,Bo,BI,C5];show yo ?_;calc#[_,_,rfl,h.o,rfl,?_];ext;delta wU;have#[fx,fl,fm,fN,f6]:=h.fact ef;show zo (zO (zM (xm ?_)));calc#[_,_,_,rfl,h.o,rfl,?_];calc zE rfl (yd (i:=0) (show(ksX (a::r))[0]? =eV (.int (a:Int)) from rfl)) ?_;show wD fN f6 ?_;dsimp only[v8];cases f with
  |fork lv ks=>
   change fx=_ at fm;subst fm;show ye (Wh ?_);calc zF #[_,rfl,λ_=> ?_,λz=>absurd z ∅];ext;show .inl #[rfl,#[a,y6,_,ef,rfl],Ae _]
  |leaf q=>
   have#[yq,rfl,rC]:=fm;have#[st,fI]:=hz;have#[hV,v0]:=VaL.ex w fI ex;have g0:=va st fI hV v0;have pZ:∀st',yw ss st'->∀qs,VaL fs st' (a::r) qs->∃qr,qs=q::qr/\qr.length=r.length:=λst' gJ qs v=>by
    cases qs with
    |nil=>have:=v.1;simp at this
    |cons p qr=>
     have#[_,u]:=v.2 0 a p rfl rfl;have:=u.uniq (.leaf (h:=0) ef);subst this;show#[qr,rfl,by have:=v.1;simp at this;omega]
   have#[qO,rfl,uD]:=pZ st fI hV v0;have#[c0,c1]:=(show 0<=q.1/\q.1.toNat<qO.length from g0);have er:r[q.1.toNat]? =eV r[q.1.toNat]:=uV ⋯;generalize r[q.1.toNat]=k at er;show ye (Wh ?_);calc zF #[_,rfl,λz=>absurd z ∅,λ_=> ?_];calc zE rC WL ?_;calc zE rfl (show atI (ksX (a::r)) (1+q.1)=eV (.int (k:Int)) from ?_) ?_;rw[show 1+q.1=((1+q.1.toNat:Nat):Int) by omega];show yd ?_;rw[EI];change(ksX r)[q.1.toNat]? =_;show zaF er;show .inr #[k,fs,rfl,#[ex,?_,λst' gJ qs v=> ?_],w,h.grown.more ⋯];have#[fk,ek]:=ex k (w6 _ (uX er));show#[fk,ek,λl hl=>hl k (w6 _ (uX er)) fk ek];have#[qr,rfl,uB]:=pZ st' gJ qs v;have eq:qr[q.1.toNat]? =eV qr[q.1.toNat]:=uV ⋯;have#[hh,u]:=v.2 (q.1.toNat+1) k qr[q.1.toNat] (by simpa using er) (by simpa using eq);show#[hh,?_];change VA fs st' (qr.getD q.1.toNat (0,1)) hh k;rw[x9,eq]
   show u]
end
section
noncomputable def prd:kx Nat->Nat
 |[]=>1
 |s::r=>s*prd r
noncomputable def idx:kx Nat->kx Nat->Nat
 |_::r,x::t=>x*prd r+idx r t
 |_,_=>0
theorem zbq:∀(r:kx Nat) (s:Nat),prd (r++[s])=prd r*s
 |[],s=>by simp[prd]
 |a::r,s=>by rw[B5,prd,prd,zbq r s,Cg]
theorem ziw:∀(r t:kx Nat) (s x:Nat),r.length=t.length->idx (r++[s]) (t++[x])=idx r t*s+x
 |[],[],s,x,_=>by simp[idx,prd]
 |[],_::_,_,_,h=>by cases h
 |_::_,[],_,_,h=>by cases h
 |a::r,y::t,s,x,h=>by
  rw[B5,B5,idx,idx,ziw r t s x (by simpa using h),zbq,E9,Cg];omega
structure wB(ss:kx Nat)(L:kx (kx Nat)):Prop where
 len:L.length=prd ss
 at_:∀(k:Nat) st,L[k]? =eV st->yw ss st/\idx ss st=k
noncomputable def zd7(s:Nat)(st:kx Nat):kx (kx Nat):=(Ac s).map λx=>st++[x]
def zbr{s:Nat}:(zd7 s st).length=s:=by simp[zd7]
def zqr{s k:Nat}(h:(zd7 s st)[k]? =eV w):k<s/\w=st++[k]:=by
 unfold zd7 at h;rw[uY] at h;cases e:(Ac s)[k]? with
 |none=>rw[e] at h;cases h
 |some x=>
  rw[e] at h;cases h;have#[h1,h2]:=uT.1 e;simp at h1 h2;show#[h1,by rw[h2]]
theorem zla{s:Nat}(hs:0<s):∀(L:kx (kx Nat)) (k:Nat) (w:kx Nat),(L.flatMap (zd7 s))[k]? =eV w->∃st,L[k / s]? =eV st/\w=st++[k % s]
 |[],k,w,h=>by simp at h
 |a::L,k,w,h=>by
  rw[F7] at h;by_cases hk:k<s;rw[v5 (by rw[zbr];show hk)] at h;have#[h1,h2]:=zqr h;show#[a,by rw[Nat.div_eq_of_lt hk];rfl,by rw[Nat.mod_eq_of_lt hk];show h2];rw[w5 (by rw[zbr];omega),zbr] at h;have#[st,h1,h2]:=zla hs L (k-s) w h;have hd:k / s=(k-s) / s+1:=Nat.div_eq_sub_div hs ⋯;have hm:k % s=(k-s) % s:=Nat.mod_eq_sub_mod ⋯;show#[st,by rw[hd];show h1,by rw[hm];show h2]
theorem zd8{s:Nat}:∀(L:kx (kx Nat)),(L.flatMap (zd7 s)).length=L.length*s
 |[]=>by simp
 |a::L=>by rw[F7,y7,zbr,zd8 L,y4,Ax];omega
def yw.snoc{s x:Nat}(h:yw ss st)(hx:x<s):yw (ss++[s]) (st++[x]):=by
 show#[by simp[h.1],λi a t e1 e2=> ?_];rcases As i ss.length with hi|hi|hi;rw[v5 (by rw[h.1];show hi)] at e1;rw[v5 hi] at e2;show h.2 i a t e1 e2;subst hi;rw[w5 (v3 _),AU] at e2;rw[w5 (Be h.1),h.1,AU] at e1;cases e1;cases e2;show hx;rw[z5 (by simp;omega)] at e2;cases e2
def wB.ext{s:Nat}(h:wB ss L)(hs:0<s):wB (ss++[s]) (L.flatMap (zd7 s)):=by
 show#[by rw[zd8,h.len,zbq],λk w e=> ?_];have#[st,h1,rfl]:=zla hs L k w e;have#[h2,h3]:=h.at_ _ st h1;show#[h2.snoc (Ft _ hs),?_];rw[ziw _ _ _ _ h2.1.symm,h3,BE];show Fu k s
def wB.nil:wB [] [[]]:=#[rfl,λk st e=>by
 cases k with
 |zero=>cases e;show#[#[rfl,λi x s e=>by simp at e],rfl]
 |succ k=>simp at e]
def XC(L:kx (kx Nat)):kx Xv:=L.map λst=> .tup (ksX st)
def zmd(h:yn S y=eV zs):Yw S y=eV zs:=by
 cases y with
 |ref n=>show h
 |_=>cases h
def zme(h:zag S x=eV (n,l))(h2:yn S y=eV zs)(hl:l.length+zs.length<=FU)(k:P .non (S.set n (.lst (l++zs)))):WO (XG x [y] S) P:= .of (by
 unfold XG;rw[h];dsimp only
 rw[show Yw S y=eV zs from zmd h2,z0,GO hl]) k
def TC(h:a.length+b.length<=1000)(k:P (.tup (a++b)) S):WO (XH (.tup a) (.tup b) S) P:= .of (by unfold XH;show GO (A3 (y0 h ∅))) k
def zsE(h:n<=1000):n<FU:=y0 h ∅
noncomputable abbrev K0:Nat->Prop:=λ_=>False
def zbs{L:kx (kx Nat)}{k:Nat}{w:Xv}(h:(XC L)[k]? =eV w):∃st,L[k]? =eV st/\w= .tup (ksX st):=by
 unfold XC at h;rw[uY] at h;cases e:L[k]? with
 |none=>rw[e] at h;cases h
 |some st=>rw[e] at h;cases h;show#[st,rfl,rfl]
def WQ(L:kx (kx Nat)):(XC L).length=L.length:=by simp[XC]
set_option tactic.hygienic true in
theorem zcw:∀(ss:kx Nat) (k:Nat),(∀s∈ss,1<=s)->prd (ss.take k)<=prd ss
 |_,0,h=>by
  rename_i ss;simp only[El,prd]
  induction ss with
  |nil=>show v3 _
  |cons s r ih=>
   have:=ih λt ht=>h t (w6 _ ht);have:=h s y6;show Bj ⋯ ⋯
 |[],k+1,_=>by simp
 |s::r,k+1,h=>by
  rw[List.take_succ_cons,prd,prd];show Ao _ (zcw r k λt ht=>h t (w6 _ ht))
def yw.len9{L:kx (kx Nat)}{k:Nat}(h:wB ss L)(e:L[k]? =eV st):st.length=ss.length:=(h.at_ k st e).1.1
def zoF(bh:Bx ss bl)(h9:ss.length<=9)(hp:prd ss<=1000):W (Zm [.tup bl] S) λv S'=>∃(n:Nat) (L:kx (kx Nat)),v= .ref n/\S'[n]? =eV (.lst (XC L))/\wB ss L/\S.length<=n/\Kp K0 S S':=by
 delta Xt;calc xM (zch ?_);ext;have fZ:∀s∈ss,1<=s:=λs hs=>(bh.siz s hs).1;show yZ (xs:=bl) (λi ρ S1=>∃(n:Nat) (L:kx (kx Nat)) (a2 a3 a4:pf Xv),ρ=[eV (.tup bl),eV (.ref n),a2,a3,a4]/\S1[n]? =eV (.lst (XC L))/\wB (ss.take i) L/\S.length<=n/\Kp K0 S S1) (λ_ _ _ _ _=>rfl) ?_ ?_ ?_
 .intro i w ρ S1 hw #[n,L,a2,a3,a4,rfl,hn,gl,iU,k1];have hi:i<ss.length:=by rw[<-bh.len];show(uT.1 hw).1
  have es:ss[i]? =eV ss[i]:=uV hi;have#[nm,hb]:=bh.at_ i _ es;rw[hw] at hb;cases hb;have iD:=bh.siz _ (A9 hi);have oO:=gl.ext (s:=ss[i]) iD.1;have htk:ss.take i++[ss[i]]=ss.take (i+1):=by rw[Aa hi]
  rw[htk] at oO;have kZ:(L.flatMap (zd7 ss[i])).length<=1000:=by rw[oO.len];show v7 (zcw ss _ fZ) hp
  show .of rfl ?_;dsimp only[v8];calc xM (TX ?_);ext;have k2:Kp K0 S (S1++[.lst []]):=k1.app;have eY:=xB (uW S1 [Ce.lst []]) hn;have sv:=(uT.1 hn).1;have tq:=k1.1;show#[_,zC eY,_,zC eY,?_];show yZ (xs:=XC L) (λj ρ S2=>∃(a4:pf Xv),ρ=[eV (.tup bl),eV (.ref n),eV (.tup [nm,.int (ss[i]:Int)]),eV (.ref S1.length),a4]/\S2[n]? =eV (.lst (XC L))/\S2[S1.length]? =eV (.lst (XC ((L.take j).flatMap (zd7 ss[i]))))/\Kp K0 S S2) (λj ρ S2 _ h=>by have#[_,_,h,_]:=h;show zC h) ?_ ?_ ?_
  .intro j w ρ S2 hw #[a4,rfl,h1,h2,k3];have#[st,g7,rfl]:=zbs hw;have rZ:st.length=i:=by rw[yw.len9 gl g7,Az];omega
   have hj:=(uT.1 g7).1;show .of rfl ?_;dsimp only[v8];show zcW (zcg ?_);calc#[#[_,zC h2],zm (xi (wT ?_))];calc#[#[⋯,⋯],_,rfl,?_];rw[z7];show yR (xs:=wk 0 ss[i]) (by rw[yg];show A3 (Yg ⋯)) (λm es S3=>S3=S2/\es=XC ((Ac m).map λx=>st++[x])) (λ_ _ _ _ _=>rfl) ?_ #[rfl,rfl] ?_;intro m w es S3 hw fq #[rfl,rfl];have#[hm,rfl]:=xu hw;rw[Bg];show .of rfl ?_;dsimp only[vw,Ak,v8];calc#[rfl,?_];calc TC (by rw[yA];simp;omega) #[rfl,?_];rw[D7,A1];simp[XC,ksX]
   intro es S3 _ #[rfl,rfl];rw[yg];ext;have mG:=xB (uW S3 [Ce.lst (XC ((Ac ss[i]).map λx=>st++[x]))]) h2;have lD:=xB (uW S3 [Ce.lst (XC ((Ac ss[i]).map λx=>st++[x]))]) h1;have o9:((L.take j).flatMap (zd7 ss[i])).length+ss[i]<=1000:=by
    rw[zd8] at kZ ⊢;rw[Az];have:(j+1)*ss[i]<=L.length*ss[i]:=z9 _ hj;rw[Ax] at this;have o3:min j L.length=j:=by omega
    rw[o3];omega
   show zme (ZL mG) xW (by rw[WQ,WQ,uZ,CK];show A3 (zsE o9)) ?_;show#[eV (.tup (ksX st)),rfl,xN lD ⋯,?_,(k3.app).set (.inr ⋯)];rw[wq mG,Aa hj,List.flatMap_append,(uT.1 g7).2];simp[XC,zd7]
  .show#[_,rfl,eY,yz,k2]
  intro ρ S2 #[a4,rfl,h1,h2,k3];rw[WQ,A4] at h2;ext;show#[S1.length,_,_,_,_,rfl,h2,oO,tq,k3]
 .show#[S.length,[[]],gi,gi,gi,rfl,yz,wB.nil,v3 _,Kp.pre (uW _ _)]
 intro ρ S1 #[n,L,a2,a3,a4,rfl,hn,gl,iU,k1];rw[bh.len,A4] at gl;ext;show#[n,L,rfl,hn,gl,iU,k1]
end
section
def zgZ(h:a.length+b.length<=FU)(k:P (.str (a++b)) S):WO (zaS (.str a) (.str b) S) P:= .of (by unfold zaS;show GO h) k
def zkb{a:Str}{lo hi:pf Int}(h:a.length<=FU)(k:P (.str (Txt.slice a lo hi)) S):WO (zdn (.str a) lo hi S) P:= .of (by unfold zdn;show GO h) k
def ZJ(h:n<=100):n<=FU:=A3 (Yg h)
def zmf{α:Type}{l:kx α}{a:α}(h:l[i]? =eV a):l.take (i+1)=l.take i++[a]:=by
 have#[hi,e]:=uT.1 h;rw[Aa hi,e]
set_option tactic.hygienic true in
def zix{k:Nat}(h:k<=z.length):(Txt.slice z gi (eV (k:Int))).length=k:=by
 have e1:CN gi (eV (k:Int)) 1 z.length=Ac k:=by
  unfold CN sliceRange;simp only[show(1:Int)>0 by decide,if_true,show ¬(k:Int)<0 by omega,if_false];have e2:max 0 (min (k:Int) (z.length:Int))=(k:Int):=by omega
  rw[e2];have e3:(if (0:Int)<(k:Int) then ((k:Int)-0+1-1) / 1 else 0).toNat=k:=by
   rw[Int.ediv_one];split<;>omega
  rw[e3]
  conv=>rhs;rw[<-List.map_id (Ac k)]
  show EC λj _=> ?_;change(0+1*(j:Int)).toNat=j;omega
 unfold Txt.slice;rw[e1];split;rename_i hh;rw[CK] at hh;simp at hh;show hh.symm;change (List.filterMap _ _).toArray.size=_;rw[v9,ze7 z.cps k,Az];change min k z.length=k;omega
def zsF(h0:0<=v)(h1:v<26):zhH (.str "abcdefghijklmnopqrstuvwxyz") (.int v) S=eV (.str #[[97+v.toNat].toArray],S):=by
 have all:∀n:Fin 26,(Str.ofString "abcdefghijklmnopqrstuvwxyz").cps.toList[n.1]? =eV (97+n.1):=by decide
 obtain⟨n,rfl⟩:∃n:Nat,v=n:=#[v.toNat,⋯];have e:=all #[n,⋯];unfold zhH ztC;dsimp only;rw[GO ∅,zbQ ⋯ (by rw[z7];show e)];rfl
def zoG{k:Nat}(hk:k<=8):W (Zj [.int n,.int (k:Int)] S) λv S'=>∃z:Str,v= .str z/\z.length=k/\(k=1->z=#[[97+(n % 26).toNat].toArray])/\S'=S:=by
 delta VH;calc xM (wT ?_);calc#[#[⋯,⋯],_,rfl,?_];show yZ (λi ρ S2=>∃(m:Int) (z:Str) (a3:pf Xv),ρ=[eV (.int m),eV (.int (k:Int)),eV (.str z),a3]/\z.length=i/\(i=0->m=n/\z="")/\(i=1->z=#[[97+(n % 26).toNat].toArray])/\S2=S) (λ_ _ _ _ _=>rfl) ?_ ?_ ?_;intro i w ρ S2 hw #[m,z,a3,rfl,hz,h0,h1,rfl];have#[hi,rfl]:=xu hw;show .of rfl ?_;dsimp only[v8];calc vQ ∅ ?_;show WO.of (zsF (S:=S2) (Ap m (show(26:Int)≠0 by decide)) (Av m (show(0:Int)<26 by decide))) ?_;have hc:(#[[97+(m % 26).toNat].toArray]:Str).length=1:=rfl;show zgZ (ZJ ⋯) ?_;calc zgf ∅ ?_;calc#[_,_,_,rfl,by rw[Str.length_append];omega,(λh=>by omega),λh=> ?_,rfl];have#[rfl,rfl]:=h0 ⋯;rfl;show#[n,_,gi,rfl,rfl,λ_=>#[rfl,rfl],(λh=>by cases h),rfl];intro ρ S2 #[m,z,a3,rfl,hz,_,h1,rfl];rw[yg,z7] at hz h1;ext;show#[hz,h1,rfl]
noncomputable def WR(zs:kx Str):kx Xv:=zs.map Xv.str
def zkc(g:Nat->Str)(hs:size<=100)
  (hn:W (n ρ S) λv S'=>v= .int (size:Int)/\S'=S)
  (he:∀k:Nat,k<size->W (e ((vw cap ρ).set 0 (eV (.int (k:Int)))) S) λv S'=>v= .str (g k)/\S'=S)
  (k:P (.ref S.length) (S++[.lst (WR ((Ac size).map g))])):W (xt cap (iR1 n) (gN 0) xl e ρ S) P:=by
 show xi (wT (hn.imp ?_));intro _ S1 #[rfl,rfl];show#[_,rfl,#[⋯,⋯],_,rfl,?_];show yR (by rw[yg];show ZJ ⋯) (λi es S2=>S2=S1/\es=WR ((Ac i).map g)) (λ_ _ _ _ _=>rfl) ?_ #[rfl,rfl] ?_;intro i w es S2 hw fq #[rfl,rfl];have#[hi,rfl]:=xu hw;rw[Bg];show .of rfl ?_;calc#[rfl,?_];let#[_,S3,#[rfl,rfl]]:=he i ⋯;show#[rfl,by rw[D7];simp[WR]];intro es S2 hlen #[rfl,rfl];rw[yg,z7];show k
def zkd(g:Nat->Str)(h2:∀i j,i<j->j<m->g i≠g j):((Ac m).map g).Nodup:=by
 rw[List.nodup_iff_pairwise_ne,List.pairwise_map];show FP (R:=λa b=>a<b) (λ{a b} ha hb iq=>h2 a b iq (Ba.1 hb)) List.pairwise_lt_range
def yb.app(h:yb mx ln S):yb mx ln (S++T):=h.keep (Kp.pre (w:=λ_=>False) (uW _ _)) id
def yb.lt(h:yb mx ln S):ln<S.length:=by
 have#[ns,en,_]:=h;show(uT.1 en).1
noncomputable def Wa:kx Str:=["pass","end","lost","set","hand","draw","if","gain","while","look","times","leaf","fork"]
def zqs{m:Nat}(hl:yb mx ln S)(hm:m<=9):W (Wu [.ref ln,.int (m:Int)] S) λv S'=>∃(n:Nat) (zs:kx Str),v= .ref n/\zs.length=m/\zs.Nodup/\S'[n]? =eV (.lst (WR zs))/\S.length<=n/\yb mx ln S'/\Kp (· =ln) S S':=by
 delta Wt;let#[_,S1,#[way,rfl,w0,w1,l1,k1]]:=xO hl ∅;calc zG ?_;ext;show yS (λhc=> ?_) (λhc=> ?_)
 .ext;let#[_,S2,#[tn,rfl,t0,t1,l2,k2]]:=xO l1.app ∅;show ye ?_;have hn:¬S1.length=ln:=by have:=l1.lt;omega
  have e2:=k2.2 _ _ yz hn;have dH:∀i j:Fin 13,Wa[i.1]? =Wa[j.1]? ->i=j:=by decide
  have hw:∀i:Nat,i<13->Wa[i]? =eV (Wa.getD i ""):=λi hi=>by
   rw[x9,uV (show i<Wa.length from hi)];rfl
  show zkc (λj=>Wa.getD ((tn+(j:Int)) % 13).toNat "") (size:=m) ⋯ (by ext;show#[rfl,rfl]) ?_ ?_
  .intro k hk;dsimp only[vw,Ak,v8];calc vQ ∅ ?_;have h0:=Ap (tn+(k:Int)) (show(13:Int)≠0 by decide);have h1:=Av (tn+(k:Int)) (show(0:Int)<13 by decide);have e3:(Wa.map Xv.str)[((tn+(k:Int)) % 13).toNat]? =eV (.str (Wa.getD ((tn+(k:Int)) % 13).toNat "")):=by rw[uY,hw _ ⋯];rfl
   show wD (zC e2) (zbQ h0 e3) #[rfl,rfl]
  have kk:=k1.trans ((Kp.pre (uW _ _)).trans k2);show#[_,_,rfl,by simp,zkd _ λi j qd hj e=> ?_,yz,kk.1,l2.app,kk.app];have h0:=Ap (tn+(i:Int)) (show(13:Int)≠0 by decide);have h1:=Av (tn+(i:Int)) (show(0:Int)<13 by decide);have h2:=Ap (tn+(j:Int)) (show(13:Int)≠0 by decide);have h3:=Av (tn+(j:Int)) (show(0:Int)<13 by decide)
  have:=dH #[((tn+(i:Int)) % 13).toNat,⋯] #[((tn+(j:Int)) % 13).toNat,⋯] (by
   dsimp only;rw[hw _ ⋯,hw _ ⋯]
   show congrArg eV e)
  have:=congrArg Fin.val this;dsimp only at this;omega
 let#[_,S2,#[c,rfl,c0,c1,l2,k2]]:=xO l1 ∅;let#[_,S3,#[z,rfl,hz,_,rfl]]:=zoG (k:=8) ∅;have kk:=k1.trans k2;show zo (zG (Wg ?_));ext;have go:∀{N:Rho->Sto->Prop} {R:Xv->Sto->Prop},(∀S4,yb mx ln S4->Kp (· =ln) S S4->∀zs:kx Str,zs.length=m->zs.Nodup->R (.ref S4.length) (S4++[.lst (WR zs)]))->WS (zw (zH (zx (zJ) [zi 0,qx 1664]) (gN 6)) (zw (zH (eOp wL (qx 1) (eOp Xz (zi 6) (qx 8))) (gN 7)) (zw (zH (eOp Xz (eOp zce (zi 6) (qx 8)) (zi 7)) (gN 8)) (zR (xt [gi,eV 5,eV 7,eV 8,eV 6] (iR1 (zi 1)) (gN 0) xl (eOp zaS (eOp zaS (eSl zdn (zi 1) oNo (VQ (zi 3))) (zx (Zj) [eOp wL (eOp zce (zi 4) (qx 64)) (zi 0),qx 1])) (eSl zdn (zi 1) (VQ (eOp wL (zi 3) (qx 1))) (VQ (zi 2)))))))) [eV (.ref ln),eV (.int (m:Int)),eV (.int way),gi,gi,eV (.str z),gi,gi,gi] S3) N R:=by
  intro N R fin;let#[_,S4,#[d,rfl,d0,d1,l4,k4]]:=xO l2 ∅;calc vQ ∅ ?_;calc zgf ∅ ?_;ext;have:=Ap d (show(8:Int)≠0 by decide);show vQ ⋯ ?_;show ye ?_;show zkc (λj=>Txt.slice z gi (eV (d / 8 % (1+d % 8)))++(#[[97+((d / 64+(j:Int)) % 26).toNat].toArray]:Str)++Txt.slice z (eV (d / 8 % (1+d % 8)+1)) (eV (1+d % 8))) (size:=m) ⋯ (by ext;show#[rfl,rfl]) ?_ ?_;intro k hk;dsimp only[vw,Ak,v8];calc zkb (ZJ ⋯) ?_;calc zgf ∅ ?_;let#[_,S5,#[z1,rfl,nB,nA,rfl]]:=zoG (k:=1) ∅;have s1:=Txt.slice_le z gi (eV (d / 8 % (1+d % 8)));show zgZ (ZJ ⋯) ?_;calc zkb (ZJ ⋯) ?_;have s2:=Txt.slice_le z (eV (d / 8 % (1+d % 8)+1)) (eV (1+d % 8));show zgZ (ZJ (by rw[Str.length_append];omega)) ?_;rw[nA rfl];show#[rfl,rfl];show fin S4 l4 (kk.trans k4) _ (by simp) (zkd _ λi j qd hj e=> ?_);have e2:=congrArg (λs:Str=>s.cps.toList) e;have iZ:∀a b:Str,(a++b).cps.toList=a.cps.toList++b.cps.toList:=λa b=>De
  try dsimp only at e2
  rw[iZ,iZ,iZ,iZ,C6,C6] at e2;have e3:=List.append_cancel_left e2;have e4:=(List.cons.inj e3).1;omega
 have fin:∀S4,yb mx ln S4->Kp (· =ln) S S4->∀zs:kx Str,zs.length=m->zs.Nodup->∃(n:Nat) (zs':kx Str),Xv.ref S4.length= .ref n/\zs'.length=m/\zs'.Nodup/\(S4++[Ce.lst (WR zs)])[n]? =eV (.lst (WR zs'))/\S.length<=n/\yb mx ln (S4++[Ce.lst (WR zs)])/\Kp (· =ln) S (S4++[Ce.lst (WR zs)]):=λS4 l4 q4 zs hz nd=>#[_,zs,rfl,hz,nd,yz,q4.1,l4.app,q4.app];show yS (λh2=> ?_) (λh2=> ?_);calc yS (λh3=> ?_) (λh3=>zv (go fin));show ye ?_;show zkc (λj=>Txt.slice z gi (eV ((j:Int)+1))) (size:=m) ⋯ (by ext;show#[rfl,rfl]) ?_ ?_;intro k hk;dsimp only[vw,Ak,v8];ext;show zkb (ZJ ⋯) #[rfl,rfl];show fin _ l2 kk _ (by simp) (zkd _ λi j qd hj e=> ?_);have:=congrArg Str.length e;have e1:=zix (z:=z) (k:=i+1) ⋯;have e2:=zix (z:=z) (k:=j+1) ⋯;rw[Fv,Int.natCast_one] at e1 e2;rw[e1,e2] at this;omega;show#[nofun,λ_=>zv (go fin)]
noncomputable def zun(b:Str×Nat):Xv:= .tup [.str b.1,.int (b.2:Int)]
def bsX(bs:kx (Str×Nat)):kx Xv:=bs.map zun
def vA(bs:kx (Str×Nat)):(bsX bs).length=bs.length:=by simp[bsX]
def zke(h:p.natAbs<2^60):intBits p<=60:=B4.mpr h
def zcx(h1:∀b∈bs,1<=b.2/\b.2<=9)(h9:bs.length<=9):Bx9 (bs.map (·.2)) (bsX bs):=by
 show#[#[by simp[bsX],λi s e=> ?_,λs hs=> ?_],by simpa using h9]
 .rw[uY] at e;cases e2:bs[i]? with
  |none=>rw[e2] at e;cases e
  |some b=>
   rw[e2] at e;cases e;show#[.str b.1,by unfold bsX;rw[uY,e2];rfl]
 have#[b,hb,rfl]:=Ad.1 hs;have:=h1 b hb;omega
def zqt{most:Nat}(oN:1<=most/\most<=1000)(hl:yb mx ln S):W (Ww [.ref ln,.int (most:Int)] S) λv S'=>∃bs:kx (Str×Nat),v= .tup (bsX bs)/\(∀b∈bs,1<=b.2/\b.2<=9)/\bs.length<=9/\prd (bs.map (·.2))<=most/\(bs.map (·.1)).Nodup/\yb mx ln S'/\Kp (· =ln) S S':=by
 delta Wv;let#[_,S1,#[c,rfl,c0,c1,l1,k1]]:=xO hl ∅;calc zaj (λρ S2=>∃m:Nat,m<=9/\ρ=[eV (.ref ln),eV (.int (most:Int)),eV (.int (m:Int)),gi,gi,gi,gi]/\S2=S1) (zG ?_) ?_;calc yS (λhc=> ?_) (λhc=> ?_);calc vQ ∅ ?_;ext;have h0:=Ap c (show(3:Int)≠0 by decide);have h1:=Av c (show(0:Int)<3 by decide);show#[(1+c % 3).toNat,⋯,by rw[Bs ⋯],rfl];show zv #[c.toNat,⋯,by rw[Bs ⋯],rfl];intro _ _ #[m,hm,rfl,rfl];calc xM (TX ?_);let#[_,S2,#[n,zs,rfl,hz,dH,e2,hn,l2,k2]]:=zqs l1 hm;have kg:=l1.lt;show#[_,zC e2,_,zC e2,?_];show yZ (xs:=WR zs) (λi ρ S3=>∃(bs:kx (Str×Nat)) (a5 a6:pf Xv),ρ=[eV (.ref ln),eV (.int (most:Int)),eV (.int (m:Int)),eV (.tup (bsX bs)),eV (.int (prd (bs.map (·.2)):Int)),a5,a6]/\bs.map (·.1)=zs.take i/\(∀b∈bs,1<=b.2/\b.2<=9)/\1<=prd (bs.map (·.2))/\prd (bs.map (·.2))<=most/\yb mx ln S3/\Kp (· =ln) S2 S3) ?_ ?_ ?_ ?_;intro i ρ S3 _ #[bs,a5,a6,_,_,_,_,_,l3,k3];show zC (k3.2 _ _ e2 (show ¬n=ln by omega))
 .intro i w ρ S3 hw #[bs,a5,a6,rfl,gO,jt,p0,p1,l3,k3];unfold WR at hw;rw[uY] at hw;cases m8:zs[i]? with
  |none=>rw[m8] at hw;cases hw
  |some z=>
   rw[m8] at hw;cases hw;have hi:i<zs.length:=(uT.1 m8).1;have t5:bs.length=i:=by
    have:=congrArg E8 gO;rw[uZ,Az] at this;omega
   show .of rfl ?_;dsimp only[v8];let#[_,S4,#[d,rfl,d0,d1,l4,k4]]:=xO l3 ∅;calc zaj (λρ S5=>∃s0:Int,1<=s0/\s0<=9/\ρ=[eV (.ref ln),eV (.int (most:Int)),eV (.int (m:Int)),eV (.tup (bsX bs)),eV (.int (prd (bs.map (·.2)):Int)),eV (.str z),eV (.int s0)]/\S4=S5) (zG (Wg ?_)) ?_;have no:∃s0:Int,1<=s0/\s0<=9/\([eV (.ref ln),eV (.int (most:Int)),eV (.int (m:Int)),eV (.tup (bsX bs)),eV (.int (prd (bs.map (·.2)):Int)),eV (.str z),eV (.int (1+d))]:Rho)=[eV (.ref ln),eV (.int (most:Int)),eV (.int (m:Int)),eV (.tup (bsX bs)),eV (.int (prd (bs.map (·.2)):Int)),eV (.str z),eV (.int s0)]/\S4=S4:=#[1+d,⋯,⋯,rfl,rfl];calc#[λ_=> ?_,λ_=>#[nofun,λ_=>zv no]];calc#[λ_=> ?_,λ_=>zv no];calc vQ ∅ ?_;ext;have h0:=Ap (1+d) (show(3:Int)≠0 by decide);have h1:=Av (1+d) (show(0:Int)<3 by decide);show#[1+(1+d) % 3,⋯,⋯,rfl,rfl]
   intro _ _ #[s0,s1,s2,rfl,rfl];generalize hp:prd (bs.map (·.2))=p at p0 p1;calc zdy #[⋯,v7 (zke ⋯) ∅] ?_;rw[AK _ ⋯];ext;have q0:1<=most / p:=(Nat.le_div_iff_mul_le ⋯).2 ⋯;have q1:p*(most / p)<=most:=Nat.mul_div_le most p;rw[show(most:Int) / (p:Int)=((most / p:Nat):Int) by rw[Int.natCast_ediv]];generalize hs:(if ((most / p:Nat):Int)<s0 then ((most / p:Nat):Int) else s0)=sz;obtain⟨s,rfl⟩:∃s:Nat,sz=(s:Int):=#[sz.toNat,by split at hs<;>omega];have iD:1<=s/\s<=9/\s<=most / p:=by split at hs<;>omega
   show WO.of (show XH (.tup (bsX bs)) (.tup [.tup [.str z, .int (s : Int)]]) S4 = eV (.tup (bsX bs ++ [.tup [.str z, .int (s : Int)]]), S4) by
    unfold XH
    show GO (by rw[vA];show ZJ (by simp;omega))) ?_
   ext;have kc:p*s<=most:=v7 (Ao p iD.2.2) q1;show xx (by have:=zke (p:=(p:Int)) ⋯;have:=zke (p:=(s:Int)) ⋯;omega) ?_;ext;have nT:prd ((bs++[(z,s)]).map (·.2))=p*s:=by rw[A1];change prd (bs.map (·.2)++[s])=_;rw[zbq,hp]
   show#[bs++[(z,s)],_,_,by rw[nT,Ci,show bsX (bs++[(z,s)])=bsX bs++[.tup [.str z,.int (s:Int)]] by simp[bsX,zun]],by rw[A1,gO,zmf m8];rfl,?_,by rw[nT];show Bj p0 iD.1,by rw[nT];show kc,l4,k3.trans k4];intro b hb;rcases AQ.1 hb with hb|hb;show jt b hb;rw[A7] at hb;subst hb;show#[iD.1,iD.2.1]
 .show#[[],gi,gi,rfl,rfl,(λb hb=>by cases hb),∅,oN.1,l2,Kp.refl _]
 intro ρ S3 #[bs,a5,a6,rfl,gO,jt,p0,p1,l3,k3];ext;have e:(WR zs).length=zs.length:=by simp[WR]
 rw[e,A4] at gO;show#[jt,?_,p1,by rw[gO];show dH,l3,(k1.trans k2).trans k3];have:=congrArg E8 gO;rw[uZ] at this;omega
end
section
theorem zlb:∀{ss:kx Nat},(∀s∈ss,1<=s)->1<=prd ss
 |[],_=>v3 _
 |s::r,h=>Bj (h s y6) (zlb λt ht=>h t (w6 _ ht))
def zoH:ksX (ks++[k])=ksX ks++[.int (k:Int)]:=Zp ks k
end
section
variable{S' S2:Sto}{x y z:Xv}{kn:Nat}{bx:Xv}{fs fs':kx zN}{lv m s:Nat}{l l' l2:kx (Key×Xv)}
def zoI{k:Key}:(zdx l k x).length<=l.length+1:=by
 unfold zdx;split<;>simp
theorem ziy:∀{l:kx (Key×Xv)},ve (l.map λkv=>if kv.1=k then (kv.1,x) else kv) k'=if k'=k then (ve l k).map (λ_=>x) else ve l k'
 |[]=>by simp[ve]
 |p::r=>by
  have ih:=ziy (k:=k) (k':=k') (l:=r);unfold ve at ih ⊢;rw[y8,A5,A5,A5];by_cases h1:p.1=k;by_cases h2:k'=k;subst h1 h2;simp;have:¬p.1=k':=λe=>h2 (e.symm.trans h1);simp only[GO h1,decide_eq_false this,GP h2] at ih ⊢;show ih;by_cases h2:k'=k;subst h2;simp only[GP h1,decide_eq_false h1,if_true] at ih ⊢;show ih;simp only[GP h1,GP h2] at ih ⊢;by_cases h3:p.1=k';simp only[decide_eq_true h3];simp only[decide_eq_false h3];show ih
def zoJ{k k':Key}(h:(l.any λkv=>decide (kv.1=k))=mK):ve (l++[(k,x)]) k'=if k'=k then eV x else ve l k':=by
 unfold ve;rw[List.find?_append];by_cases h2:k'=k
 .subst h2;have:l.find? (λkv=>decide (kv.1=k'))=gi:=by
   rw[ER];intro p hp e;rw[F0] at h;show h p hp e
  rw[this];simp
 rw[GP h2];have:([(k,x)]:kx (Key×Xv)).find? (λkv=>decide (kv.1=k'))=gi:=by
  rw[A5,decide_eq_false (λe=>h2 e.symm)];rfl
 rw[this];cases l.find? (λkv=>decide (kv.1=k'))<;>rfl
set_option tactic.hygienic true in
def ziz{k k':Key}:ve (zdx l k x) k'=if k'=k then eV x else ve l k':=by
 unfold zdx;split
 .rename_i h;rw[ziy];split
  .rw[Bu] at h;have#[p,hp,e]:=h;have:ve l k≠gi:=by
    unfold ve;rw[Ne,Option.map_eq_none_iff,ER];show λz=>z p hp e
   cases e:ve l k with
   |none=>show absurd e this
   |some v=>rfl
  rfl
 rename_i h;show zoJ (F4.2 h)
structure Fxd(ss:kx Nat)(lv m:Nat)(fs:kx zN)(a r:Nat):Prop where
 le:∃fa fr,fs[a]? =eV fa/\fs[r]? =eV fr/\lvl ss.length fa<=lvl ss.length fr
 va:∀st,yw ss st->∀q h,VA fs (st.set lv m) q h a->∃h',VA fs st q h' r
def Fxd.mono(es:ss[lv]? =eV s)(hm:m<s)(g:Fxd ss lv m fs a r)(w:WF ss fs)(p:fs<+:fs'):Fxd ss lv m fs' a r:=by
 have#[fa,fr,ea,er,hl]:=g.le;show#[#[fa,fr,xB p ea,xB p er,hl],λst hs q h v=> ?_];have#[h,v]:=g.va st hs q _ (v.back w p (hs.set es hm) ea);show#[h,v.mono p]
structure KS(sn fn dn kn:Nat)(bx:Xv)(ss:kx Nat)(lv m:Nat)(fs:kx zN)(l:kx (Key×Xv))(S:Sto):Prop where
 st:yU sn fn dn bx fs S
 wf:WF ss fs
 kd:S[kn]? =eV (.dk l)
 kl:∀k y,ve l k=eV y->∃a r:Nat,k= .inl (a:Int)/\y= .int (r:Int)/\Fxd ss lv m fs a r
 ne:kn≠dn
def KS.kf(h:KS sn fn dn kn bx ss lv m fs l S):kn≠fn:=λe=>by
 have#[xs,_,h1,h2]:=h.st.fd';have h3:=h.kd;rw[e,h1] at h3;cases h3
def KS.ks(h:KS sn fn dn kn bx ss lv m fs l S):kn≠sn:=λe=>by
 have h1:=h.kd;rw[e,h.st.o] at h1;cases h1
noncomputable abbrev wK(fn dn kn:Nat):Nat->Prop:=λn=>n=fn\/n=dn\/n=kn
structure KP(sn fn dn kn:Nat)(bx:Xv)(ss:kx Nat)(lv m c:Nat)(fs:kx zN)(l:kx (Key×Xv))(S:Sto)(fs':kx zN)(l':kx (Key×Xv))(S':Sto):Prop where
 js:KS sn fn dn kn bx ss lv m fs' l' S'
 pre:fs<+:fs'
 fl:fs'.length<=fs.length+c
 ll:l'.length<=l.length+c
 kp:Kp (wK fn dn kn) S S'
def KS.pre(h:KS sn fn dn kn bx ss lv m fs l S)(p:S<+:S'):KS sn fn dn kn bx ss lv m fs l S':=#[h.st.pre p,h.wf,xB p h.kd,h.kl,h.ne]
def KP.grown(es:ss[lv]? =eV s)(hm:m<s)(h:KS sn fn dn kn bx ss lv m fs l S)(w:WF ss fs')(g:yQ sn fn dn bx fs c S fs' S'):KP sn fn dn kn bx ss lv m c fs l S fs' l S':=
 #[#[g.st,w,g.kp.2 _ _ h.kd (λz=>by rcases z with z|z;show h.kf z;show h.ne z),λk y e=>by
  have#[a,r,e1,e2,e3]:=h.kl k y e
  show#[a,r,e1,e2,e3.mono es hm h.wf g.pre],h.ne],g.pre,g.len,⋯,g.kp.mono λn z=>z.elim .inl λz=> .inr (.inl z)]
def KP.trans(a:KP sn fn dn kn bx ss lv m c fs l S de l' S')(b:KP sn fn dn kn bx ss lv m c' de l' S' aM l2 S2):KP sn fn dn kn bx ss lv m (c+c') fs l S aM l2 S2:=
 #[b.js,a.pre.trans b.pre,by have:=a.fl;have:=b.fl;omega,by have:=a.ll;have:=b.ll;omega,a.kp.trans b.kp]
def KP.more(a:KP sn fn dn kn bx ss lv m c fs l S de l' S')(h:c<=c'):KP sn fn dn kn bx ss lv m c' fs l S de l' S':=#[a.js,a.pre,by have:=a.fl;omega,by have:=a.ll;omega,a.kp]
def KP.app{c:Nat}{de:kx zN}(a:KP sn fn dn kn bx ss lv m c fs l S de l' S')(p:S'<+:S2):KP sn fn dn kn bx ss lv m c fs l S de l' S2:=#[a.js.pre p,a.pre,a.fl,a.ll,a.kp.trans (Kp.pre p)]
def KS.jp(h:KS sn fn dn kn bx ss lv m fs l S)(p:S<+:S'):KP sn fn dn kn bx ss lv m 0 fs l S fs l S':=#[h.pre p,Ae _,⋯,⋯,Kp.pre p]
set_option tactic.hygienic true in
def KS.put(h:KS sn fn dn kn bx ss lv m fs l S)(g:Fxd ss lv m fs a r):KP sn fn dn kn bx ss lv m 1 fs l S fs (zdx l (.inl (a:Int)) (.int (r:Int))) (S.set kn (.dk (zdx l (.inl (a:Int)) (.int (r:Int))))):=by
 have#[xs,u1,u2,u3]:=h.st.fd';show#[#[#[xN h.st.o h.ks,#[xs,u1,xN u2 h.kf,xN u3 h.ne],h.st.nd],h.wf,wq h.kd,λk y e=> ?_,h.ne],Ae _,⋯,zoI,(Kp.refl _).set (.inl (.inr (.inr rfl)))];rw[ziz] at e;split at e;rename_i q;cases e;show#[a,r,q,rfl,g];show h.kl k y e
def Kd.fxd(es:ss[lv]? =eV s)(w:WF ss fs)(e:fs[a]? =eV f)(d:Kd ss fs a lv m k):Fxd ss lv m fs a k:=by
 have hl:=(uT.1 es).1;have key:∀st,yw ss st->∀q h,VA fs (st.set lv m) q h a->∃h',VA fs st q h' k:=λst hs q h v=>by
  have#[h',v']:=d.va v (by rw[Ai,GO rfl,GO (by rw[hs.1];show hl)]);have#[fk,e1,e2]:=d.lv w;show#[h',v'.other w zbo e1 e2]
 show#[?_,key];rcases d with⟨ks,e1,e2⟩|⟨rfl,f',e1,e2⟩
 .rw[e] at e1;cases e1;have#[_,g,h1,h2]:=(w.ok a lv ks e).2.1 k (uX e2);show#[_,g,e,h1,A3 h2]
 show#[f',f',e1,e1,v3 _]
def zoK(es:ss[lv]? =eV s)(w:WF ss fs)(hh:here<lv)(e:fs[a]? =eV (.fork here ks))(hlen:rs.length=ks.length)(hr:∀(i k r:Nat),ks[i]? =eV k->rs[i]? =eV r->Fxd ss lv m fs k r)(fo:zgU fs here rs r):Fxd ss lv m fs a r:=by
 have iV:∀k∈rs,∃f,fs[k]? =eV f/\here<lvl ss.length f:=λk hk=>by
  have#[i,hi]:=Ab hk;have gW:=(uT.1 hi).1;have ek:ks[i]? =eV ks[i]:=uV ⋯;have#[fa,fr,e1,e2,e3]:=(hr i _ k ek hi).le;have#[_,f,e4,e5]:=(w.ok a here ks e).2.1 _ (uX ek);rw[e1] at e4;cases e4;show#[fr,e2,⋯]
 show#[?_,λst hs q h v=> ?_];obtain⟨k0,e0,⟨all,rfl⟩|⟨_,e1⟩⟩:=fo;have#[f,e1,e2]:=iV r (uX e0);show#[_,f,e,e1,A3 e2];show#[_,_,e,e1,v3 _];have#[#[sh,lG,eZ],_]:=w.ok a here ks e;have#[j,ej,hj]:=hs.get lG;have#[k,h',ek,v']:=v.kid e (x:=j) (by rw[Ai,GP ⋯];show ej);have er:rs[j]? =eV rs[j]:=uV ⋯;have#[h2,v2]:=(hr j k _ ek er).va st hs q _ v';show#[_,fo.va ej er v2]
def zoL(bh:Bx9 ss bl)(es:ss[lv]? =eV s)(hm:m<s):∀(d N:Nat) {S:Sto} {fs:kx zN} {l:kx (Key×Xv)} {a:Nat} {f:zN},d+1<=N->KS sn fn dn kn (.tup bl) ss lv m fs l S->fs[a]? =eV f->ss.length<=lvl ss.length f+d->fs.length+cst ss d<=1000000->l.length+cst ss d<=1000000->
  W (yp N [.ref sn,.int (a:Int),.int (lv:Int),.int (m:Int),.ref kn] S) λv S'=>∃(r:Nat) (fs':kx zN) (l':kx (Key×Xv)),v= .int (r:Int)/\Fxd ss lv m fs' a r/\KP sn fn dn kn (.tup bl) ss lv m (cst ss d) fs l S fs' l' S':=by
 have fZ:∀s∈ss,1<=s:=λs hs=>(bh.siz s hs).1;have jL:=(uT.1 es).1;have base:∀(d N:Nat) {S:Sto} {fs:kx zN} {l:kx (Key×Xv)} {a:Nat} {f:zN},d+1<=N->KS sn fn dn kn (.tup bl) ss lv m fs l S->fs[a]? =eV f->lv<=lvl ss.length f->
   W (yp N [.ref sn,.int (a:Int),.int (lv:Int),.int (m:Int),.ref kn] S) λv S'=>∃(r:Nat) (fs':kx zN) (l':kx (Key×Xv)),v= .int (r:Int)/\Fxd ss lv m fs' a r/\KP sn fn dn kn (.tup bl) ss lv m (cst ss d) fs l S fs' l' S':=by
  intro d N S fs l a f hN h e hf;obtain⟨N,rfl⟩:∃M,N=M+1:=#[N-1,⋯];rw[xT];delta xp;show zo (zO (yo ?_));calc#[_,_,rfl,h.st.o,rfl,?_];let#[_,S,#[rfl,rfl]]:=zd5 h.st bh.len e;dsimp only[v8];show zo (zG ?_);calc yS (λ_=> ?_) (λz=>absurd ⋯ z);have#[k,kd,tk]:=zk7 h.st h.wf bh.len e hf es hm;show ye (yo ?_);calc#[_,_,rfl,h.st.o,rfl,?_];let#[_,S,#[rfl,rfl]]:=tk;show#[k,fs,l,rfl,kd.fxd es h.wf e,(h.jp (Ae _)).more ⋯]
 intro d
 induction d with
 |zero=>intro N S fs l a f hN h e hf _ _;show base 0 N hN h e ⋯
 |succ d ih=>
  intro N S fs l a f hN h e hd kh du;by_cases hf:lv<=lvl ss.length f;show base _ N hN h e hf;have oA:=zbp fZ (show d<=d+1 by omega);by_cases hd2:ss.length<=lvl ss.length f+d;let#[v,S2,#[r,aM,l2,hv,g,k]]:=ih N ⋯ h e hd2 ⋯ ⋯;show#[r,aM,l2,hv,g,k.more oA]
  cases f with
  |leaf q=>show absurd (A3 jL) hf
  |fork here ks=>
  have hf:¬lv<=here:=hf;have hd2:¬ss.length<=here+d:=hd2;have hd:ss.length<=here+(d+1):=hd;have#[#[sh,lG,eZ],iV,_]:=h.wf.ok a here ks e;have hsz:=bh.siz sh (uX lG);have hc:cst ss (d+1)=2+sh*cst ss d:=by
   have:=zgW lG;rw[show ss.length-here=d+1 by omega] at this;show this
  obtain⟨N,rfl⟩:∃M,N=M+1:=#[N-1,⋯];rw[xT];delta xp;show zo (zO (yo ?_));calc#[_,_,rfl,h.st.o,rfl,?_];let#[_,S,#[rfl,rfl]]:=zgT h.st e;dsimp only[v8];show zo (zG ?_);calc yS (λz=>absurd z ⋯) (λ_=>zv ?_);show zo (zaj (λρ S2=>∃(a6:pf Xv) (r:Nat) (aM:kx zN) (l2:kx (Key×Xv)),ρ=[eV (.ref sn),eV (.int (a:Int)),eV (.int (lv:Int)),eV (.int (m:Int)),eV (.ref kn),eV (.int (here:Int)),a6]/\ve l2 (.inl (a:Int))=eV (.int (r:Int))/\Fxd ss lv m aM a r/\KP sn fn dn kn (.tup bl) ss lv m (cst ss (d+1)) fs l S aM l2 S2) (zG (xg (zsh ?_))) ?_)
  .ext;show#[_,_,_,zaX h.kd,rfl,_,rfl,λz=> ?_,λz=>zv ?_];rotate_left
   .cases ev:ve l (.inl (a:Int)) with
    |none=>rw[ev] at z;cases z
    |some y=>
     have#[a',r,e1,rfl,g]:=h.kl _ _ ev;have:a'=a:=by
      injection e1 with e1;omega
     subst this;show#[_,r,fs,l,rfl,ev,g,(h.jp (Ae _)).more ⋯]
   show zo (zO (xi (zch (yo ?_))));calc#[_,_,rfl,h.st.o,rfl,?_];let#[_,S,#[rfl,rfl]]:=zj5 h.st e;show#[_,rfl,_,rfl,?_];show yR (by rw[yA];show ZJ ⋯) (λi es S2=>∃(aM:kx zN) (l2:kx (Key×Xv)) (rs:kx Nat),es=ksX rs/\rs.length=i/\KP sn fn dn kn (.tup bl) ss lv m (i*cst ss d) fs l S aM l2 S2/\∀(j k r:Nat),ks[j]? =eV k->rs[j]? =eV r->Fxd ss lv m aM k r) (λ_ _ _ _ _=>rfl) ?_ #[fs,l,[],rfl,rfl,(h.jp (Ae _)).more ⋯,λj k r _ e=>by simp at e] ?_;intro i w0 gR S2 hw fq #[aM,l2,rs,rfl,cY,k2,eO];have#[k,ek,rfl]:=YK hw;have hi:=(uT.1 ek).1;show .of rfl ?_;dsimp only[vw,Ak,v8];calc#[rfl,yo ?_];calc#[_,_,rfl,k2.js.st.o,rfl,?_];ext;have#[_,g,eg,hg]:=iV k (uX ek);have mq:(i+1)*cst ss d<=sh*cst ss d:=z9 _ ⋯;have jN:(i+1)*cst ss d=i*cst ss d+cst ss d:=Ax i _;have f2:=k2.fl;have g2:=k2.ll;let#[_,S3,#[r,cy,l3,rfl,fx,k3]]:=ih N ⋯ k2.js (xB k2.pre eg) ⋯ ⋯ ⋯;show#[cy,l3,rs++[r],by rw[zoH],by simp[cY],(k2.trans k3).more ⋯,λj k' r' e1 e2=> ?_];rcases As j rs.length with hj|hj|hj;rw[v5 hj] at e2;show(eO j k' r' e1 e2).mono es hm k2.js.wf k3.pre;subst hj;rw[w5 (v3 _),AU] at e2;cases e2;rw[cY,ek] at e1;cases e1;show fx;rw[z5 (by simp;omega)] at e2;cases e2
   intro gR S2 _ #[aM,l2,rs,rfl,cY,k2,eO];rw[yA] at cY k2;have k3:=k2.app (uW S2 [.lst (ksX rs)]);have eP:(S2++[Ce.lst (ksX rs)])[S2.length]? =eV (.lst (ksX rs)):=yz;generalize S2++[Ce.lst (ksX rs)]=S3 at k3 eP;dsimp only[v8];rw[eZ] at k3;have f2:=k3.fl;have g2:=k3.ll;have h0:rs[0]? =eV rs[0]:=uV ⋯;show zp3 (yo ?_);calc#[_,_,rfl,k3.js.st.o,rfl,?_];let#[_,S4,#[r,dW,rfl,fo,ad,g]]:=zgV k3.js.st ⋯ eP h0 ⋯;ext;have w3:=k3.js.wf;have gM:∀k∈rs,∃f,aM[k]? =eV f/\here<lvl ss.length f:=λk hk=>by
    have#[i,hi]:=Ab hk;have gW:=(uT.1 hi).1;have ek:ks[i]? =eV ks[i]:=uV ⋯;have#[fa,fr,e1,e2,e3]:=(eO i _ k ek hi).le;have#[_,f,e4,e5]:=iV _ (uX ek);rw[xB k3.pre e4] at e1;cases e1;show#[fr,e2,⋯]
   have w4:WF ss dW:=by
    rcases ad with rfl|⟨fW,ad⟩
    .show w3
    show w3.fork g.st.nd (.inr ad) lG ⋯ gM λz=>fW λk hk=> ?_;show z k hk rs[0] (A9 _)
   have k4:=k3.trans (KP.grown es hm k3.js w4 g);have fx:Fxd ss lv m dW a r:=zoK es w4 ⋯ (xB k4.pre e) cY (λi k r e1 e2=>(eO i k r e1 e2).mono es hm w3 g.pre) fo;have k5:=k4.trans (k4.js.put fx);show#[_,_,_,zaX k4.js.kd,rfl,y0 (show l2.length<=1000000 by omega) ∅,?_];show#[_,r,dW,_,rfl,by rw[ziz,GO rfl],fx,k5.more ⋯]
  intro _ S2 #[a6,r,aM,l2,rfl,ev,fx,k2];show ye (zp2 ?_);ext;show#[_,_,_,_,zaX k2.js.kd,rfl,ev,r,aM,l2,rfl,fx,k2]
def zqu(bh:Bx9 ss bl)(es:ss[lv]? =eV s)(hm:m<s){a:Nat}{f:zN}(h:yU sn fn dn (.tup bl) fs S)(w:WF ss fs)(e:fs[a]? =eV f)(hf:fs.length+cst ss ss.length<=1000000):
  W (Xn [.ref sn,.int (a:Int),.int (lv:Int),.int (m:Int)] S) λv S'=>∃(r:Nat) (fs':kx zN),v= .int (r:Int)/\Fxd ss lv m fs' a r/\WF ss fs'/\yQ sn fn dn (.tup bl) fs (cst ss ss.length) S fs' S':=by
 delta Xm;show ye (yo ?_);calc#[_,_,rfl,h.o,rfl,?_];ext;have p:=uW S [Ce.dk []];have hd:=h.flt.2;have js:KS sn fn dn S.length (.tup bl) ss lv m fs [] (S++[.dk []]):=#[h.pre p,w,yz,λk y e=>by simp[ve] at e,⋯];let#[_,S2,#[r,aM,l2,rfl,gd,j]]:=zoL bh es hm ss.length 12 (by have:=bh.l9;omega) js e ⋯ hf (by simp only[Aw];omega);show#[r,aM,rfl,gd,j.js.wf,#[j.js.st,j.pre,j.fl,#[by have:=j.kp.1;rw[y7] at this;omega,λn c e nw=> ?_]]];have hn:=(uT.1 e).1;show j.kp.2 _ _ (xB p e) λz=>by
  rcases z with z|z|z;show nw (.inl z);show nw (.inr z);omega
end
section
inductive Opd where
 |num (i:Int)
 |nam (z:Str)
noncomputable def opX:Opd->Xv
 | .num i=> .int i
 | .nam z=> .str z
noncomputable def fIx(bs:kx (Str×Nat))(z:Str):pf Nat:=bs.findIdx? λb=>decide (b.1=z)
noncomputable def wv(bs:kx (Str×Nat))(st:kx Nat):Opd->Int
 | .num i=>i
 | .nam z=>((st.getD ((fIx bs z).getD 0) 0:Nat):Int)
def zaG(bs:kx (Str×Nat)):Opd->Prop
 | .num i=>i.natAbs<=1000000000
 | .nam z=>∃k,fIx bs z=eV k
structure Tst where
 a:Opd
 sg:Nat
 b:Opd
def zcR(bs:kx (Str×Nat))(t:Tst):Prop:=zaG bs t.a/\zaG bs t.b/\t.sg<3
noncomputable def sgS:Nat->Str
 |0=>"="
 |1=>"<"
 |_=>"#"
noncomputable def tsX(t:Tst):Xv:= .tup [opX t.a,.str (sgS t.sg),opX t.b]
noncomputable def mkB(bs:kx (Str×Nat))(t:Tst)(st:kx Nat):Bool:=match t.sg with
 |0=>decide (wv bs st t.a=wv bs st t.b)
 |1=>decide (wv bs st t.a<wv bs st t.b)
 |_=> !decide (wv bs st t.a=wv bs st t.b)
def zg0(h:fIx bs z=eV k):∃b,bs[k]? =eV b/\b.1=z:=by
 unfold fIx at h;rw[Bf] at h;have#[hk,h1,_]:=h;show#[bs[k],uV hk,of_decide_eq_true h1]
def zb2(ho:zaG bs o)(h:∀(k:Nat) b,bs[k]? =eV b->o= .nam b.1->st[k]? =st'[k]?):wv bs st o=wv bs st' o:=by
 cases o with
 |num i=>rfl
 |nam z=>
  have#[k,hk]:=ho;have#[b,e,rfl]:=zg0 hk;unfold wv;dsimp only;rw[hk];simp only[AF,x9];rw[h k b e rfl]
def Xx{k:Nat}{b:Str×Nat}(h:bs[k]? =eV b):(bsX bs)[k]? =eV (.tup [.str b.1,.int (b.2:Int)]):=by
 unfold bsX;rw[uY,h];rfl
def zqv{k:Nat}{w:Xv}(h:(bsX bs)[k]? =eV w):∃b,bs[k]? =eV b/\w= .tup [.str b.1,.int (b.2:Int)]:=by
 unfold bsX at h;rw[uY] at h;cases e:bs[k]? with
 |none=>rw[e] at h;cases h
 |some b=>rw[e] at h;cases h;show#[b,rfl,rfl]
def zg1(h9:bs.length<=9)(h:fIx bs zz=eV k):W (Ya [.tup (bsX bs),.str zz] S) λv S'=>v= .int (k:Int)/\S<+:S':=by
 delta UO;show ye (zcg (xi (zch (zq rfl ?_))));show#[_,rfl,_,rfl,?_];show yR (by rw[vA];show ZJ ⋯) (λi es S2=>es=(bs.take i).map (λb=>Xv.str b.1)/\S2=S) (λ_ _ _ _ _=>rfl) ?_ #[by simp,rfl] ?_;intro i w0 gR S2 hw fq #[rfl,rfl];have#[b,e1,rfl]:=zqv hw;show .of rfl ?_;dsimp only[vw,Ak,v8];calc#[rfl,?_];calc#[?_,rfl];have#[hi,e1]:=uT.1 e1;rw[Aa hi,A1,e1];rfl;intro gR S2 _ #[rfl,rfl];rw[vA,A4];show#[#[_,xW],?_];calc zn8 (k:=k) (ZL yz) ?_ ?_ #[rfl,uW _ _];rw[Aj,AB];show#[rfl,λw hw=> ?_];have#[b,_,rfl]:=Ad.1 hw;rfl;rw[List.findIdx?_map];unfold fIx at h;rw[<-h];rfl
def TD(h9:bs.length<=9)(hl:st.length=bs.length)(ho:zaG bs o):W (Xh [.tup (bsX bs),.tup (ksX st),opX o] S) λv S'=>v= .int (wv bs st o)/\S<+:S':=by
 delta zdV;show zo (zG ?_);cases o with
 |num i=>
  calc vR (v:=mK) rfl ?_;show#[_,rfl,nofun,λ_=>zv ?_];ext;show#[rfl,Ae _]
 |nam zz=>
  have#[k,hk]:=ho;have#[b,e,_]:=zg0 hk;have eS:=(uT.1 e).1;calc vR (v:=hG) rfl ?_;show#[_,rfl,λ_=> ?_,nofun];let#[_,S2,#[rfl,p]]:=zg1 h9 hk;have e2:st[k]? =eV st[k]:=uV ⋯;show zE rfl (yd (zaF e2)) #[?_,p];unfold wv;dsimp only;rw[hk];simp only[AF,x9,e2]
end
section
def zsG(k:∀b:Bool,(b=hG->o= .nam a)->(b=mK->¬o= .nam a)->P (.bl b) S):WO (yD mK (.str a) (opX o) S) P:=by
 cases o with
 |num i=>show WO.of (show yD mK (.str a) (.int i) S=eV (.bl mK,S) from rfl) (k mK (λe=>by cases e) (λ_ e=>by cases e))
 |nam zz=>
  show zF ?_;have:=k (decide (a=zz)) (λe=>by rw[of_decide_eq_true e]) (λe q=>of_decide_eq_false e (by cases q;rfl));simpa using this
def WT(h9:bs.length<=9)(hl:st.length=bs.length)(ho:zaG bs o):W (xG [.tup (bsX bs),.tup (ksX st),opX o] S) λv S'=>v= .int (wv bs st o)/\S=S':=by
 delta Wx;show zo (xM (wT (xF (zm (zq rfl (yi (xa ?_)))))));rw[vA];show#[_,rfl,#[⋯,⋯],_,rfl,?_];rw[z7];show yZ (xs:=wk 0 bs.length) (λi ρ S2=>∃a3,ρ=[eV (.tup (bsX bs)),eV (.tup (ksX st)),eV (opX o),a3]/\S2=S/\∀(k:Nat) b,k<i->bs[k]? =eV b->¬o= .nam b.1) (λ_ _ _ _ _=>rfl) ?_ ?_ ?_
 .intro i w ρ S2 hw #[a3,rfl,rfl,hn];have#[hi,rfl]:=xu hw;rw[Bg];show .of rfl ?_;dsimp only[v8];have eb:bs[i]? =eV bs[i]:=uV hi;show zG (xg (zM (zM (zM (zq rfl (zq rfl ?_))))));show zE (l:=bsX bs) rfl (yd (Xx eb)) ?_;calc zsG λbb bt bf=> ?_;show#[_,rfl,λzz=> ?_,λzz=>zv ?_]
  .have hq:=bt zz;ext;have e2:st[i]? =eV st[i]:=uV ⋯;show zE rfl (yd (zaF e2)) #[?_,rfl];subst hq;have hk:fIx bs bs[i].1=eV i:=by
    unfold fIx;rw[Bf];show#[hi,decide_eq_true rfl,λj hj=> ?_];have sI:j<bs.length:=by omega
    intro q;show hn j bs[j] hj (uV sI) (by rw[of_decide_eq_true q])
   unfold wv;dsimp only;rw[hk];simp only[AF,x9,e2]
  show#[_,rfl,rfl,λk b hk e q=> ?_];rcases D8 k i with h|h;show hn k b h e q
  have:k=i:=by omega
  subst this;rw[eb] at e;cases e;show bf zz q
 .show#[gi,rfl,rfl,λk b hk=>by omega]
 intro ρ S2 #[a3,rfl,rfl,hn];rw[yg] at hn;cases o with
 |num i=>
  ext;show#[rfl,rfl]
 |nam zz=>
  have#[k,hk]:=ho;have#[b,e,rfl]:=zg0 hk;show absurd rfl (hn k b (uT.1 e).1 e)
def zg2{k:Nat}{b:Str×Nat}(e:bs[k]? =eV b):∃j,fIx bs b.1=eV j:=by
 cases h:fIx bs b.1 with
 |some j=>show#[j,rfl]
 |none=>
  unfold fIx at h;rw[List.findIdx?_eq_none_iff] at h;have:=h b (uX e);simp at this
def WU(hl:yb mx ln S)(h9:bs.length<=9):W (xA [.ref ln,.tup (bsX bs)] S) λv S'=>∃o,v=opX o/\zaG bs o/\yb mx ln S'/\Kp (· =ln) S S':=by
 delta Ys;show zo (zO (ya (zm (zq rfl (zm (zM (zM (wm (xF (zm (zq rfl (yi (xa ?_)))))))))))));rw[vA];let#[_,S1,#[c,rfl,c0,c1,l1,k1]]:=xO hl ⋯;dsimp only[v8];show zo (zG ?_);ext;show yS (λhc=> ?_) (λhc=>zv ?_)
 .show ye (zM (zM (zq rfl (zM (zq rfl (xF (zm (zq rfl (yi (xa ?_))))))))));rw[vA];have hb:0<bs.length:=by omega
  show vQ ⋯ ?_;have hm:(c % (bs.length:Int)).toNat<bs.length:=by
   have:=Av c (show(0:Int)<(bs.length:Int) by omega);have:=Ap c (show(bs.length:Int)≠0 by omega);omega
  have eb:bs[(c % (bs.length:Int)).toNat]? =eV bs[(c % (bs.length:Int)).toNat]:=uV hm;show zE (l:=bsX bs) rfl (zbQ (Ap c ⋯) (Xx eb)) ?_;ext;show#[.nam _,rfl,zg2 eb,l1,k1]
 show zo (zG ?_);calc yS (λiY=> ?_) (λiY=>zv ?_);let#[_,S2,#[i,rfl,i0,i1,l2,k2]]:=xO l1 ∅;rw[show(10:Int)^(9:Int).toNat=1000000000 from rfl] at i1;show#[.num i,rfl,(by change i.natAbs<=1000000000;omega),l2,k1.trans k2];let#[_,S2,#[i,rfl,i0,i1,l2,k2]]:=xO l1 ∅;show#[.num i,rfl,(by change i.natAbs<=1000000000;omega),l2,k1.trans k2]
def zoM(hl:yb mx ln S)(h9:bs.length<=9):W (YH [.ref ln,.tup (bsX bs)] S) λv S'=>∃t,v=tsX t/\zcR bs t/\yb mx ln S'/\Kp (· =ln) S S':=by
 delta VI;show zo (zO (ya (zm (zq rfl (zm (zq rfl (yi ?_)))))));let#[_,S1,#[oa,rfl,ha,l1,k1]]:=WU hl h9;dsimp only[v8];show zo (zO (zM (wm (ya (zm (zq rfl (zm (wm (yi ?_)))))))));let#[_,S2,#[c,rfl,c0,c1,l2,k2]]:=xO l1 ∅;obtain⟨sg,nL,e⟩:∃sg,sg<3/\zhH (.str "=<#") (.int c) S2=eV (.str (sgS sg),S2):=by
  have:c=0\/c=1\/c=2:=by omega
  obtain rfl|rfl|rfl:=this;show#[0,∅,rfl];show#[1,∅,rfl];show#[2,∅,rfl]
 show WO.of e ?_;dsimp only[v8];show ye (Zz (zm (zq rfl (zm (zq rfl (zm (ya (zm (zq rfl (zm (zq rfl (yi ?_)))))))))))) ;let#[_,S3,#[ob,rfl,hb,l3,k3]]:=WU l2 h9;ext;show#[#[oa,sg,ob],rfl,#[ha,hb,nL],l3,(k1.trans k2).trans k3]
end
section
variable{Fn:kx Nat->Q2}
def Rel(bs:kx (Str×Nat))(us:kx Xv)(k:Nat):Prop:=∃b,bs[k]? =eV b/\(us.any λz=>zep z (.str b.1))=hG
def Mk(ss:kx Nat)(fs:kx zN)(bs:kx (Str×Nat))(us:kx Xv)(Fn:kx Nat->Q2)(ns:kx Nat)(i:Nat):Prop:=∀st,yw ss st->(∀k,k<ns.length->Rel bs us k->ns[k]? =st[k]?)->∃h,VA fs st (Fn st) h i
def Mk.mono{ns:kx Nat}(h:Mk ss fs bs us Fn ns i)(p:fs<+:fs'):Mk ss fs' bs us Fn ns i:=λst hs hk=>by
 have#[k,v]:=h st hs hk;show#[k,v.mono p]
structure RuM(sn fn dn:Nat)(bs:kx (Str×Nat))(us:kx Xv)(Fn:kx Nat->Q2)(xr:Xv):Prop where
 run:∃(L:xD) (b7:kx Xv) (tw:kx Xv->TwF),xr= .lam L b7/\YZ [(zck,zft),(zcm,zfu),(zcr,zfv)] L=eV tw/\∀{S:Sto} {fs:kx zN} {ns:kx Nat},yU sn fn dn (.tup (bsX bs)) fs S->yw (bs.map (·.2)) ns->W (tw b7 [.tup (ksX ns)] S) λv S'=>QX v (Fn ns)/\S<+:S'
 dep:∀st st':kx Nat,yw (bs.map (·.2)) st->yw (bs.map (·.2)) st'->(∀k,Rel bs us k->st[k]? =st'[k]?)->Fn st=Fn st'
 fl:us.all wx=hG
 len:us.length<=3
def nb_(h:(hG !=b)=hG):b=mK:=by cases b<;>simp_all
def Th{k:Nat}{b:Str×Nat}(e:bs[k]? =eV b):(bs.map (·.2))[k]? =eV b.2:=by rw[uY,e];rfl
def zqw(h9:bs.length<=9)(h1:∀b∈bs,1<=b.2/\b.2<=9)(hr:RuM sn fn dn bs us Fn xr):∀(d N:Nat) {S:Sto} {fs:kx zN} {ns:kx Nat},d+1<=N->ns.length+d=bs.length->(∀(k:Nat) v b,ns[k]? =eV v->bs[k]? =eV b->v<b.2)->yU sn fn dn (.tup (bsX bs)) fs S->WF (bs.map (·.2)) fs->fs.length+cst (bs.map (·.2)) d<=1000000->
  W (yu N [.ref sn,.tup us,xr,.tup (ksX ns)] S) λv S'=>∃(i:Nat) (fs':kx zN),v= .int (i:Int)/\(∃f,fs'[i]? =eV f/\ns.length<=lvl (bs.map (·.2)).length f)/\Mk (bs.map (·.2)) fs' bs us Fn ns i/\WF (bs.map (·.2)) fs'/\yQ sn fn dn (.tup (bsX bs)) fs (cst (bs.map (·.2)) d) S fs' S':=by
 have kP:(bs.map (·.2)).length=bs.length:=uZ _;have fZ:∀s∈bs.map (·.2),1<=s:=λs hs=>by
  have#[b,hb,rfl]:=Ad.1 hs;show(h1 b hb).1
 intro d
 induction d with
 |zero=>
  intro N S fs ns hN dX hok h w hf;obtain⟨N,rfl⟩:∃M,N=M+1:=#[N-1,⋯];have c2:2<=cst (bs.map (·.2)) 0:=by unfold cst;rw[Cr,DN];show v3 _
  rw[xU];delta wc;show zo (zO (xF (zm (zq rfl (yi (xa ?_))))));rw[yA];dsimp only[v8];show zo (zG (xg (zM (zq rfl (xF (zm (xm ?_)))))));calc#[_,_,_,rfl,h.o,rfl,?_];calc xa ?_;rw[vA];calc yS (λ_=> ?_) (λzz=>absurd ⋯ zz);show ye (yo ?_);calc#[_,_,rfl,h.o,rfl,?_];have#[L,b7,tw,rfl,hp,ht]:=hr.run
  have jc:yw (bs.map (·.2)) ns:=#[⋯,λk v s e1 e2=>by
   rw[uY] at e2;cases e3:bs[k]? with
   |none=>rw[e3] at e2;cases e2
   |some b=>rw[e3] at e2;cases e2;show hok k v b e1 e3]
  show zm (zdG rfl hp (zm (zq rfl (yi ?_))));let#[v,S2,#[hq,p]]:=ht h jc;let#[_,S3,#[i,cy,rfl,e1,ad,g]]:=zgS (h.pre p) ⋯ hq;show#[i,cy,rfl,#[_,e1,by change ns.length<=(bs.map (·.2)).length;omega],λst hs hk=> ?_,w.leaf g.st.nd ad,((yQ.of_pre h p).trans g).more ⋯];show#[0,.leaf ?_]
  rw[hr.dep st ns hs jc λk mh=>(hk k (by
   have#[b,e,_]:=mh;have:=(uT.1 e).1
   omega) mh).symm]
  show e1
 |succ d ih=>
  intro N S fs ns hN dX hok h w hf;obtain⟨N,rfl⟩:∃M,N=M+1:=#[N-1,⋯];have hl:ns.length<bs.length:=by omega
  have eb:bs[ns.length]? =eV bs[ns.length]:=uV hl;generalize bs[ns.length]=b at eb;have hsz:=h1 b (uX eb);have es:=Th eb;have oA:=zbp fZ (show d<=d+1 by omega);have hc:cst (bs.map (·.2)) (d+1)=2+b.2*cst (bs.map (·.2)) d:=by
   have:=zgW es;rw[show(bs.map (·.2)).length-ns.length=d+1 by omega] at this;show this
  rw[xU];delta wc;show zo (zO (xF (zm (zq rfl (yi (xa ?_))))));rw[yA];dsimp only[v8];show zo (zG (xg (zM (zq rfl (xF (zm (xm ?_)))))));calc#[_,_,_,rfl,h.o,rfl,?_];calc xa ?_;rw[vA];calc yS (λzz=>absurd zz ⋯) (λ_=>zv ?_);show zo (zG (xg (zM (zM (zM (xm ?_))))));calc#[_,_,_,rfl,h.o,rfl,?_];calc zE (l:=bsX bs) rfl (yd (Xx eb)) ?_;calc zrg (l:=us) rfl (by change(hG&&us.all wx)=hG;rw[hr.fl];rfl) ?_;show#[_,rfl,λzz=> ?_,λzz=>zv ?_]
  .have su:¬Rel bs us ns.length:=by
    intro#[b',e',h'];rw[eb] at e';cases e';rw[nb_ zz] at h';cases h'
   show ye (yo ?_);calc#[_,_,rfl,h.o,rfl,?_];calc TC (by rw[yA];simp only[y4,Aw];omega) ?_;rw[show ksX ns++[Xv.int 0]=ksX (ns++[0]) from(Zp ns 0).symm];ext
   show(ih N ⋯ (by simp;omega) (λk v b' e1 e2=>by
     rcases As k ns.length with h'|h'|h';rw[v5 h'] at e1;show hok k v b' e1 e2;subst h';rw[w5 (v3 _),AU] at e1;rw[eb] at e2;cases e2;cases e1;omega
     rw[z5 (by simp;omega)] at e1;cases e1) h w ⋯).imp ?_
   intro v S2 #[i,aM,hv,#[f,e1,e2],mk,w2,g];show#[i,aM,hv,#[f,e1,by rw[y7] at e2;omega],λst hs hk=>mk st hs λk jn hr=> ?_,w2,g.more oA];rcases As k ns.length with h'|h'|h';rw[v5 h'];show hk k h' hr;subst h';show absurd hr su;rw[y7] at jn;simp at jn;omega
  show zo (zO (zM (zM (xm ?_))));calc#[_,_,_,rfl,h.o,rfl,?_];calc zE (l:=bsX bs) rfl (yd (Xx eb)) ?_;calc yo ?_;calc#[_,_,rfl,h.o,rfl,?_];show zm (zq rfl (zm (xi (wT (zq rfl ?_)))));show#[_,rfl,#[⋯,⋯],_,rfl,?_];rw[z7]
  show yR (xs:=wk 0 b.2) (by rw[yg];show ZJ ⋯) (λi es S2=>∃(aM:kx zN) (ks:kx Nat),es=ksX ks/\ks.length=i/\yQ sn fn dn (.tup (bsX bs)) fs (i*cst (bs.map (·.2)) d) S aM S2/\WF (bs.map (·.2)) aM/\
    ∀(m k:Nat),ks[m]? =eV k->(∃f,aM[k]? =eV f/\ns.length<lvl (bs.map (·.2)).length f)/\Mk (bs.map (·.2)) aM bs us Fn (ns++[m]) k) (λ_ _ _ _ _=>rfl) ?_ #[fs,[],rfl,rfl,h.grown.more ⋯,w,λm k e=>by simp at e] ?_
  .intro i w0 gR S2 hw fq #[aM,ks,rfl,eS,g2,w2,eZ];have#[hi,rfl]:=xu hw;rw[Bg];show .of rfl ?_;dsimp only[vw,Ak,v8];calc#[rfl,yo ?_];calc#[_,_,rfl,g2.st.o,rfl,?_];calc TC (by rw[yA];simp only[y4,Aw];omega) ?_;rw[show ksX ns++[Xv.int (i:Int)]=ksX (ns++[i]) from(Zp ns i).symm];ext;have mq:(i+1)*cst (bs.map (·.2)) d<=b.2*cst (bs.map (·.2)) d:=z9 _ hi;have jN:(i+1)*cst (bs.map (·.2)) d=i*cst (bs.map (·.2)) d+cst (bs.map (·.2)) d:=Ax i _;have f2:=g2.len
   show(ih N ⋯ (by simp;omega) (λk v b' e1 e2=>by
    rcases As k ns.length with h'|h'|h';rw[v5 h'] at e1;show hok k v b' e1 e2;subst h';rw[w5 (v3 _),AU] at e1;rw[eb] at e2;cases e2;cases e1;omega
    rw[z5 (by simp;omega)] at e1;cases e1) g2.st w2 ⋯).imp ?_
   intro _ S3 #[k,cy,rfl,#[f,e1,e2],mk,w3,g3];show#[cy,ks++[k],by rw[Zp],by simp[eS],(g2.trans g3).more ⋯,w3,λm k' e=> ?_];rcases As m ks.length with dA|dA|dA;rw[v5 dA] at e;have#[#[f',e1,e2],tt]:=eZ m k' e;show#[#[f',xB g3.pre e1,e2],tt.mono g3.pre];subst dA;rw[w5 (v3 _),AU] at e;cases e;rw[eS];show#[#[f,e1,by rw[y7] at e2;show e2],mk];rw[z5 (by simp;omega)] at e;cases e
  intro gR S2 _ #[aM,ks,rfl,eS,g2,w2,eZ];rw[yg] at eS g2;have g3:=g2.app (uW S2 [.lst (ksX ks)]);have eP:(S2++[Ce.lst (ksX ks)])[S2.length]? =eV (.lst (ksX ks)):=yz;generalize S2++[Ce.lst (ksX ks)]=S3 at g3 eP;have f2:=g2.len;have h0:ks[0]? =eV ks[0]:=uV ⋯;let#[_,S4,#[r,dW,rfl,fo,ad,g]]:=zgV g3.st ⋯ eP h0 ⋯;have gM:∀k∈ks,∃f,aM[k]? =eV f/\ns.length<lvl (bs.map (·.2)).length f:=λk hk=>by
   have#[m,dA]:=Ab hk;show(eZ m k dA).1
  have w4:WF (bs.map (·.2)) dW:=by
   rcases ad with rfl|⟨fW,ad⟩
   .show w2
   show w2.fork g.st.nd (.inr ad) es eS gM λz=>fW λk hk=> ?_;show z k hk ks[0] (A9 _)
  show#[r,dW,rfl,?_,λst hs fI=> ?_,w4,(g3.trans g).more ⋯];obtain⟨k0,e0,⟨all,rfl⟩|⟨_,e⟩⟩:=fo;have#[f,e1,e2]:=gM r (uX e0);show#[f,xB g.pre e1,⋯];show#[_,e,v3 _]
  have#[m,em,dA]:=hs.get es;have ek:ks[m]? =eV ks[m]:=uV ⋯;have#[_,tl]:=eZ m _ ek;have#[hh,v]:=tl st hs λk hk hr=>by
   rcases As k ns.length with h'|h'|h';rw[v5 h'];show fI k h' hr;subst h';rw[w5 (v3 _),AU,em];rfl;rw[y7] at hk;simp at hk;omega
  show#[_,fo.va em ek (v.mono g.pre)]
def zg3(h9:bs.length<=9)(h1:∀b∈bs,1<=b.2/\b.2<=9)(hr:RuM sn fn dn bs us Fn xr)(h:yU sn fn dn (.tup (bsX bs)) fs S)(w:WF (bs.map (·.2)) fs)(hf:fs.length+cst (bs.map (·.2)) (bs.map (·.2)).length<=1000000):
  W (vG [.ref sn,.tup us,xr] S) λv S'=>∃(i:Nat) (fs':kx zN),v= .int (i:Int)/\(∃f,fs'[i]? =eV f)/\(∀st,yw (bs.map (·.2)) st->∃h,VA fs' st (Fn st) h i)/\WF (bs.map (·.2)) fs'/\yQ sn fn dn (.tup (bsX bs)) fs (cst (bs.map (·.2)) (bs.map (·.2)).length) S fs' S':=by
 delta Wp;show ye (yo ?_);calc#[_,_,rfl,h.o,rfl,?_];ext;have kP:(bs.map (·.2)).length=bs.length:=uZ _;rw[kP] at hf ⊢;let#[_,S2,#[i,aM,rfl,#[f,e1,_],mk,w2,g]]:=zqw h9 h1 hr bs.length 12 (ns:=[]) ⋯ (by simp) (λk v b e=>by simp at e) h w hf;show#[i,aM,rfl,#[f,e1],λst hs=>mk st hs λk hk=>by simp at hk,w2,g]
end
section
def yw.tail{s a:Nat}(h:yw (s::r) (a::t)):a<s/\yw r t:=
 #[h.2 0 a s rfl rfl,by simpa using h.1,λi x u e1 e2=>h.2 (i+1) x u (by simpa using e1) (by simpa using e2)]
theorem zd9:∀{ss st:kx Nat},yw ss st->idx ss st<prd ss
 |[],[],_=>by decide
 |[],_::_,h=>by have:=h.1;simp at this
 |_::_,[],h=>by have:=h.1;simp at this
 |s::r,a::t,h=>by
  have#[h1,h2]:=h.tail;have:=zd9 h2;change a*prd r+idx r t<s*prd r;have:(a+1)*prd r<=s*prd r:=z9 _ h1;rw[Ax] at this;omega
theorem zlc:∀{ss st st':kx Nat},yw ss st->yw ss st'->idx ss st=idx ss st'->st=st'
 |[],[],[],_,_,_=>rfl
 |[],_::_,_,h,_,_=>by have:=h.1;simp at this
 |[],[],_::_,_,h,_=>by have:=h.1;simp at this
 |_::_,[],_,h,_,_=>by have:=h.1;simp at this
 |_::_,_::_,[],_,h,_=>by have:=h.1;simp at this
 |s::r,a::t,b::u,h,g,e=>by
  have#[h1,h2]:=h.tail;have#[g1,g2]:=g.tail;have e:a*prd r+idx r t=b*prd r+idx r u:=e;have l1:=zd9 h2;have l2:=zd9 g2;have:a=b:=by
   rcases As a b with q|q|q;have:(a+1)*prd r<=b*prd r:=z9 _ q;rw[Ax] at this;omega;show q;have:(b+1)*prd r<=a*prd r:=z9 _ q;rw[Ax] at this;omega
  subst this;rw[zlc h2 g2 ⋯]
def zsH{l:kx Xv}{lo hi:pf Int}(k:P (.tup (zbK l lo hi)) S):WO (zlP (.tup l) lo hi S) P:= .of rfl k
def zoN{α:Type}(l:kx α)(a:Nat)(h:a<=l.length):zbK l (eV (a:Int)) gi=l.drop a:=by
 unfold L2.zbK;rw[HT.zpu,Nat.min_eq_left h];simp[HT.sIx];show Bh (by simp)
end
section
noncomputable def zkf(t b:Int):Q2:=(t / (Bv t b:Int),b / (Bv t b:Int))
def zkg(k:P (.int (p.natAbs:Int)) S):WO (zlT [.int p] S) P:= .of (show zlT [.int p] S=eV (.int (if p<0 then -p else p),S) from rfl) (by
 rw[show(if p<0 then -p else p)=(p.natAbs:Int) by split<;>omega]
 show k)
def yT(n:Nat)(p:Int):Prop:=p.natAbs<2^n
def yT.mono(h:yT n p)(hn:n<=m):yT m p:=z6 h (B6 ∅ hn)
def yT.le(h:yT n p):intBits p<=n:=B4.mpr h
def yT.mul(h:yT n p)(g:yT m q):yT (n+m) (p*q):=by
 unfold yT at*;rw[Cv,Eb];rcases Dn q.natAbs with z|z;rw[z,Nat.mul_zero];show Bj (CO ∅) (CO ∅);show Nat.mul_lt_mul_of_lt_of_le h (A3 g) (CO ∅)
def Gst:Nat->Nat->Nat->Prop
 |0,_,_=>False
 |n+1,a,b=>b=0\/Gst n b (a % b)
def zsI:∀(n k1 k2 a b:Nat),b<=a->a<2^k1->b<2^k2->k1+k2<n->Gst n a b:=by
 intro n
 induction n with
 |zero=>intro k1 k2 a b _ _ _ h;omega
 |succ n ih=>
  intro k1 k2 a b iq h1 h2 h;rcases Dn b with z|z;show .inl z
  show .inr ?_;cases k1 with
  |zero=>rw[Nat.pow_zero] at h1;omega
  |succ k1=>
   have hr:=Ft a z;have hq:b+a % b<=a:=by
    have e:=Fu a b;have:b*1<=b*(a / b):=Ao _ (Nat.div_pos iq z);omega
   rw[Nat.pow_succ] at h1;show ih k2 k1 b (a % b) ⋯ h2 ⋯ ⋯
def zsJ(hb:b<2^k)(h:2*k+1<n):Gst n a b:=by
 obtain⟨n,rfl⟩:∃m,n=m+1:=#[n-1,⋯];rcases Dn b with z|z;show .inl z;have hr:=Ft a z;show .inr (zsI n k k b (a % b) ⋯ hb ⋯ ⋯)
def yT.fuel{n:Nat}{p t:Int}(hb:Big fu)(h:yT n p)(hn:2*n<=134217728):Gst fu t.natAbs p.natAbs:=by
 show zsJ h ?_;have h1:134217730<=2^28:=by decide
 have h2:2^28<=fu:=v7 (B6 ∅ ∅) hb;omega
def zkh{t b:Int}(h0:0<b):((Bw t.natAbs b.natAbs:Nat):Int)≠0:=by
 have g0:0<Bw t.natAbs b.natAbs:=Nat.gcd_pos_of_pos_right _ ⋯;omega
def ziA:qv (zkf t b)= .tup [.int (t.fdiv ((Bw t.natAbs b.natAbs:Nat):Int)),.int (b.fdiv ((Bw t.natAbs b.natAbs:Nat):Int))]:=by
 rw[AK _ ⋯,AK _ ⋯];rfl
def zoO:∀(n:Nat) (t b:Xv) (one other:Nat) (a4:pf Xv),Gst n one other->
  WS (zbL (bE (eOp dGt (zi 3) (qx 0))) (zw (zH (eOp Xz (zi 2) (zi 3)) (gN 4)) (zw (zH (zi 3) (gN 2)) (zH (zi 4) (gN 3)))) n [eV t,eV b,eV (.int one),eV (.int other),a4] S) (λρ S'=>∃a4,ρ=[eV t,eV b,eV (.int (Bw one other:Nat)),eV (.int 0),a4]/\S=S') (λ_ _=>False):=by
 intro n
 induction n with
 |zero=>intro t b one other a4 h;show h.elim
 |succ n ih=>
  intro t b one other a4 hg;show Tt ?_;ext;show yS (λh=> ?_) (λh=> ?_)
  .have h0:0<other:=by omega
   calc vQ ⋯ ?_;ext;have:=ih t b other (one % other) (eV (.int ((one % other:Nat):Int))) (hg.resolve_left ⋯);rw[show Bw other (one % other)=Bw one other by rw[DP other,<-Nat.gcd_rec,DP]] at this;rw[Fh] at this;show this
  have:other=0:=by omega
  subst this;show#[a4,by simp,rfl]
def zmg:∀(n:Nat) (one other:Nat) (a2:pf Xv),Gst n one other->
  WS (zbL (bE (eOp zga (zi 1) (qx 0))) (zw (zH (eOp Xz (zi 0) (zi 1)) (gN 2)) (zw (zH (zi 1) (gN 0)) (zH (zi 2) (gN 1)))) n [eV (.int one),eV (.int other),a2] S) (λρ S'=>∃a2,ρ=[eV (.int (Bw one other:Nat)),eV (.int 0),a2]/\S=S') (λ_ _=>False):=by
 intro n
 induction n with
 |zero=>intro one other a2 h;show h.elim
 |succ n ih=>
  intro one other a2 hg;show Tt ?_;ext;rw[show(!decide ((other:Int)=0))=decide (¬(other:Int)=0) by simp];show yS (λh=> ?_) (λh=> ?_)
  .have h0:0<other:=by omega
   calc vQ ⋯ ?_;ext;have:=ih other (one % other) (eV (.int ((one % other:Nat):Int))) (hg.resolve_left ⋯);rw[show Bw other (one % other)=Bw one other by rw[DP other,<-Nat.gcd_rec,DP]] at this;rw[Fh] at this;show this
  have:other=0:=by omega
  subst this;show#[a2,by simp,rfl]
def ziB{N:Nat}(bN:Big fu)(h0:0<b)(hb:yT N b)(hN:2*N<=134217728):W (Ye [.int t,.int b] S) λv S'=>v=qv (zkf t b)/\S=S':=by
 have gb:=zkh (t:=t) h0;delta Te;calc zkg ?_;calc zkT ?_;have sZ:Xv.int b=Xv.int ((b.natAbs:Nat):Int):=by rw[Int.natAbs_of_nonneg ⋯]
 rcases zoO (S:=S) fu (.int t) (.int b) t.natAbs b.natAbs gi (yT.fuel bN hb hN) with⟨ρ,S',e,a4,rfl,rfl⟩|⟨_,_,_,z⟩
 rotate_left
 .show z.elim
 rw[<-sZ] at e;show .nx e ?_;calc Uy gb ?_;calc Uy gb ?_;ext;show#[ziA.symm,rfl]
def ziC{N:Nat}(bN:Big fu)(hb:yT N b)(hN:2*N<=134217728):W (Zf [.int t,.int b] S) λv S'=>v= .int (Bw t.natAbs b.natAbs:Nat)/\S=S':=by
 delta Xg;calc zkg ?_;calc zkg ?_;calc zkT ?_;rcases zmg (S:=S) fu t.natAbs b.natAbs gi (yT.fuel bN hb hN) with⟨ρ,S',e,a2,rfl,rfl⟩|⟨_,_,_,z⟩
 .show .nx e ?_;ext;show#[rfl,rfl]
 show z.elim
def ziD{N:Nat}(bN:Big fu)(h0:0<b)(hb:yT N b)(hN:2*N<=134217728):W (Tz [.int t,.int b] S) λv S'=>v=qv (zkf t b)/\S=S':=by
 have gb:=zkh (t:=t) h0;delta zbW;let#[_,_,#[rfl,rfl]]:=ziC bN hb hN;calc zG ?_;calc yS (λh=>absurd h ⋯) (λ_=>zv ?_);calc Uy gb ?_;calc Uy gb ?_;ext;show#[ziA.symm,rfl]
structure Fb(N:Nat)(q:Q2):Prop where
 pos:0<q.2
 g:Bv q.1 q.2=1
 b1:yT N q.1
 b2:yT N q.2
def zsK{N:Nat}(h0:0<b)(ht:yT N t)(hb:yT N b):Fb N (zkf t b):=by
 have hg:0<Bv t b:=Dh t ⋯;have h1:(Bv t b:Int)∣t:=DQ ..;have h2:(Bv t b:Int)∣b:=Dw ..;show#[Ds h0 ⋯ h2,?_,?_,?_];show DE hg;show y0 ?_ ht;change(t / (Bv t b:Int)).natAbs<=t.natAbs;rw[Ec h1];show Fx _ _;show y0 ?_ hb;change(b / (Bv t b:Int)).natAbs<=b.natAbs;rw[Ec h2];show Fx _ _
def yT.add(h:yT n p)(g:yT m q)(hn:n<k)(hm:m<k):yT k (p+q):=by
 have h1:p.natAbs<2^(k-1):=h.mono ⋯;have h2:q.natAbs<2^(k-1):=g.mono ⋯;have h3:2^k=2^(k-1)+2^(k-1):=by rw[<-Nat.two_mul,<-Nat.pow_succ'];congr 1;omega
 change(p+q).natAbs<2^k;have:=Dx p q;omega
end
section
noncomputable def rQ(r:Rat):Q2:=(r.num,(r.den:Int))
def NB(N:Nat)(r:Rat):Prop:=yT N r.num/\yT N (r.den:Int)
def NB.mono{N M:Nat}(h:NB N r)(hn:N<=M):NB M r:=#[h.1.mono hn,h.2.mono hn]
def WV(r:Rat):(0:Int)<r.den:=Int.natCast_pos.2 r.den_pos
def xV{a:Int}(h:a≠0):(a:Rat)≠0:=λz=>h (Rat.intCast_eq_zero_iff.1 z)
def VN(r:Rat):r*((r.den:Int):Rat)=(r.num:Int):=by
 have h:=EV r;rw[Dy] at h;have d0:=xV (show(r.den:Int)≠0 by have:=WV r;omega);have:r*((r.den:Int):Rat)=(r.num:Rat) / ((r.den:Int):Rat)*((r.den:Int):Rat):=by rw[h]
 rw[this];grind
def zsL(h0:0<b)(g:Bv t b=1):rQ ((t:Rat) / (b:Rat))=(t,b):=by
 have e:(t:Rat) / (b:Rat)=#[t,b.toNat,⋯,by
  have:b.natAbs=b.toNat:=by omega
  rw[<-this]
  show g]:=by
  rw[Rat.mk_eq_divInt,Dy,Bs ⋯]
 rw[e];unfold rQ;rw[Bs ⋯]
def zea(h0:0<b):zkf t b=rQ ((t:Rat) / (b:Rat)):=by
 have hg:0<Bv t b:=Dh t ⋯;have h1:(Bv t b:Int)∣t:=DQ ..;have h2:(Bv t b:Int)∣b:=Dw ..;have hp:0<b / (Bv t b:Int):=Ds h0 ⋯ h2;have:=zsL hp (t:=t / (Bv t b:Int)) (DE hg);unfold zkf;rw[<-this]
 congr 1
 have#[u,hu]:=h1;have#[v,hv]:=h2;have g0:(Bv t b:Int)≠0:=by omega
 generalize (Bv t b:Int)=g at*;subst hu hv;rw[Ct _ g0,Ct _ g0,A2,A2];have g1:=xV g0;have v1:(v:Rat)≠0:=xV (by rintro rfl;simp at h0);grind
def zg4{N:Nat}(h0:0<b)(ht:yT N t)(hb:yT N b):NB N ((t:Rat) / (b:Rat)):=by
 have f:=zsK h0 ht hb;rw[zea h0] at f;show#[f.b1,f.b2]
def zld:a+b=((a.num*b.den+b.num*a.den:Int):Rat) / ((a.den*b.den:Int):Rat):=by
 have ha:=VN a;have hb:=VN b;have a1:=xV (show(a.den:Int)≠0 by have:=WV a;omega);have b1:=xV (show(b.den:Int)≠0 by have:=WV b;omega);rw[Cm,A2,A2,A2,<-ha,<-hb];grind
def zsM{N M:Nat}(ha:NB N a)(hb:NB M b):NB (N+M+1) (a+b):=by
 rw[zld];have k:=(ha.2.mul hb.2).mono (show N+M<=N+M+1 by omega);show zg4 (BM (WV a) (WV b)) (yT.add (ha.1.mul hb.2) (hb.1.mul ha.2) ⋯ ⋯) k
def zsN{N M:Nat}(bN:Big fu)(hx:QX x (rQ a))(hy:QX y (rQ b))(ha:NB N a)(hb:NB M b)(hN:2*(N+M)<=134217728):W (zgH [x,y] S) λv S'=>v=qv (rQ (a+b))/\S=S':=by
 delta zgG;calc zE hx (yd (i:=0) rfl) ?_;calc zE hy (yd (i:=1) rfl) ?_;show xx (v7 (Bi ha.1.le hb.2.le) ⋯) ?_;calc zE hy (yd (i:=0) rfl) ?_;calc zE hx (yd (i:=1) rfl) ?_;show xx (v7 (Bi hb.1.le ha.2.le) ⋯) ?_;calc zE hx (yd (i:=1) rfl) ?_;calc zE hy (yd (i:=1) rfl) ?_;show xx (v7 (Bi ha.2.le hb.2.le) ⋯) ?_;let#[_,_,#[rfl,rfl]]:=ziD bN (BM (WV a) (WV b)) (ha.2.mul hb.2) hN;show#[?_,rfl];rw[zld,<-zea (BM (WV a) (WV b))];rfl
def zeb{a b:Rat}:a<b↔a.num*b.den<b.num*a.den:=Rat.lt_iff a b
noncomputable def mxR(a b:Rat):Rat:=if a<b then b else a
def zqx{N M:Nat}(hx:QX x (rQ a))(hy:QX y (rQ b))(ha:NB N a)(hb:NB M b)(hN:N+M<=134217728):W (zdU [x,y] S) λv S'=>v= .bl (decide (a<b))/\S=S':=by
 delta zdT;calc zE hx (yd (i:=0) rfl) ?_;calc zE hy (yd (i:=1) rfl) ?_;show xx (v7 (Bi ha.1.le hb.2.le) hN) ?_;calc zE hy (yd (i:=0) rfl) ?_;calc zE hx (yd (i:=1) rfl) ?_;show xx (v7 (Bi hb.1.le ha.2.le) ⋯) ?_;ext;show#[congrArg Xv.bl (decide_eq_decide.2 zeb.symm),rfl]
def zmh{N M:Nat}(hx:QX x (rQ a))(hy:QX y (rQ b))(ha:NB N a)(hb:NB M b)(hN:N+M<=134217728):W (zax [x,y] S) λv S'=>QX v (rQ (mxR a b))/\S=S':=by
 delta zaw;calc Wh ?_;let#[_,_,#[rfl,rfl]]:=zqx hx hy ha hb hN;calc yS (λh=> ?_) (λh=> ?_);ext;unfold mxR;rw[GO h];show#[hy,rfl];ext;unfold mxR;rw[GP h];show#[hx,rfl]
end
section
variable{S':Sto}{x y:Xv}{n N:Nat}{xs:kx Xv}{rs:kx Rat}
structure RL(xs:kx Xv)(rs:kx Rat):Prop where
 len:xs.length=rs.length
 at_:∀(i:Nat) x r,xs[i]? =eV x->rs[i]? =eV r->QX x (rQ r)
def zsO{c:Prop}[Decidable c]{A B:Prop}(h:¬c->A)(g:c->B):((!decide c)=hG->A)/\((!decide c)=mK->B):=#[λe=>h (by simpa using e),λe=>g (by simpa using e)]
def zsP{bs:kx Int}(h:yn S x=eV l)(h2:Yx l=eV bs)(k:P (.int bs.sum) S):WO (zgc [x] S) P:= .of (by unfold zgc;dsimp only;rw[h,z0,h2];rfl) k
def zle{bs:kx Int}(h:x.tupOf=eV l)(h2:Yx l=eV bs)(k:P (.int bs.sum) S):WO (zfe [x] S) P:= .of (by unfold zfe;dsimp only;rw[h,z0,h2];rfl) k
def yT.abs(h:yT n p)(hq:q.natAbs<=p.natAbs):yT n q:=y0 hq h
def zoP(bN:Big fu)(h:S[n]? =eV (.lst xs))(rl:RL xs rs)(hb:∀r∈rs,NB N r)(hN:rs.length<=100/\N<=600000):W (ZG [.ref n] S) λv S'=>S=S'/\∃b:Int,v= .int b/\0<b/\yT (N*rs.length+1) b/\∀r∈rs,(r.den:Int)∣b:=by
 delta ZF;ext;show zaj (λρ S'=>S=S'/\∃(b:Int) (a2:pf Xv),ρ=[eV (.ref n),eV (.int b),a2]/\0<b/\yT (N*rs.length+1) b/\∀r∈rs,(r.den:Int)∣b) (xM (TX ?_)) ?_
 .ext;show#[_,zC h,_,zC h,?_];show yZ (xs:=xs) (λi ρ S'=>S=S'/\∃(b:Int) (a2:pf Xv),ρ=[eV (.ref n),eV (.int b),a2]/\0<b/\yT (N*i+1) b/\∀(j:Nat) r,j<i->rs[j]? =eV r->(r.den:Int)∣b) ?_ ?_ ?_ ?_;intro i ρ S' _ #[rfl,_];show zC h
  .intro i y ρ S' hy #[rfl,b,a2,rfl,b0,bb,bd];have hi:i<rs.length:=by rw[<-rl.len];show(uT.1 hy).1
   have er:rs[i]? =eV rs[i]:=uV hi;generalize rs[i]=r at er;have hx:=rl.at_ i y r hy er;have nb:=hb r (uX er);have d0:=WV r;have e1:N*(i+1)+1=N*i+1+N:=by rw[Nat.mul_succ];omega
   have il:N*i<=600000*100:=BP hN.2 ⋯;show .of rfl ?_;dsimp only[v8];show zG ?_;calc zE hx (yd (i:=1) rfl) ?_;show vQ d0 ?_;ext;show zsO (λdD=> ?_) (λhz=>zv ?_)
   .ext;show zE hx (yd (i:=1) rfl) ?_;let#[_,_,#[rfl,rfl]]:=ziC bN nb.2 ⋯;have g0:=zkh (t:=b) d0;have tI:((Bw b.natAbs (r.den:Int).natAbs:Nat):Int)∣b:=DQ ..;have tG:((Bw b.natAbs (r.den:Int).natAbs:Nat):Int)∣(r.den:Int):=Dw ..;have gp:0<((Bw b.natAbs (r.den:Int).natAbs:Nat):Int):=by omega
    change ((Bw b.natAbs (r.den:Int).natAbs:Nat):Int)≠0 at g0;generalize ((Bw b.natAbs (r.den:Int).natAbs:Nat):Int)=g at*;show Uy g0 ?_;rw[AK _ (EW gp)];have#[u,hu]:=tI;have#[w,hw]:=tG;rw[show b / g=u from Int.ediv_eq_of_eq_mul_right g0 hu];have u0:0<u:=by
     rw[hu] at b0;rcases Int.lt_or_le 0 u with h|h;show h;have:=Int.mul_nonneg (EW gp) (show 0<= -u by omega);rw[Int.mul_neg] at this;omega
    have ub:yT (N*i+1) u:=bb.abs (by rw[hu,Cv];show CP _ ⋯);calc zE hx (yd (i:=1) rfl) ?_;show xx (v7 (Bi ub.le nb.2.le) ⋯) ?_;show#[rfl,_,_,rfl,BM u0 d0,?_,λj r' hj e=> ?_];rw[e1];show ub.mul nb.2;by_cases c:j<i
    .obtain⟨v,hv⟩:=bd j r' c e;show#[v*w,?_];change u*(r.den:Int)=r'.den*(v*w);have e3:g*u=r'.den*v:=by rw[<-hu,<-hv]
     rw[hw,<-FE,<-FE,<-e3,Int.mul_comm u g]
    obtain rfl:j=i:=by omega
    rw[er] at e;cases e;show#[u,Int.mul_comm ..]
   show#[rfl,_,_,rfl,b0,bb.mono ⋯,λj r' hj e=> ?_];by_cases c:j<i;show bd j r' c e
   obtain rfl:j=i:=by omega
   rw[er] at e;cases e;show Int.dvd_of_emod_eq_zero hz
  .show#[rfl,1,_,rfl,∅,by rw[Nat.mul_zero];unfold yT;decide,λj r hj=>by omega]
  intro ρ S' #[rfl,b,a2,rfl,b0,bb,bd];rw[rl.len] at bb bd;show#[rfl,b,a2,rfl,b0,bb,λr hr=> ?_];have#[j,hj]:=Ab hr;show bd j r (uT.1 hj).1 hj
 intro _ _ #[rfl,b,a2,rfl,b0,bb,bd];ext;show#[rfl,b,rfl,b0,bb,bd]
noncomputable def tpR(b:Int)(r:Rat):Int:=r.num*(b / r.den)
def zsQ(h:S[n]? =eV (.lst xs))(rl:RL xs rs)(hb:∀r∈rs,NB N r)(hB:yT B b)(hl:rs.length<=100)(hN:N<=9000)(hs:N+B<=134217728):W (VB [.ref n,.int b] S) λv S'=>v= .ref S.length/\S'=S++[.lst ((rs.map (tpR b)).map .int)]:=by
 delta Vz;show ye (xi (TX ?_));calc#[_,zC h,_,zC h,?_];show yR (xs:=xs) (by rw[rl.len];show A3 (Yg hl)) (λj es S'=>S=S'/\es=((rs.take j).map (tpR b)).map .int) ?_ ?_ ?_ ?_;intro j es S' _ #[rfl,_];show zC h
 .intro j y es S' hy fq #[rfl,rfl];have hi:j<rs.length:=by rw[<-rl.len];show(uT.1 hy).1
  have er:rs[j]? =eV rs[j]:=uV hi;generalize rs[j]=r at er;have hx:=rl.at_ j y r hy er;have nb:=hb r (uX er);have d0:=WV r;show .of rfl ?_;calc#[rfl,?_];calc zE hx (yd (i:=0) rfl) ?_;calc zE hx (yd (i:=1) rfl) ?_;show zdy #[by change(r.den:Int)≠0;omega,v7 nb.2.le hN] ?_;rw[AK _ (show(0:Int)<=(rQ r).2 from EW d0)];show xx (v7 (Bi nb.1.le (hB.abs (DF b (rQ r).2)).le) hs) ?_;show#[rfl,?_];rw[AO,er];simp[tpR,rQ]
 .show#[rfl,rfl]
 intro es S' fq #[rfl,rfl];rw[rl.len,A4];show#[rfl,rfl]
noncomputable def wsR:kx Nat->kx Rat->Rat
 |w::ws,r::rs=>((w:Int):Rat)*r+wsR ws rs
 |_,_=>0
noncomputable def Wb(ws:kx Nat)(rs:kx Rat):Rat:=wsR ws rs / (((ws.sum:Nat):Int):Rat)
def zuo(h:(r.den:Int)∣b):((tpR b r:Int):Rat)=r*(b:Rat):=by
 have#[u,hu]:=h;have d0:=WV r;unfold tpR;rw[hu,Ct _ ⋯,A2,A2,<-VN r];grind
noncomputable def wtL(ws:kx Nat)(ts:kx Int):kx Int:=List.zipWith (λ(w:Nat) (t:Int)=>(w:Int)*t) ws ts
theorem zrm:∀{ws:kx Nat} {rs:kx Rat},(∀r∈rs,(r.den:Int)∣b)->(((wtL ws (rs.map (tpR b))).sum:Int):Rat)=wsR ws rs*(b:Rat)
 |[],rs,_=>by simp[wtL,wsR]
 |_::_,[],_=>by simp[wtL,wsR]
 |w::ws,r::rs,h=>by
  have ih:=zrm (ws:=ws) (rs:=rs) λz hz=>h z (.tail _ hz);change(((w:Int)*tpR b r+(wtL ws (rs.map (tpR b))).sum:Int):Rat)=_;rw[Cm,ih,A2,zuo (h r (.head _)),wsR];grind
theorem ziE:∀{l:kx Int},(∀t∈l,yT k t)->yT (k+l.length) l.sum
 |[],_=>by change(0:Int).natAbs<_;show CO ∅
 |t::l,h=>by
  have ih:=ziE (l:=l) λz hz=>h z (.tail _ hz);rw[BJ];show yT.add (h t (.head _)) ih (by rw[y4];omega) (by rw[y4];omega)
def zec(ws:kx Nat):Yx (ksX ws)=eV (ws.map λ(k:Nat)=>(k:Int)):=zfA ws
theorem zcY:∀ws:kx Nat,(ws.map λ(k:Nat)=>(k:Int)).sum=((ws.sum:Nat):Int)
 |[]=>rfl
 |w::ws=>by rw[y8,BJ,BJ,zcY ws,Fv]
def ziF:W (XU [.int i] S) λv S'=>v= .bl hG/\S=S':=by
 delta UK;show ye (Vi ?_);calc WO.of (show Vg "int" (.int i) S=eV (.bl hG,S) from rfl) #[_,rfl,λ_=> ?_,nofun];calc WO.of (show Vg "bool" (.int i) S=eV (.bl mK,S) from rfl) ?_;ext;show#[rfl,rfl]
def zki(bN:Big fu)(h0:0<b)(hb:yT N b)(hN:2*N<=134217728):W (UN [.int t,.int b] S) λv S'=>v=qv (zkf t b)/\S=S':=by
 delta UM;show zo (zG (zcf ?_));ext;apply ziF.imp;intro _ _ #[rfl,rfl];calc#[nofun,λ_=> ?_];ext;apply ziF.imp;intro _ _ #[rfl,rfl];calc#[nofun,λ_=>zv ?_];show zo (zG ?_);calc yS (λz=>absurd z ⋯) (λ_=>zv ?_);let#[_,_,#[rfl,rfl]]:=ziD bN h0 hb hN;show#[rfl,rfl]
def zmi{ws:kx Nat}{b:Int}(w9:∀w∈ws,w<=1000000000)(w0:0<ws.sum)(hb:∀r∈rs,NB N r)(hl:rs.length<=9/\ws.length<=rs.length)(b0:0<b)(bb:yT (9*N+1) b)(bd:∀r∈rs,(r.den:Int)∣b):
  (∀r∈rs,yT (10*N+1) (tpR b r))/\(∀w∈ws,yT 31 (w:Int))/\yT 40 ((ws.sum:Nat):Int)/\(((wtL ws (rs.map (tpR b))).sum:Int):Rat) / ((b*((ws.sum:Nat):Int):Int):Rat)=Wb ws rs/\NB (11*N+60) (Wb ws rs):=by
 have tb:∀r∈rs,yT (10*N+1) (tpR b r):=λr hr=>((hb r hr).1.mul (bb.abs (DF b r.den))).mono ⋯;have wb:∀w∈ws,yT 31 (w:Int):=λw hw=>y0 (show(w:Int).natAbs<=1000000000 by have:=w9 w hw;omega) ∅;have qF:(wtL ws (rs.map (tpR b))).length=ws.length:=by unfold wtL;rw[ED,uZ];omega
 have sb:yT (10*N+60) (wtL ws (rs.map (tpR b))).sum:=(ziE (k:=10*N+32) λt ht=>by
  have#[j,hj]:=Ab ht;unfold wtL at hj;rw[Em] at hj;cases e1:ws[j]? with
  |none=>rw[e1] at hj;cases hj
  |some w=>cases e2:(rs.map (tpR b))[j]? with
   |none=>rw[e1,e2] at hj;cases hj
   |some u=>
    rw[e1,e2] at hj;cases hj;have#[r,hr,rfl]:=Ad.1 (uX e2)
    show((wb w (uX e1)).mul (tb r hr)).mono ⋯).mono ⋯
 have kr:yT 40 ((ws.sum:Nat):Int):=by
  have:∀l:kx Nat,(∀w∈l,w<=1000000000)->l.sum<=l.length*1000000000:=by
   intro l
   induction l with
   |nil=>intro _;show v3 _
   |cons w l ih=>
    intro h;have:=ih λz hz=>h z (.tail _ hz);have:=h w (.head _);rw[BJ,y4];omega
  have:=this ws w9;show y0 (show((ws.sum:Nat):Int).natAbs<=9000000000 by omega) ∅
 have D0:0<b*((ws.sum:Nat):Int):=BM b0 ⋯;have key:(((wtL ws (rs.map (tpR b))).sum:Int):Rat) / ((b*((ws.sum:Nat):Int):Int):Rat)=Wb ws rs:=by
  rw[zrm bd,A2];unfold Wb;have b1:=xV (show b≠0 by omega);have w1:=xV (show((ws.sum:Nat):Int)≠0 by omega);grind
 show#[tb,wb,kr,key,?_];rw[<-key];show zg4 D0 (sb.mono ⋯) ((bb.mul kr).mono ⋯)
def zsR(bN:Big fu)(hw:x.tupOf=eV (ksX ws))(w9:∀w∈ws,w<=1000000000)(w0:0<ws.sum)(h:S[n]? =eV (.lst xs))(rl:RL xs rs)(hb:∀r∈rs,NB N r)(hl:rs.length<=9/\ws.length<=rs.length)(hN:N<=9000):
  W (zaz [x,.ref n] S) λv S'=>v=qv (rQ (Wb ws rs))/\NB (11*N+60) (Wb ws rs)/\S<+:S':=by
 delta zay;let#[_,_,#[rfl,b,rfl,b0,bb,bd]]:=zoP bN h rl hb #[⋯,⋯];have hB:N*rs.length+1<=9*N+1:=by
  have:=Ao N hl.1;omega
 have bb:=bb.mono hB;let#[_,_,#[rfl,rfl]]:=zsQ h rl hb bb ⋯ hN ⋯;have ht:(S++[Ce.lst ((rs.map (tpR b)).map .int)])[S.length]? =eV (.lst ((rs.map (tpR b)).map .int)):=yz;have p1:S<+:S++[Ce.lst ((rs.map (tpR b)).map .int)]:=uW ..;generalize S.length=tn at ht ⊢;generalize S++[Ce.lst ((rs.map (tpR b)).map .int)]=S1 at ht p1 ⊢;have#[tb,wb,kr,key,nb]:=zmi w9 w0 hb hl b0 bb bd;have zl:(zdA (ksX ws) ((rs.map (tpR b)).map .int)).length=ws.length:=by rw[L2.zhS,yA,uZ,uZ];omega
 show ye (ya (zm (xF (zm (xi (zl5 ?_))))));calc#[_,_,hw,zC ht,zdA (ksX ws) ((rs.map (tpR b)).map .int),by change(yn S1 (.ref tn)).map (zdA (ksX ws))=_;rw[zC ht];rfl,?_];show yR (xs:=zdA (ksX ws) ((rs.map (tpR b)).map .int)) (by rw[zl];show A3 (Yg ⋯)) (λj es S'=>S1=S'/\es=((wtL ws (rs.map (tpR b))).take j).map .int) ?_ ?_ ?_ ?_;intro j es S' _ #[rfl,_];change(yn S1 (.ref tn)).map (zdA (ksX ws))=_;rw[zC ht];rfl;intro j y es S' hy fq #[rfl,rfl];have#[u,v,e1,e2,rfl]:=zkU hy;have#[w,ew,rfl]:=YK e1;rw[uY,uY,y3] at e2;have#[t,e2,rfl]:=e2;rw[y3] at e2;have#[r,er,rfl]:=e2;show .of rfl ?_;calc#[rfl,?_];calc xx (v7 (Bi (wb w (uX ew)).le (tb r (uX er)).le) ⋯) ?_;show#[rfl,?_];rw[AO,A1,show(wtL ws (rs.map (tpR b)))[j]? =eV ((w:Int)*tpR b r) by unfold wtL;rw[Em,ew,uY,er];rfl];rfl;show#[rfl,rfl]
 intro es S' fq #[rfl,rfl];have qF:(wtL ws (rs.map (tpR b))).length=ws.length:=by unfold wtL;rw[ED,uZ];omega
 rw[zl,Bh ⋯];calc zsP xW (zfd _) ?_;calc zle hw (zec ws) ?_;rw[zcY];show xx (v7 (Bi bb.le kr.le) ⋯) ?_;ext;have D0:0<b*((ws.sum:Nat):Int):=BM b0 ⋯;let#[_,_,#[rfl,rfl]]:=zki bN D0 (bb.mul kr) ⋯;show#[by rw[zea D0,key],nb,p1.trans (uW ..)]
end
section
variable{F:kx Q2->Q2}{G:kx Q2->Prop}
set_option tactic.hygienic true in
def zrn(hs:S[n]? =eV (.lst xs))(hn:W (m ρ S) λz S'=>z= .ref n/\S'=S)(hl:us.length=xs.length)(hx:xs.length<=100)(h:∀(i:Nat) x u,xs[i]? =eV x->us[i]? =eV u->W (e ((vw cap ρ).set 0 (eV x)) S) λw S'=>w=u/\S'=S)(k:P (.ref S.length) (S++[.lst us])):
  W (xt cap (iL m) (gN 0) xl e ρ S) P:=by
 show xi (TX (hn.imp ?_));intro _ _ #[rfl,rfl];rename_i S;show#[_,zC hs,_,zC hs,?_];show yR (A3 (Yg hx)) (λi es S2=>S2=S/\es=us.take i) (λ_ _ _ _ ⟨e,_⟩=>by rw[e];show zC hs) ?_ #[rfl,rfl] ?_;intro i w es S2 hw fq #[rfl,rfl];have hi:=(uT.1 hw).1;have hu:us[i]? =eV us[i]:=uV ⋯;show .of rfl ?_;calc#[rfl,(h i w _ hw hu).imp ?_];intro _ _ #[rfl,rfl];show#[rfl,(Aa ⋯).symm];intro es S2 _ #[rfl,rfl];rw[Bh ⋯];show k
def QxL(xs:kx Xv)(qs:kx Q2):Prop:=xs.length=qs.length/\∀(i:Nat) x q,xs[i]? =eV x->qs[i]? =eV q->QX x q
def ziG(G:kx Q2->Prop)(F:kx Q2->Q2)(xr:Xv):Prop:=∃(L:xD) (b7:kx Xv) (tw:kx Xv->TwF),xr= .lam L b7/\YZ [(zcl,zfo),(zcn,zfp),(zco,zfq)] L=eV tw/\
 ∀{S:Sto} {m:Nat} {xs:kx Xv} {qs:kx Q2},G qs->QxL xs qs->S[m]? =eV (.lst xs)->W (tw b7 [.ref m] S) λw S'=>QX w (F qs)/\S<+:S'
def zmj(hx:FX x f):W (eOp (yD mK) (eOp zB (zi 0) (qx 0)) (qE "fork") [eV x] S) λw S'=>w= .bl (isF f)/\S'=S:=by
 cases f with
 |leaf q=>
  have#[y,rfl,_]:=hx;ext;show zF #[rfl,rfl]
 |fork lv ks=>
  change x=_ at hx;subst hx;ext;show zF #[rfl,rfl]
def zsS{bs:kx Bool}(h:yn S x=eV l)(h2:Zu l=eV bs)(k:P (.bl (bs.any id)) S):WO (zhN [x] S) P:= .of (by unfold zhN;dsimp only;rw[h,z0,h2];rfl) k
theorem zfB{α:Type}(g:α->Bool):∀l:kx α,Zu (l.map λa=> .bl (g a))=eV (l.map g)
 |[]=>rfl
 |a::l=>by rw[y8,Zu,zfB g l];rfl
def zoQ(hz:∃st,yw ss st)(hr:ziG G F xr):ziv sn fn dn bl ss G F (.lam zcp [.ref sn,xr]):=#[zcp,[.ref sn,xr],zfr,rfl,XJ,λ{S fs as} h w ex h1 gZ va hf=>by
 have#[qN,kO]:=hz;have#[hV,v0]:=VaL.ex w kO ex;have#[fL,fl,qe]:=zd6 (P:=λ(a:Nat) (p:Nat)=>True) (as:=as) λa _=>#[0,trivial];have fN:∀a∈as,∃(f:zN) (x:Xv) (l:kx Xv),fs[a]? =eV f/\FX x f/\yn S (.ref fn)=eV l/\atI l (a:Int)=eV x:=λa ha=>by
  have#[f,e]:=ex a ha;have#[x,l,h1,h2,h3]:=h.fact e;show#[f,x,l,e,h1,h2,h3]
 obtain⟨ps,pl,kc⟩:∃ps:kx (zN×Xv),ps.length=as.length/\∀(n a:Nat) p,as[n]? =eV a->ps[n]? =eV p->fs[a]? =eV p.1/\FX p.2 p.1/\∃l,yn S (.ref fn)=eV l/\atI l (a:Int)=eV p.2:=by
  clear fL fl qe;clear v0 va ex h1 gZ
  induction as with
  |nil=>show#[[],rfl,λn a p e=>by simp at e]
  |cons a r ih=>
   have#[f,x,l,e1,e2,e3,e4]:=fN a (.head _);have#[ps,h1,h2]:=ih λb hb=>fN b (.tail _ hb);show#[(f,x)::ps,by simp[h1],λn b p oT lH=> ?_];cases n with
   |zero=>simp at oT lH;subst oT lH;show#[e1,e2,l,e3,e4]
   |succ n=>show h2 n b p (by simpa using oT) (by simpa using lH)
 clear fL fl qe fN;unfold zfr;show XL rfl rfl ?_;unfold zub;dsimp only[Ak,Bo,BI,C5];show yo ?_;calc#[_,_,rfl,h.o,rfl,?_];ext;delta WN;show zo (zO ?_);show zoD (xs:=ksX as) (us:=ps.map (·.2)) (zq rfl #[rfl,rfl]) (by rw[yA,uZ,pl]) (by rw[yA];omega) (λi x u e1 e2=> ?_) ?_;have#[a,ea,rfl]:=YK e1;rw[uY,y3] at e2;have#[p,ep,rfl]:=e2;have#[_,_,l,e3,e4]:=kc i a p ea ep;dsimp only[vw,Ak,v8];calc xm ?_;calc#[_,_,_,rfl,h.o,rfl,?_];ext;show wD e3 e4 #[rfl,rfl];dsimp only[v8];have lD:=h.pre (uW S [.lst (ps.map (·.2))]);have kh:(S++[Ce.lst (ps.map (·.2))])[S.length]? =eV (.lst (ps.map (·.2))):=yz;have p1:S<+:S++[Ce.lst (ps.map (·.2))]:=uW _ _;generalize S++[Ce.lst (ps.map (·.2))]=S1 at lD kh p1;generalize S.length=ln at kh ⊢;show zo (zG (xg (xF (zm ?_))));show zrn (n:=ln) (us:=ps.map λp=> .bl (isF p.1)) kh (zq rfl #[rfl,rfl]) (by simp) (by simp[pl];omega) (λi x u e1 e2=> ?_) ?_;rw[uY,y3] at e1 e2;have#[p,ep,rfl]:=e1;have#[p',ep',rfl]:=e2;rw[ep] at ep';cases ep';have ea:as[i]? =eV (as[i]'(by have:=(uT.1 ep).1;omega)):=uV _;dsimp only[vw,Ak,v8];show zmj (kc i _ p ea ep).2.1;calc zsS (bs:=ps.map λp=>isF p.1) xW (zfB (λp:zN×Xv=>isF p.1) ps) ?_;show#[_,rfl,λz=> ?_,λz=> ?_];calc .inl #[rfl,?_,p1.trans (uW _ _)];rw[FQ,Bu] at z;have#[p,hp,hF]:=z;have#[i,hi]:=Ab hp;have ea:as[i]? =eV (as[i]'(by have:=(uT.1 hi).1;omega)):=uV _;show#[_,uX ea,p.1,(kc i _ p ea hi).1,hF]
 show zv ?_;have h2:=lD.pre (uW S1 [.lst (ps.map λp=> .bl (isF p.1))]);have p2:S<+:S1++[.lst (ps.map λp=> .bl (isF p.1))]:=p1.trans (uW _ _);have lq:=xB (uW S1 [Ce.lst (ps.map λp=> .bl (isF p.1))]) kh;generalize S1++[Ce.lst (ps.map λp=> .bl (isF p.1))]=S3 at h2 p2 lq;have qQ:∀p∈ps,isF p.1=mK:=λp hp=>by
  cases e:isF p.1 with
  |false=>rfl
  |true=>
   have:(ps.map λp=>isF p.1).any id=hG:=by
    rw[FQ,Bu];show#[p,hp,e]
   rw[z] at this;cases this
 have lf:∀(i a:Nat) p,as[i]? =eV a->ps[i]? =eV p->∃q y,p=(.leaf q,.tup [.str "leaf",y])/\QX y q/\fs[a]? =eV (.leaf q):=λi a p ea ep=>by
  have#[e1,e2,_]:=kc i a p ea ep;have#[f,x]:=p;cases f with
  |fork lv ks=>show absurd (qQ _ (uX ep)) (by simp[isF])
  |leaf q=>
   have#[y,e3,e4]:=e2;show#[q,y,by simp only at e3;rw[e3],e4,e1]
 have hq:∀(i:Nat) q,hV[i]? =eV q->∃y a,ps[i]? =eV (.leaf q,.tup [.str "leaf",y])/\QX y q/\as[i]? =eV a/\fs[a]? =eV (.leaf q):=λi q e=>by
  have hi:=(uT.1 e).1;have hl:=v0.1;have ea:as[i]? =eV (as[i]'⋯):=uV _;have ep:ps[i]? =eV (ps[i]'⋯):=uV _;have#[q',y,e1,e2,e3]:=lf i _ _ ea ep;have#[hh,u]:=v0.2 i _ q ea e;have:=u.uniq (.leaf (h:=0) e3);subst this;rw[e1] at ep;show#[y,_,ep,e2,ea,e3]
 obtain⟨ys,yl,pV⟩:∃ys:kx Xv,ys.length=ps.length/\∀(i:Nat) p y,ps[i]? =eV p->ys[i]? =eV y->p.2= .tup [.str "leaf",y]:=by
  show#[ps.map λp=>match p.2 with| .tup [_,y]=>y|v=>v,by simp,λi p y e1 e2=> ?_];rw[uY,e1] at e2;have ea:as[i]? =eV (as[i]'(by have:=(uT.1 e1).1;omega)):=uV _;have#[q,y',rfl,_]:=lf i _ p ea e1;simp at e2;subst e2;rfl
 have#[L,b7,tw,rfl,hp,ht]:=hr;show ye (yo ?_);calc#[_,_,rfl,h2.o,rfl,?_];show zm (zdG rfl hp (zm ?_));show zrn (n:=ln) (us:=ys) lq (zq rfl #[rfl,rfl]) (by simp[yl]) (by simp[pl];omega) (λi x u e1 e2=> ?_) ?_;rw[uY,y3] at e1;have#[p,ep,rfl]:=e1;rw[pV i p u ep e2];dsimp only[vw,Ak,v8];ext;show#[rfl,rfl];ext;have h4:=h2.pre (uW S3 [.lst ys]);have p4:S<+:S3++[.lst ys]:=p2.trans (uW _ _);have rD:(S3++[Ce.lst ys])[S3.length]? =eV (.lst ys):=yz;show(ht (va qN kO hV v0) #[by have:=v0.1;omega,λi y q e1 e2=> ?_] rD).imp ?_;have#[y',a,e3,e4,_]:=hq i q e2;have:=pV i _ y e3 e1;simp at this;rw[<-this];show e4;intro v S5 #[hv,p5];let#[_,S6,#[i,tK,rfl,e6,ad,g]]:=zgS (h4.pre p5) ⋯ hv;have g':=(yQ.of_pre h (p4.trans p5)).trans g;show .inr #[i,tK,rfl,#[ex.mono g.pre,#[_,e6,λl hl=> ?_],λst hs qs v=> ?_],w.leaf g.st.nd ad,g'.more ⋯];have ea:as[0]? =eV (as[0]'⋯):=uV _;have eq:hV[0]? =eV (hV[0]'(by have:=v0.1;omega)):=uV _;have#[y,a,_,_,e1,e2]:=hq 0 _ eq;show(show l<=ss.length from hl a (uX e1) (.leaf _) (xB g.pre e2))
 have:qs=hV:=by
  show C8 λj=> ?_;by_cases hj:j<hV.length;have eq:hV[j]? =eV hV[j]:=uV hj;have ev:qs[j]? =eV (qs[j]'(by have:=v.1;have:=v0.1;omega)):=uV _;have#[y,a,_,_,e1,e2]:=hq j _ eq;have#[_,u]:=v.2 j a _ e1 ev;rw[eq,ev,u.uniq (.leaf (h:=0) (xB g.pre e2))];rw[z5 (by have:=v.1;have:=v0.1;omega),z5 (by have:=v.1;have:=v0.1;omega)]
 subst this
 show#[0,.leaf e6]]
end
section
variable{S' S2:Sto}{x y z:Xv}{fs fs':kx zN}{as:kx Nat}
def Tb(S:Sto):Prop:=∀(i:Nat) t,Yy[i]? =eV t->S[i+1]? =eV (.tab t)
def Tb.keep{w:Nat->Prop}(h:Tb S)(k:Kp w S S')(hw:∀i,i<Yy.length->¬w (i+1)):Tb S':=λi t e=>k.2 _ _ (h i t e) (hw i (uT.1 e).1)
def Tb.pre(h:Tb S)(p:S<+:S'):Tb S':=h.keep (Kp.pre (w:=λ_=>False) p) λ_ _ z=>z
def Tb.ne(h:Tb S)(e:S[n]? =eV c)(hc:∀t,c≠ .tab t)(hi:i<Yy.length):i+1≠n:=λz=>by
 have:=h i _ (uV hi);rw[z,e] at this;show hc _ (A0 this)
def Tb.grown(h:Tb S)(s:yU sn fn dn bx fs S)(g:yQ sn fn dn bx fs m S fs' S'):Tb S':=by
 have#[xs,_,e1,e2]:=s.fd';show h.keep g.kp λi hi z=>z.elim (h.ne e1 (λt=>by simp) hi) (h.ne e2 (λt=>zoA) hi)
structure TR(ss:kx Nat)(fs:kx zN)(f:kx Nat->Rat)(i:Nat):Prop where
 ex:∃g,fs[i]? =eV g
 va:∀st,yw ss st->∃h,VA fs st (rQ (f st)) h i
def TR.mono{f:kx Nat->Rat}(h:TR ss fs f i)(p:fs<+:fs'):TR ss fs' f i:=#[(let ⟨g,e⟩:=h.ex;#[g,xB p e]),λst hs=>by
 have#[n,v]:=h.va st hs
 show#[n,v.mono p]]
def TR.uq{f:kx Nat->Rat}(t:TR ss fs f i)(hs:yw ss st)(v:VA fs st q h i):q=rQ (f st):=by
 have#[_,u]:=t.va st hs;show v.uniq u
def TR.congr{f g:kx Nat->Rat}(t:TR ss fs f i)(h:∀st,yw ss st->f st=g st):TR ss fs g i:=#[t.ex,λst hs=>by rw[<-h st hs];show t.va st hs]
def TRP(ss:kx Nat)(f:kx Nat->Rat)(sn fn dn:Nat)(bl:kx Xv)(m:Nat)(fs:kx zN)(S:Sto):Xv->Sto->Prop:=λv S'=>∃(r:Nat) (fs':kx zN),v= .int (r:Int)/\TR ss fs' f r/\WF ss fs'/\yQ sn fn dn (.tup bl) fs m S fs' S'
structure TRs(ss:kx Nat)(fs:kx zN)(gs:kx (kx Nat->Rat))(as:kx Nat):Prop where
 len:as.length=gs.length
 at_:∀(i a:Nat) g,as[i]? =eV a->gs[i]? =eV g->TR ss fs g a
def TRs.mono{gs:kx (kx Nat->Rat)}(h:TRs ss fs gs as)(p:fs<+:fs'):TRs ss fs' gs as:=#[h.len,λi a g e1 e2=>(h.at_ i a g e1 e2).mono p]
def TRs.ex{gs:kx (kx Nat->Rat)}(h:TRs ss fs gs as):ExL fs as:=λa ha=>by
 have#[i,hi]:=Ab ha;have eg:gs[i]? =eV (gs[i]'(by have:=(uT.1 hi).1;have:=h.len;omega)):=uV _;show(h.at_ i a _ hi eg).ex
def TRs.vals{gs:kx (kx Nat->Rat)}(h:TRs ss fs gs as)(hs:yw ss st)(v:VaL fs st as qs):qs=(gs.map λg=>g st).map rQ:=by
 show C8 λi=> ?_;rw[BF,uY];by_cases hi:i<gs.length;have ea:as[i]? =eV (as[i]'(by have:=h.len;omega)):=uV _;have eg:gs[i]? =eV gs[i]:=uV hi;have eq:qs[i]? =eV (qs[i]'(by have:=h.len;have:=v.1;omega)):=uV _;have#[_,u]:=v.2 i _ _ ea eq;rw[eq,eg,(h.at_ i _ _ ea eg).uq hs u];rfl;rw[z5 (by have:=h.len;have:=v.1;omega),z5 ⋯];rfl
def TRs.cons{gs:kx (kx Nat->Rat)}{a:Nat}{g:kx Nat->Rat}(h:TRs ss fs gs as)(t:TR ss fs g a):TRs ss fs (g::gs) (a::as):=#[by simp[h.len],λi b f e1 e2=>by
 cases i with
 |zero=>simp at e1 e2;subst e1 e2;show t
 |succ i=>show h.at_ i b f (by simpa using e1) (by simpa using e2)]
def TRs.nil:TRs ss fs [] []:=#[rfl,λi a g e=>by simp at e]
def zlf{G:kx Q2->Prop}{F:kx Q2->Q2}{gs:kx (kx Nat->Rat)}{op:kx Nat->Rat}(bh:Bx9 ss bl)(hr:ziv sn fn dn bl ss G F xs)(h:yU sn fn dn (.tup bl) fs S)(w:WF ss fs)(t:TRs ss fs gs as)(h1:1<=as.length)(gZ:as.length<=12)
  (hg:∀st,yw ss st->G ((gs.map λg=>g st).map rQ)) (hF:∀st,yw ss st->F ((gs.map λg=>g st).map rQ)=rQ (op st)) (hf:fs.length+cst ss ss.length<=1000000) (hc:cst ss ss.length<=1000000):
  W (yf 24 [.ref sn,TM as,xs,.ref S.length] (S++[.dk []])) (TRP ss op sn fn dn bl (cst ss ss.length) fs S):=by
 let#[_,S2,#[r,aM,rfl,gd,w2,g2]]:=zmc bh hr h w t.ex h1 gZ (λst hs qs v=>by rw[t.vals hs v];show hg st hs) hf hc;have#[fr,er,_]:=gd.lv;show#[r,aM,rfl,#[#[fr,er],λst hs=> ?_],w2,g2];have#[qs,v]:=VaL.ex w2 hs gd.ex;have#[h',u]:=gd.va st hs qs v;rw[(t.mono g2.pre).vals hs v,hF st hs] at u;show#[h',u]
noncomputable def toR(q:Q2):Rat:=(q.1:Rat) / (q.2:Rat)
def zsT(r:Rat):toR (rQ r)=r:=by
 have h:=EV r;rw[Dy] at h;show h
def zqy(rs:kx Rat):(rs.map rQ).map toR=rs:=by
 rw[BF,show(toR ∘ rQ)=id from funext zsT,List.map_id]
def GN(N k:Nat)(qs:kx Q2):Prop:=∃rs:kx Rat,qs=rs.map rQ/\rs.length=k/\∀r∈rs,NB N r
noncomputable def opF(op:kx Rat->Rat)(qs:kx Q2):Q2:=rQ (op (qs.map toR))
def zg5{op:kx Rat->Rat}:opF op (rs.map rQ)=rQ (op rs):=by unfold opF;rw[zqy]
def QxL.rl(h:QxL xs (rs.map rQ)):RL xs rs:=#[by have:=h.1;rwa [uZ] at this,λi x r e1 e2=>h.2 i x _ e1 (by rw[uY,e2];rfl)]
noncomputable def pl2:kx Rat->Rat
 |[a,b]=>a+b
 |_=>0
noncomputable def mx2:kx Rat->Rat
 |[a,b]=>mxR a b
 |_=>0
def zg6{α:Type}{l:kx α}(h:l.length=2):∃a b,l=[a,b]:=by
 match l,h with
 |[a,b],_=>show#[a,b,rfl]
def zmk{N:Nat}(bN:Big fu)(hN:N<=30000000):ziG (GN N 2) (opF pl2) (.lam zcn []):=#[zcn,[],zfp,rfl,(Vk ∅).trans XJ,λ{S m xs qs} hg hx e=>by
 have#[rs,rfl,rl,nb]:=hg;have#[a,b,rfl]:=zg6 rl;have rx:=hx.rl;have#[x,y,rfl]:=zg6 (rx.len.trans rl);rw[zg5];unfold zfp;show XL rfl rfl ?_;unfold zt7;dsimp only[Ak,Bo,BI,C5];calc wD (zC e) rfl ?_;calc wD (zC e) rfl ?_;let#[_,_,#[rfl,rfl]]:=zsN bN (rx.at_ 0 x a rfl rfl) (rx.at_ 1 y b rfl rfl) (nb a (by simp)) (nb b (by simp)) ⋯
 show#[zow _,Ae _]]
def zg7{N:Nat}(hN:N<=30000000):ziG (GN N 2) (opF mx2) (.lam zco []):=#[zco,[],zfq,rfl,(Vk ∅).trans ((Vk ∅).trans XJ),λ{S m xs qs} hg hx e=>by
 have#[rs,rfl,rl,nb]:=hg;have#[a,b,rfl]:=zg6 rl;have rx:=hx.rl;have#[x,y,rfl]:=zg6 (rx.len.trans rl);rw[zg5];unfold zfq;show XL rfl rfl ?_;unfold zt9;dsimp only[Ak,Bo,BI,C5];calc wD (zC e) rfl ?_;calc wD (zC e) rfl ?_;let#[v,_,#[hv,rfl]]:=zmh (rx.at_ 0 x a rfl rfl) (rx.at_ 1 y b rfl rfl) (nb a (by simp)) (nb b (by simp)) ⋯
 show#[hv,Ae _]]
def zml{N:Nat}(bN:Big fu)(hw:xw.tupOf=eV (ksX ws))(w9:∀w∈ws,w<=1000000000)(w0:0<ws.sum)(hl:ws.length<=9)(hN:N<=9000):ziG (GN N ws.length) (opF (Wb ws)) (.lam zcl [xw]):=#[zcl,[xw],zfo,rfl,XJ,λ{S m xs qs} hg hx e=>by
 have#[rs,rfl,rl,nb]:=hg;have rx:=hx.rl;rw[zg5];unfold zfo;show XL rfl rfl ?_;unfold zt5;dsimp only[Ak,Bo,BI,C5];let#[v,_,#[rfl,_,p]]:=zsR bN hw w9 w0 e rx nb #[⋯,⋯] hN
 show#[zow _,p]]
end
section
inductive Rk where
 |one (a:Opd)
 |two (sg:Nat) (a b:Opd)
noncomputable def rsS:Nat->Str
 |0=>"+"
 |1=>"-"
 |_=>"*"
noncomputable def rkL:Rk->kx Xv
 | .one a=>[opX a]
 | .two sg a b=>[opX a,.str (rsS sg),opX b]
noncomputable def rkX(r:Rk):Xv:= .tup (rkL r)
noncomputable def rv(bs:kx (Str×Nat))(st:kx Nat):Rk->Int
 | .one a=>wv bs st a
 | .two 0 a b=>wv bs st a+wv bs st b
 | .two 1 a b=>wv bs st a-wv bs st b
 | .two _ a b=>wv bs st a*wv bs st b
def ziH(bs:kx (Str×Nat)):Rk->Prop
 | .one a=>zaG bs a
 | .two sg a b=>sg<3/\zaG bs a/\zaG bs b
def zed(ho:zaG bs o)(hs:yw (bs.map (·.2)) st)(h1:∀b∈bs,1<=b.2/\b.2<=9):(wv bs st o).natAbs<=1000000000:=by
 cases o with
 |num i=>show ho
 |nam z=>
  have#[k,hk]:=ho;have#[b,eb,_]:=zg0 hk;have#[v,ev,hv]:=hs.get (Th eb);have:=h1 b (uX eb);change(((st.getD ((fIx bs z).getD 0) 0:Nat):Int)).natAbs<=1000000000;rw[hk,AF,x9,ev,AF];omega
def TF(o:Opd):wx (opX o)=hG:=by cases o<;>rfl
def zb3(e:bs[k]? =eV b)(hm:opX o∈us)(h:o= .nam b.1):Rel bs us k:=by
 show#[b,e,?_];rw[Bu];show#[opX o,hm,?_];rw[h];simp[opX,zep]
def zoR(r:Rk):(rkL r).all wx=hG:=by
 cases r with
 |one a=>show(wx (opX a)&&hG)=hG;rw[TF];rfl
 |two sg a b=>show(wx (opX a)&&(hG&&(wx (opX b)&&hG)))=hG;rw[TF,TF];rfl
def zsU(hr:ziH bs r)(h:∀k,Rel bs (rkL r) k->st[k]? =st'[k]?):rv bs st r=rv bs st' r:=by
 cases r with
 |one a=>show zb2 hr λk b e q=>h k (zb3 e (by simp[rkL]) q)
 |two sg a b=>
  have#[_,ha,hb]:=hr;have e1:=zb2 (st:=st) (st':=st') ha λk c e q=>h k (zb3 e (by simp[rkL]) q);have e2:=zb2 (st:=st) (st':=st') hb λk c e q=>h k (zb3 e (by simp[rkL]) q);rcases sg with _|_|_;change wv bs st a+wv bs st b=wv bs st' a+wv bs st' b;rw[e1,e2];change wv bs st a-wv bs st b=wv bs st' a-wv bs st' b;rw[e1,e2];change wv bs st a*wv bs st b=wv bs st' a*wv bs st' b;rw[e1,e2]
def zg8(h9:bs.length<=9)(hs:yw (bs.map (·.2)) st)(h1:∀b∈bs,1<=b.2/\b.2<=9)(hr:ziH bs r):W (US [.tup (bsX bs),.tup (ksX st),rkX r] S) λv S'=>v= .int (rv bs st r)/\S<+:S':=by
 have hl:st.length=bs.length:=by rw[hs.1,uZ]
 delta UR;cases r with
 |one a=>
  unfold rkX rkL;let#[_,S2,#[rfl,p]]:=TD h9 hl hr
  try dsimp only[v8]
  show zo (zG ?_);calc xa ?_;calc#[λ_=> ?_,λz=>by simp at z];ext;show#[rfl,p]
 |two sg a b=>
  have#[nL,ha,hb]:=hr;have b1:=zed ha hs h1;have b2:=zed hb hs h1;unfold rkX rkL;let#[_,S2,#[rfl,p]]:=TD h9 hl ha
  try dsimp only[v8]
  show zo (zG ?_);calc xa ?_;calc#[λz=>by simp at z,λ_=>zv ?_];show zo (zO (ya (zm (zq rfl (zm (zq rfl (zm ?_)))))));calc zE rfl (show atI [opX a,Xv.str (rsS sg),opX b] 2=eV (opX b) from rfl) ?_;let#[_,S3,#[rfl,p3]]:=TD h9 hl hb
  try dsimp only[v8]
  show zo (zG ?_);ext;rcases(show sg=0\/sg=1\/sg=2 by omega) with rfl|rfl|rfl
  .skip
   show zF #[_,rfl,λ_=> ?_,λz=>absurd z ∅];ext;show#[rfl,p.trans p3]
  .skip
   show zF #[_,rfl,λz=>absurd z ∅,λ_=>zv ?_];show zo (zG ?_);calc zF #[_,rfl,λ_=> ?_,λz=>absurd z ∅];ext;show#[rfl,p.trans p3]
  .skip
   show zF #[_,rfl,λz=>absurd z ∅,λ_=>zv ?_];show zo (zG ?_);calc zF #[_,rfl,λz=>absurd z ∅,λ_=>zv ?_];ext;have l1:intBits (wv bs st a)<=60:=B4.mpr (y0 b1 ∅);have l2:intBits (wv bs st b)<=60:=B4.mpr (y0 b2 ∅);show xx ⋯ ?_;show#[rfl,p.trans p3]
def zee(h:W (evL ms ρ S) λds S1=>W (tw ds S1) P):W (zdq tw ms ρ S) P:=W.bind (h.imp λds S1 h=>by
 have#[v,S2,e,k]:=h;rw[e]
 show .of rfl k)
noncomputable def stp(lv s:Nat)(v:Int)(st:kx Nat):kx Nat:=st.set lv (v % (s:Int)).toNat
def zoS(bh:Bx9 ss (bsX bs)){lv s a:Nat}{f:kx Nat->Rat}(es:ss[lv]? =eV s)(hb:(bsX bs)[lv]? =eV (.tup [x,.int (s:Int)]))(h:yU sn fn dn (.tup (bsX bs)) fs S)(w:WF ss fs)(ha:TR ss fs f a)(hc:cst ss ss.length<=360)(hf:fs.length<=900000)(iD:s<=9):
  W (vM [.ref sn,.int (lv:Int),.int (a:Int)] S) λv S'=>∃(rs:kx Nat) (fs':kx zN),v= .tup (ksX rs)/\rs.length=s/\(∀(m r:Nat),rs[m]? =eV r->TR ss fs' (λst=>f (st.set lv m)) r)/\WF ss fs'/\yQ sn fn dn (.tup (bsX bs)) fs 3240 S fs' S':=by
 generalize mD:cst ss ss.length=c at hc;delta Yn;show ye (xF (zm (xi (wT (zM (zM (xm ?_)))))));calc#[_,_,_,rfl,h.o,rfl,?_];calc zE (l:=bsX bs) rfl (yd hb) ?_;calc#[#[⋯,⋯],_,rfl,?_];rw[z7];show yR (xs:=wk 0 s) (by rw[yg];show ZJ ⋯) (λi es S2=>∃(rs:kx Nat) (aM:kx zN),es=ksX rs/\rs.length=i/\(∀(m r:Nat),rs[m]? =eV r->TR ss aM (λst=>f (st.set lv m)) r)/\WF ss aM/\yQ sn fn dn (.tup (bsX bs)) fs (i*c) S aM S2) (λ_ _ _ _ _=>rfl) ?_ #[[],fs,rfl,rfl,(λm r e=>by simp at e),w,h.grown.more ⋯] ?_;intro i w0 gR S2 hw _ #[rs,aM,rfl,cY,eO,w2,g2];have#[hi,rfl]:=xu hw;rw[Bg];have mq:i*c<=8*c:=z9 _ ⋯;have f2:=g2.len;have#[fa,ea]:=(ha.mono g2.pre).ex;show .of rfl ?_;dsimp only[vw,Ak,v8];calc#[rfl,yo ?_];calc#[_,_,rfl,g2.st.o,rfl,?_];let#[_,S3,#[r,cy,rfl,fx,w3,g3]]:=zqu bh es hi g2.st w2 ea ⋯;rw[mD] at g3;have#[_,fr,_,er,_]:=fx.le;show#[rs++[r],cy,by rw[Zp],by simp[cY],λm r' e=> ?_,w3,(g2.trans g3).more (by rw[Ax];show v3 _)];rcases As m rs.length with h'|h'|h';rw[v5 h'] at e;show(eO m r' e).mono g3.pre;subst h';rw[w5 (v3 _),AU] at e;cases e;show#[#[fr,er],λst hs=> ?_];rw[cY];have#[hh,v]:=((ha.mono g2.pre).mono g3.pre).va (st.set lv i) (hs.set es hi);show fx.va st hs _ _ v;rw[z5 (by simp;omega)] at e;cases e;intro gR S2 _ #[rs,aM,rfl,cY,eO,w2,g2];rw[yg] at cY g2;have uy:s*c<=9*c:=z9 _ ⋯;calc Xu yz ?_;show#[rs,aM,rfl,cY,eO,w2,(g2.app (uW _ _)).more ⋯]
end
section
def zqz(h9:bs.length<=9)(hl:st.length=bs.length)(ht:zcR bs t):W (zdX [.tup (bsX bs),.tup (ksX st),tsX t] S) λv S'=>v= .bl (mkB bs t st)/\S<+:S':=by
 have#[ta,sg,tb]:=t;have#[h1,h2,h3]:=ht;delta zdW;show zo (zO (ya (zm (zq rfl (zm (zq rfl (zm ?_)))))));calc zE (l:=[opX ta,.str (sgS sg),opX tb]) rfl WL ?_;let#[_,S1,#[rfl,p1]]:=TD h9 hl h1;dsimp only[v8];show zo (zO (ya (zm (zq rfl (zm (zq rfl (zm ?_)))))));calc zE (l:=[opX ta,.str (sgS sg),opX tb]) rfl (show atI [opX ta,.str (sgS sg),opX tb] 2=eV (opX tb) from rfl) ?_;let#[_,S2,#[rfl,p2]]:=TD h9 hl h2;dsimp only[v8];have p:=p1.trans p2;have c:sg=0\/sg=1\/sg=2:=by have:sg<3:=h3;omega
 show zo (zG (xg (zM (zM (zq rfl ?_)))));calc zE (l:=[opX ta,.str (sgS sg),opX tb]) rfl ZW ?_;calc zF #[_,rfl,λzz=> ?_,λzz=>zv ?_];obtain rfl|rfl|rfl:=c;ext;show#[rfl,p];show absurd zz ∅;show absurd zz ∅;show zo (zG (xg (zM (zM (zq rfl ?_)))));calc zE (l:=[opX ta,.str (sgS sg),opX tb]) rfl ZW ?_;calc zF #[_,rfl,λz2=> ?_,λz2=>zv ?_];obtain rfl|rfl|rfl:=c;show absurd z2 ∅;ext;show#[rfl,p];show absurd z2 ∅;obtain rfl|rfl|rfl:=c;show absurd zz ∅;show absurd z2 ∅;ext;show#[rfl,p]
def zqA(h9:bs.length<=9)(h1:∀b∈bs,1<=b.2/\b.2<=9)(ho:zaG bs o)(h:yU sn fn dn (.tup (bsX bs)) fs S)(w:WF (bs.map (·.2)) fs)(ht:Tb S)(hf:fs.length+cst (bs.map (·.2)) (bs.map (·.2)).length<=1000000):
  W (Ws [.ref sn,opX o] S) (TRP (bs.map (·.2)) (λst=>((wv bs st o:Int):Rat)) sn fn dn (bsX bs) (cst (bs.map (·.2)) (bs.map (·.2)).length) fs S):=by
 delta Wr;show ye (Za ?_);calc#[_,_,rfl,h.o,rfl,?_];show zm (Zz ?_);calc Ut (ht 2 _ rfl) rfl ?_;ext
 have ru:RuM sn fn dn bs [opX o] (λst=>(wv bs st o,1)) (.lam zcm [.ref sn,opX o]):=#[#[zcm,[.ref sn,opX o],zfu,rfl,(Vk ∅).trans XJ,λ{S fs ns} h jc=>by
  unfold zfu;show XL rfl rfl ?_;unfold zuh;dsimp only[Ak,Bo,BI,C5];show Zz (zm (ya (zm (xm ?_))));calc#[_,_,_,rfl,h.o,rfl,?_];let#[_,S2,#[rfl,p]]:=TD h9 (by rw[jc.1,uZ]) ho;ext
  show#[rfl,p]],λst st' _ _ hd=>by
   change(wv bs st o,(1:Int))=(wv bs st' o,1)
   rw[zb2 ho λk b e q=>hd k (zb3 e (by simp) q)],by simp[TF],by simp]
 let#[_,S2,#[i,aM,rfl,e1,mk,w2,g]]:=zg3 h9 h1 ru h w hf;show#[i,aM,rfl,#[e1,mk],w2,g]
def zqB(ht:zcR bs t)(h:∀k,Rel bs [opX t.a,.str (sgS t.sg),opX t.b] k->st[k]? =st'[k]?):mkB bs t st=mkB bs t st':=by
 have e1:=zb2 ht.1 (λk b e q=>h k (zb3 e (by simp) q));have e2:=zb2 ht.2.1 (λk b e q=>h k (zb3 e (by simp) q));unfold mkB;rw[e1,e2]
noncomputable def bI(b:Bool):Int:=if b then 1 else 0
def zoT(h9:bs.length<=9)(h1:∀b∈bs,1<=b.2/\b.2<=9)(me:zcR bs t)(h:yU sn fn dn (.tup (bsX bs)) fs S)(w:WF (bs.map (·.2)) fs)(ht:Tb S)(hf:fs.length+cst (bs.map (·.2)) (bs.map (·.2)).length<=1000000):
  W (Yp [.ref sn,tsX t] S) (TRP (bs.map (·.2)) (λst=>((bI (mkB bs t st):Int):Rat)) sn fn dn (bsX bs) (cst (bs.map (·.2)) (bs.map (·.2)).length) fs S):=by
 delta Yo;show ye (Za ?_);calc#[_,_,rfl,h.o,rfl,?_];show zm (zq rfl (zm (Ut (ht 7 _ rfl) rfl ?_)));ext
 have ru:RuM sn fn dn bs [opX t.a,.str (sgS t.sg),opX t.b] (λst=>(bI (mkB bs t st),1)) (.lam zcr [.ref sn,tsX t]):=#[#[zcr,[.ref sn,tsX t],zfv,rfl,(Vk ∅).trans ((Vk ∅).trans XJ),λ{S fs ns} h jc=>by
  unfold zfv;show XL rfl rfl ?_;unfold zuj;dsimp only[Ak,Bo,BI,C5];show Wh (xg (ya (zm (xm ?_))));calc#[_,_,_,rfl,h.o,rfl,?_];let#[_,S2,#[rfl,p]]:=zqz h9 (by rw[jc.1,uZ]) me;unfold bI;cases mkB bs t ns with
  |true=>
   show#[_,rfl,λ_=> ?_,λzz=>(by cases zz)];ext;show#[rfl,p]
  |false=>
   show#[_,rfl,λzz=>(by cases zz),λ_=> ?_];ext
   show#[rfl,p]],λst st' _ _ hd=>by
   change(bI (mkB bs t st),(1:Int))=(bI (mkB bs t st'),1)
   rw[zqB me hd],by change(wx (opX t.a)&&(hG&&(wx (opX t.b)&&hG)))=hG;rw[TF,TF];rfl,by simp]
 let#[_,S2,#[i,aM,rfl,e1,mk,w2,g]]:=zg3 h9 h1 ru h w hf;show#[i,aM,rfl,#[e1,mk],w2,g]
def ziI(bh:Bx9 ss bl)(hz:∃st,yw ss st){g:kx Nat->Int}{gs:kx (kx Nat->Rat)}(h:yU sn fn dn (.tup bl) fs S)(w:WF ss fs)(ht:Tb S)(hn:TR ss fs (λst=>((g st:Int):Rat)) n)(hr:TRs ss fs gs rs)(hg:∀st,yw ss st->0<=g st/\g st<gs.length)(iD:gs.length<=9)(hc:cst ss ss.length<=400)(hf:fs.length<=900000):
  W (wG [.ref sn,.int (n:Int),.tup (ksX rs)] S) (TRP ss (λst=>(gs.map λg=>g st).getD (g st).toNat 0) sn fn dn bl 400 fs S):=by
 have rl:=hr.len;delta vT;show ye (Za ?_);calc#[_,_,rfl,h.o,rfl,?_];show zm (zM (Zz (zm (zq rfl (yi (zq rfl ?_))))));show TC (by rw[yA];simp only[y4,Aw];omega) ?_;rw[show [Xv.int (n:Int)]++ksX rs=ksX (n::rs) from rfl];show zm (Ut (ht 6 _ rfl) rfl ?_);calc(zlf (op:=λst=>(gs.map λg=>g st).getD (g st).toNat 0) bh (zka hz) h w (hr.cons hn) (by simp) (by rw[y4];omega) (λst hs=> ?_) (λst hs=> ?_) ⋯ ⋯).imp ?_;have#[h0,h1]:=hg st hs;change 0<=g st/\(g st).toNat<((gs.map λg=>g st).map rQ).length;simp;omega;have#[h0,h1]:=hg st hs;change((gs.map λg=>g st).map rQ).getD (g st).toNat (0,1)=_;have e:(gs.map λg=>g st)[(g st).toNat]? =eV ((gs.map λg=>g st)[(g st).toNat]'(by simp;omega)):=uV _;rw[x9,uY,x9,e];rfl;intro _ S2 #[r,aM,rfl,t2,w2,g2];show#[r,aM,rfl,t2,w2,g2.more hc]
def Tj(bh:Bx9 ss bl)(hz:∃st,yw ss st){gs:kx (kx Nat->Rat)}{op:kx Rat->Rat}{N:Nat}(hr:ziG (GN N as.length) (opF op) xr)(h:yU sn fn dn (.tup bl) fs S)(w:WF ss fs)(ht:Tb S)(t:TRs ss fs gs as)(h1:1<=as.length)(gZ:as.length<=12)(hn:∀st,yw ss st->∀g∈gs,NB N (g st))(hc:cst ss ss.length<=400)(hf:fs.length<=900000):
  W (xo [.ref sn,TM as,xr] S) (TRP ss (λst=>op (gs.map λg=>g st)) sn fn dn bl 400 fs S):=by
 delta vo;show ye (Za ?_);calc#[_,_,rfl,h.o,rfl,?_];show zm (zq rfl (zm (Ut (ht 5 _ rfl) rfl ?_)));calc(zlf (op:=λst=>op (gs.map λg=>g st)) bh (zoQ hz hr) h w t h1 gZ (λst hs=>#[_,rfl,by rw[uZ,t.len],λr hr=> ?_]) (λst hs=>zg5) ⋯ ⋯).imp ?_;have#[g,hg,rfl]:=Ad.1 hr;show hn st hs g hg;intro _ S2 #[r,aM,rfl,t2,w2,g2];show#[r,aM,rfl,t2,w2,g2.more hc]
def zqC(bN:Big fu)(bh:Bx9 ss bl)(hz:∃st,yw ss st){a b N:Nat}{f g:kx Nat->Rat}(h:yU sn fn dn (.tup bl) fs S)(w:WF ss fs)(ht:Tb S)(ha:TR ss fs f a)(hb:TR ss fs g b)(hn:∀st,yw ss st->NB N (f st)/\NB N (g st))(hN:N<=30000000)(hc:cst ss ss.length<=400)(hf:fs.length<=900000):
  W (Xl [.ref sn,.int (a:Int),.int (b:Int)] S) (TRP ss (λst=>f st+g st) sn fn dn bl 400 fs S):=by
 delta Xk;show ye (Za ?_);calc#[_,_,rfl,h.o,rfl,?_];show zm (Zz ?_);calc Ut (ht 3 _ rfl) rfl ?_;ext
 show Tj (as:=[a,b]) (gs:=[f,g]) bh hz (zmk bN hN) h w ht ((TRs.nil.cons hb).cons ha) (by simp) (by simp) (λst hs z i9=>by
  rcases x8.1 i9 with rfl|i9;show (hn st hs).1
  rw[A7.1 i9];show(hn st hs).2) hc hf
def zoU(bh:Bx9 ss bl)(hz:∃st,yw ss st){a b N:Nat}{f g:kx Nat->Rat}(h:yU sn fn dn (.tup bl) fs S)(w:WF ss fs)(ht:Tb S)(ha:TR ss fs f a)(hb:TR ss fs g b)(hn:∀st,yw ss st->NB N (f st)/\NB N (g st))(hN:N<=30000000)(hc:cst ss ss.length<=400)(hf:fs.length<=900000):
  W (Yr [.ref sn,.int (a:Int),.int (b:Int)] S) (TRP ss (λst=>mxR (f st) (g st)) sn fn dn bl 400 fs S):=by
 delta Yq;show ye (Za ?_);calc#[_,_,rfl,h.o,rfl,?_];show zm (Zz ?_);calc Ut (ht 4 _ rfl) rfl ?_;ext
 show Tj (as:=[a,b]) (gs:=[f,g]) bh hz (zg7 hN) h w ht ((TRs.nil.cons hb).cons ha) (by simp) (by simp) (λst hs z i9=>by
  rcases x8.1 i9 with rfl|i9;show (hn st hs).1
  rw[A7.1 i9];show(hn st hs).2) hc hf
def zmm(h9:bs.length<=9)(h1:∀b∈bs,1<=b.2/\b.2<=9)(hz:∃st,yw (bs.map (·.2)) st){b:Str×Nat}{f:kx Nat->Rat}(iW:fIx bs nm=eV lv)(eb:bs[lv]? =eV b)(hr:ziH bs r)(h:yU sn fn dn (.tup (bsX bs)) fs S)(w:WF (bs.map (·.2)) fs)(ht:Tb S)(ha:TR (bs.map (·.2)) fs f a)(hc:cst (bs.map (·.2)) (bs.map (·.2)).length<=360)(hf:fs.length<=850000):
  W (UY [.ref sn,.str nm,rkX r,.int (a:Int)] S) (TRP (bs.map (·.2)) (λst=>f (stp lv b.2 (rv bs st r) st)) sn fn dn (bsX bs) 4000 fs S):=by
 have bh:=zcx h1 h9;have hsz:=h1 b (uX eb);have es:=Th eb;delta UX;show zo (zO (ya (zm (xm ?_))));calc#[_,_,_,rfl,h.o,rfl,?_];let#[_,S1,#[rfl,p1]]:=zg1 h9 iW
 try dsimp only[v8]
 have iB:=h.pre p1;show zo (zO (zM (zM (xm ?_))));calc#[_,_,_,rfl,iB.o,rfl,?_];calc zE (l:=bsX bs) rfl (yd (Xx eb)) ?_;calc Za ?_;calc#[_,_,rfl,iB.o,rfl,?_];show zm (zq rfl (zm (Ut ((ht.pre p1) 0 _ rfl) rfl ?_)));ext
 have ru:RuM sn fn dn bs (rkL r) (λst=>(rv bs st r % (b.2:Int),1)) (.lam zck [.ref sn,rkX r,.int (b.2:Int)]):=#[#[zck,[.ref sn,rkX r,.int (b.2:Int)],zft,rfl,XJ,λ{S fs ns} h jc=>by
  unfold zft;show XL rfl rfl ?_;unfold zuf;dsimp only[Ak,Bo,BI,C5];show Zz (zm (zM (ya (zm (xm ?_)))));calc#[_,_,_,rfl,h.o,rfl,?_];let#[_,S2,#[rfl,p]]:=zg8 h9 jc h1 hr;calc vQ ⋯ ?_;ext
  show#[rfl,p]],λst st' _ _ hd=>by
   change(rv bs st r % (b.2:Int),(1:Int))=(rv bs st' r % (b.2:Int),1)
   rw[zsU hr hd],zoR r,by cases r<;>simp[rkL]]
 let#[_,S2,#[n,aM,rfl,e1,mk,w2,g2]]:=zg3 h9 h1 ru iB w ⋯
 try dsimp only[v8]
 have q2:=g2.len;show ye (Za ?_);calc#[_,_,rfl,g2.st.o,rfl,?_];show zm (zq rfl (zm (zee (zm (zq rfl (zm (zq rfl (zm (zq rfl (yi ?_))))))))));let#[_,S3,#[rs,cy,rfl,cY,eO,w3,g3]]:=zoS bh es (Xx eb) g2.st w2 (ha.mono g2.pre) hc ⋯ hsz.2;ext;have q3:=g3.len
 have jE:TRs (bs.map (·.2)) cy ((Ac b.2).map λm st=>f (st.set lv m)) rs:=#[by simp[cY],λi a g e1 e2=>by
  rw[uY,y3] at e2;have#[m,em,rfl]:=e2;have#[hm,rfl]:=uT.1 em;rw[EY]
  show eO i a e1]
 have mP:=((ht.pre p1).grown iB g2).grown g2.st g3;have hn:TR (bs.map (·.2)) cy (λst=>((rv bs st r % (b.2:Int):Int):Rat)) n:=TR.mono #[e1,mk] g3.pre;let#[_,S4,#[r4,dW,rfl,t4,w4,g4]]:=ziI bh hz g3.st w3 mP hn jE (λst hs=>#[Ap _ ⋯,by rw[uZ,CK];show Av _ ⋯]) (by rw[uZ,CK];omega) ⋯ ⋯;show#[r4,dW,rfl,t4.congr λst hs=> ?_,w4,(((yQ.of_pre h p1).trans g2).trans (g3.trans g4)).more ⋯];have h0:=Ap (rv bs st r) (show(b.2:Int)≠0 by omega);have h2:=Av (rv bs st r) (show(0:Int)<b.2 by omega);rw[BF,x9,uY,Dd ⋯];rfl
def zkj(bN:Big fu)(h9:bs.length<=9)(h1:∀b∈bs,1<=b.2/\b.2<=9)(hz:∃st,yw (bs.map (·.2)) st){lv a N:Nat}{b:Str×Nat}{f:kx Nat->Rat}(iW:fIx bs nm=eV lv)(eb:bs[lv]? =eV b)(hx:x.tupOf=eV (ksX ws))(hw:ws.length=b.2)(w9:∀w∈ws,w<=1000000000)(w0:0<ws.sum)(h:yU sn fn dn (.tup (bsX bs)) fs S)(w:WF (bs.map (·.2)) fs)(ht:Tb S)(ha:TR (bs.map (·.2)) fs f a)(hn:∀st,yw (bs.map (·.2)) st->NB N (f st))(hN:N<=9000)(hc:cst (bs.map (·.2)) (bs.map (·.2)).length<=360)(hf:fs.length<=850000):
  W (VD [.ref sn,.str nm,x,.int (a:Int)] S) (TRP (bs.map (·.2)) (λst=>Wb ws ((Ac b.2).map λm=>f (st.set lv m))) sn fn dn (bsX bs) 4000 fs S):=by
 have bh:=zcx h1 h9;have hsz:=h1 b (uX eb);have es:=Th eb;delta VC;show zo (zO (zee (zm (zq rfl (zm (zee (zm (xm ?_))))))));calc#[_,_,_,rfl,h.o,rfl,?_];let#[_,S1,#[rfl,p1]]:=zg1 h9 iW;have iB:=h.pre p1;let#[_,S3,#[rs,cy,rfl,cY,eO,w3,g3]]:=zoS bh es (Xx eb) iB w ha hc ⋯ hsz.2;dsimp only[v8];have q3:=g3.len
 have jE:TRs (bs.map (·.2)) cy ((Ac b.2).map λm st=>f (st.set lv m)) rs:=#[by simp[cY],λi a g e1 e2=>by
  rw[uY,y3] at e2;have#[m,em,rfl]:=e2;have#[hm,rfl]:=uT.1 em;rw[EY]
  show eO i a e1]
 show ye (Za ?_);calc#[_,_,rfl,g3.st.o,rfl,?_];show zm (zq rfl (zm (Ut (((ht.pre p1).grown iB g3) 1 _ rfl) rfl ?_)));calc(Tj (N:=N) (op:=Wb ws) bh hz (by rw[cY,<-hw];show zml bN hx w9 w0 ⋯ hN) g3.st w3 ((ht.pre p1).grown iB g3) jE ⋯ ⋯ (λst hs g hg=> ?_) ⋯ ⋯).imp ?_;have#[m,hm,rfl]:=Ad.1 hg;show hn _ (hs.set es (Ba.1 hm));intro _ S4 #[r4,dW,rfl,t4,w4,g4];show#[r4,dW,rfl,t4.congr λst hs=> ?_,w4,((yQ.of_pre h p1).trans (g3.trans g4)).more ⋯];rw[BF];rfl
def ziJ(h9:bs.length<=9)(h1:∀b∈bs,1<=b.2/\b.2<=9)(hz:∃st,yw (bs.map (·.2)) st){f g:kx Nat->Rat}(me:zcR bs t)(h:yU sn fn dn (.tup (bsX bs)) fs S)(w:WF (bs.map (·.2)) fs)(ht:Tb S)(ha:TR (bs.map (·.2)) fs f a)(hb:TR (bs.map (·.2)) fs g c)(hc:cst (bs.map (·.2)) (bs.map (·.2)).length<=360)(hf:fs.length<=850000):
  W (TB [.ref sn,tsX t,.int (a:Int),.int (c:Int)] S) (TRP (bs.map (·.2)) (λst=>if mkB bs t st then f st else g st) sn fn dn (bsX bs) 800 fs S):=by
 have bh:=zcx h1 h9;delta zb1;show ye (yo ?_);calc#[_,_,rfl,h.o,rfl,?_];show zm (yo ?_);calc#[_,_,rfl,h.o,rfl,?_];let#[_,S2,#[n,aM,rfl,t2,w2,g2]]:=zoT h9 h1 me h w ht ⋯;have q2:=g2.len;let#[_,S4,#[r4,dW,rfl,t4,w4,g4]]:=ziI (rs:=[c,a]) (gs:=[g,f]) bh hz g2.st w2 (ht.grown h g2) t2 ((TRs.nil.cons (ha.mono g2.pre)).cons (hb.mono g2.pre)) (λst hs=>by unfold bI;split<;>simp) (by simp) ⋯ ⋯;show#[r4,dW,rfl,t4.congr λst hs=> ?_,w4,(g2.trans g4).more ⋯];unfold bI;cases mkB bs t st<;>rfl
end
abbrev SF:=kx Nat->Rat
section
variable{S' S2:Sto}{x y z:Xv}{n:Nat}
noncomputable abbrev sz(bs:kx (Str×Nat)):kx Nat:=bs.map (·.2)
structure zaH(bs:kx (Str×Nat)):Prop where
 h9:bs.length<=9
 h1:∀b∈bs,1<=b.2/\b.2<=9
 hz:∃st,yw (bs.map (·.2)) st
 hc:cst (bs.map (·.2)) (bs.map (·.2)).length<=360
def NF(bs:kx (Str×Nat))(M:Nat)(f:SF):Prop:=∀st,yw (sz bs) st->NB M (f st)
def CB(bs:kx (Str×Nat))(D B:Nat)(f:SF):Prop:=∀st,yw (sz bs) st->∃i:Int,f st=(i:Rat) / (((D:Nat):Int):Rat)/\i.natAbs<=D*B
@[irreducible] noncomputable def tM:Nat:=2^1000
def zup:tM*tM<2^2001:=by
 unfold tM;decide+kernel
def zuq:tM<2^2001:=by
 unfold tM;decide+kernel
def CB.nf{D B:Nat}{f:SF}(h:CB bs D B f)(h0:0<D)(hD:D<=tM)(hB:B<=tM):NF bs 2001 f:=λst hs=>by
 have#[i,e,hi]:=h st hs;rw[e];show zg4 ⋯ (y0 (v7 hi (BP hD hB)) zup) (y0 (show((D:Nat):Int).natAbs<=tM by rw[C1];show hD) zuq)
def CB.mono{D B B':Nat}{f:SF}(h:CB bs D B f)(hB:B<=B'):CB bs D B' f:=λst hs=>by
 have#[i,e,hi]:=h st hs;show#[i,e,v7 hi (Ao _ hB)]
def CB.up{D B E:Nat}(h:CB bs D B f)(h0:0<D)(hE:0<E):CB bs (D*E) B f:=λst hs=>by
 have#[i,e,hi]:=h st hs;show#[i*(E:Int),?_,?_];have d0:=xV (show((D:Nat):Int)≠0 by omega);have e0:=xV (show((E:Nat):Int)≠0 by omega);rw[e,Ci,A2,A2];grind;rw[Cv,C1,Nat.mul_right_comm];show z9 _ hi
def Tk(bs:kx (Str×Nat))(k:Nat)(T:SF->SF):Prop:=∃E:Nat,0<E/\E<=2^(5*k)/\∀D B f,0<D->CB bs D B f->CB bs (D*E) (B+k*1000000000) (T f)
def Tk.mono{T:SF->SF}(h:Tk bs k T)(hk:k<=k'):Tk bs k' T:=by
 have#[E,e0,e1,e2]:=h;show#[E,e0,v7 e1 (B6 ∅ ⋯),λD B f d0 h=>(e2 D B f d0 h).mono (by have:=z9 1000000000 hk;omega)]
def Tk.one{T:SF->SF}(h:∀D B f,0<D->CB bs D B f->CB bs D B (T f)):Tk bs 0 T:=#[1,∅,∅,λD B f d0 k=>by
 rw[Nat.mul_one,Nat.zero_mul,Nat.add_zero]
 show h D B f d0 k]
def Tk.comp{T1 T2:SF->SF}(h1:Tk bs k1 T1)(h2:Tk bs k2 T2):Tk bs (k1+k2) (λf=>T1 (T2 f)):=by
 have#[E1,a0,a1,a2]:=h1;have#[E2,b0,b1,b2]:=h2;show#[E2*E1,Bj b0 a0,?_,λD B f d0 h=> ?_];rw[Ed,Eb,BE];show BP a1 b1;have:=a2 _ _ _ (Bj d0 b0) (b2 D B f d0 h);rw[Cg] at this;show this.mono ⋯
def Tk.sel{T T1 T2:SF->SF}(hT:∀f st,T f st=T1 f st\/T f st=T2 f st)(h1:Tk bs k1 T1)(h2:Tk bs k2 T2):Tk bs (k1+k2) T:=by
 have#[E1,a0,a1,a2]:=h1;have#[E2,b0,b1,b2]:=h2;show#[E1*E2,Bj a0 b0,?_,λD B f d0 h st hs=> ?_];rw[Ed,Eb];show BP a1 b1;have q1:=((a2 D B f d0 h).up (Bj d0 a0) b0).mono (show B+k1*1000000000<=B+(k1+k2)*1000000000 by omega);have q2:=((b2 D B f d0 h).up (Bj d0 b0) a0).mono (show B+k2*1000000000<=B+(k1+k2)*1000000000 by omega);rw[Cg] at q1 q2;rw[BE E2 E1] at q2;rcases hT f st with e|e;rw[e];show q1 st hs;rw[e];show q2 st hs
def Tk.ite{k1 k2:Nat}{T1 T2:SF->SF}{c:kx Nat->Bool}(h1:Tk bs k1 T1)(h2:Tk bs k2 T2):Tk bs (k1+k2) (λf st=>if c st=hG then T1 f st else T2 f st):=Tk.sel (λf st=>by
 try dsimp only
 split;show .inl rfl
 show .inr rfl) h1 h2
def Fw(D B k:Nat):Prop:=0<D/\D*2^(5*k)<=tM/\B+k*1000000000<=tM
def Fw.sub{D B k k':Nat}(h:Fw D B k)(hk:k'<=k):Fw D B k':=#[h.1,v7 (Ao _ (B6 ∅ ⋯)) h.2.1,v7 (Dc (z9 _ hk) _) h.2.2]
def Fw.step{D B k1 k2 E:Nat}(h:Fw D B (k1+k2))(e0:0<E)(e1:E<=2^(5*k2)):Fw (D*E) (B+k2*1000000000) k1:=#[Bj h.1 e0,by
 have:=h.2.1;rw[Ed,Eb,BE (2^(5*k1)),<-Cg] at this;show v7 (z9 _ (Ao _ e1)) this,by
 have:=h.2.2;rw[E9,EI (k1*_),<-Ez] at this
 show this]
def Fw.nf{D B k:Nat}{f:SF}(h:Fw D B k)(c:CB bs D B f):NF bs 2001 f:=c.nf h.1 (v7 (Nat.le_mul_of_pos_right _ (CO ∅)) h.2.1) (v7 (BQ _ _) h.2.2)
def Fw.nfT{D B k:Nat}{f:SF}{T:SF->SF}(h:Fw D B k)(t:Tk bs k T)(c:CB bs D B f):NF bs 2001 (T f):=by
 have#[E,e0,e1,e2]:=t;show(Fw.step (k1:=0) (by rw[DM];show h) e0 e1).nf (e2 _ _ _ h.1 c)
def Fb2(bs:kx (Str×Nat))(call:Nat->Nat->Sto->pf (Rs Xv))(T:SF->SF)(k:Nat):Prop:=Tk bs k T/\
 ∀{S:Sto} {sn fn dn a D B:Nat} {fs:kx zN} {f:SF},yU sn fn dn (.tup (bsX bs)) fs S->WF (sz bs) fs->Tb S->TR (sz bs) fs f a->CB bs D B f->Fw D B k->fs.length+4000*k<=850000->W (call sn a S) (TRP (sz bs) (T f) sn fn dn (bsX bs) (4000*k) fs S)
noncomputable def zcS(bs:kx (Str×Nat))(ct:Bool)(n:Nat)(x:Xv):=Fb2 bs λsn a S=>yk n [.ref sn,x,.int (a:Int),.bl ct] S
noncomputable def ziK(bs:kx (Str×Nat))(ct:Bool)(n:Nat)(xs:kx Xv):=Fb2 bs λsn a S=>yB n [.ref sn,.tup xs,.int (a:Int),.bl ct] S
inductive BL(P:Xv->(SF->SF)->Nat->Prop):List Xv->(SF->SF)->Nat->Prop
 |nil:BL P [] (λf=>f) 0
 |cons {x:Xv} {xs:List Xv} {T1 T2:SF->SF} {k1 k2:Nat}:P x T1 k1->BL P xs T2 k2->BL P (x::xs) (λf=>T1 (T2 f)) (k1+k2)
def BL.mono{P Q:Xv->(SF->SF)->Nat->Prop}{T:SF->SF}(h:BL P xs T k)(tu:∀x T k,P x T k->Q x T k):BL Q xs T k:=by
 induction h with
 |nil=>show .nil
 |cons a _ ih=>show .cons (tu _ _ _ a) ih
def BL.tk{P:Xv->(SF->SF)->Nat->Prop}(hP:∀x T k,P x T k->Tk bs k T){T:SF->SF}{k:Nat}(h:BL P xs T k):Tk bs k T:=by
 induction h with
 |nil=>show Tk.one λ_ _ _ _ h=>h
 |cons a b ih=>show(hP _ _ _ a).comp ih
def BL.snoc{P:Xv->(SF->SF)->Nat->Prop}{T:SF->SF}(h:BL P (p++[x]) T k):∃(T1 T2:SF->SF) (k1 k2:Nat),BL P p T1 k1/\P x T2 k2/\T=(λf=>T1 (T2 f))/\k=k1+k2:=by
 induction p generalizing T k with
 |nil=>
  cases h with
  |cons a b=>
   cases b with
   |nil=>show#[_,_,0,_,.nil,a,rfl,⋯]
 |cons y p ih=>
  cases h with
  |cons a b=>
   have#[T1,T2,k1,k2,h1,h2,rfl,rfl]:=ih b;show#[_,T2,_,k2,.cons a h1,h2,rfl,⋯]
def zlg{xs:kx Xv}{i:Nat}{w:Xv}(hi:i<xs.length)(hw:xs.reverse[i]? =eV w):xs.take (xs.length-i)=xs.take (xs.length-(i+1))++[w]:=by
 rw[CV hi] at hw;rw[show xs.length-i=(xs.length-(i+1))+1 by omega,AO,show xs.length-(i+1)=xs.length-1-i by omega,hw];rfl
def zur{T:SF->SF}(h:BL (zcS bs ct n) xs T k):ziK bs ct (n+1) xs T k:=by
 show#[h.tk λ_ _ _ h=>h.1,λ{S sn fn dn a D B fs f} st w tb ta cb fw hl=> ?_];change W (yB (n+1) _ S) _;rw[Xp];delta ZR;show zo (xM (zkZ (zq rfl #[_,rfl,_,rfl,?_])));show yZ (xs:=xs.reverse) (λi ρ S2=>∃(r:Nat) (aM:kx zN) (a4:pf Xv) (T1 T2:SF->SF) (k1 k2 D2 B2:Nat),ρ=[eV (.ref sn),eV (.tup xs),eV (.int (r:Int)),eV (.bl ct),a4]/\BL (zcS bs ct n) (xs.take (xs.length-i)) T1 k1/\T=(λf=>T1 (T2 f))/\k=k1+k2/\CB bs D2 B2 (T2 f)/\Fw D2 B2 k1/\TR (sz bs) aM (T2 f) r/\WF (sz bs) aM/\Tb S2/\yQ sn fn dn (.tup (bsX bs)) fs (4000*k2) S aM S2) (λ_ _ _ _ _=>rfl) ?_ #[a,fs,gi,T,λf=>f,k,0,D,B,rfl,by rw[Cr,A4];show h,rfl,rfl,cb,fw,ta,w,tb,st.grown] ?_
 .intro i w0 ρ S2 hw #[r,aM,a4,T1,T2,k1,k2,D2,B2,rfl,bl,rfl,rfl,jU,j7,t2,w2,fS,g2];have hi:i<xs.length:=by have:=(uT.1 hw).1;rwa [Br] at this
  have q2:=g2.len;rw[zlg hi hw] at bl;have#[T3,T4,k3,k4,oW,fd,rfl,rfl]:=bl.snoc;have#[E,e0,e1,e2]:=fd.1;show .of rfl ?_;dsimp only[v8];show zO (ya (zm (zq rfl (zm (zq rfl (zm (zq rfl (zm (zq rfl (yi ?_))))))))));let#[_,S3,#[r3,cy,rfl,t3,w3,g3]]:=fd.2 g2.st w2 fS t2 jU (j7.sub ⋯) ⋯;dsimp only[v8];show#[r3,cy,_,T3,λf=>T4 (T2 f),k3,k4+k2,D2*E,B2+k4*1000000000,rfl,oW,rfl,⋯,e2 _ _ _ j7.1 jU,j7.step e0 e1,t3,w3,fS.grown g2.st g3,(g2.trans g3).more ⋯]
 intro ρ S2 #[r,aM,a4,T1,T2,k1,k2,D2,B2,rfl,bl,rfl,rfl,jU,j7,t2,w2,_,g2];rw[Br,AU,El] at bl;cases bl;ext;show#[r,aM,rfl,t2,w2,g2.more ⋯]
def zoV{N:Nat}(h:i.natAbs<2^N)(h1:1<=N):NB N ((i:Int):Rat):=#[h,z6 (show((1:Nat):Int).natAbs<2^1 by decide) (B6 ∅ h1)]
def zcZ{l:kx Nat}{a:Nat}(h:a∈l):a<=l.sum:=by
 induction l with
 |nil=>cases h
 |cons b l ih=>
  rw[BJ];rcases x8.1 h with rfl|h;omega;have:=ih h;omega
def zus{D B:Nat}(h0:0<D):∀{ws:kx Nat} {rs:kx Rat},(∀r∈rs,∃i:Int,r=(i:Rat) / (((D:Nat):Int):Rat)/\i.natAbs<=D*B)->∃i:Int,wsR ws rs=(i:Rat) / (((D:Nat):Int):Rat)/\i.natAbs<=ws.sum*(D*B):=by
 have d0:=xV (show((D:Nat):Int)≠0 by omega);have z:(0:Rat)=((0:Int):Rat) / (((D:Nat):Int):Rat):=by
  rw[Fj];grind
 intro ws
 induction ws with
 |nil=>intro rs _;show#[0,z,by simp]
 |cons w ws ih=>
  intro rs h;cases rs with
  |nil=>show#[0,z,by simp]
  |cons r rs=>
   have#[i,e,hi]:=h r (.head _);have#[j,e2,hj]:=ih λq hq=>h q (.tail _ hq);show#[(w:Int)*i+j,?_,?_];change ((w:Int):Rat)*r+wsR ws rs=_;rw[e,e2,Cm,A2];grind;have h1:=Dx ((w:Int)*i) j;rw[Cv,C1] at h1;have h2:=Ao w hi;rw[BJ,E9];omega
def zsV(B:zaH bs)(iW:fIx bs b.1=eV lv)(eb:bs[lv]? =eV b)(hr:ziH bs r):zcS bs ct (n+1) (.tup [.str "set",.str b.1,rkX r]) (λf st=>f (stp lv b.2 (rv bs st r) st)) 1:=by
 show#[(Tk.one λD B2 f d0 hf st hs=>hf _ ?_).mono ⋯,λ{S sn fn dn a D B2 fs f} st w tb ta cb fw hl=> ?_];have:=B.h1 b (uX eb);have h0:=Ap (rv bs st r) (show(b.2:Int)≠0 by omega);have h2:=Av (rv bs st r) (show(0:Int)<(b.2:Int) by omega);show hs.set (Th eb) ⋯;change W (yk (n+1) _ S) _;rw[yF];delta xj;show zo (zG ?_);calc zF #[_,rfl,λ_=> ?_,λz=>absurd z ∅];calc zE rfl (show atI [Xv.str "set",.str b.1,rkX r] 2=eV (rkX r) from rfl) ?_;ext;show zmm B.h9 B.h1 B.hz iW eb hr st w tb ta B.hc ⋯
def zqD(bN:Big fu)(B:zaH bs)(iW:fIx bs b.1=eV lv)(eb:bs[lv]? =eV b)(hw:ws.length=b.2)(w3:ws.sum<=32)(w0:0<ws.sum):zcS bs ct (n+1) (.tup [.str "draw",.str b.1,.tup (ksX ws)]) (λf st=>Wb ws ((Ac b.2).map λm=>f (st.set lv m))) 1:=by
 have hb:=B.h1 b (uX eb);show#[#[ws.sum,w0,w3,λD B2 f d0 hf st hs=> ?_],λ{S sn fn dn a D B2 fs f} st w tb ta cb fw hl=> ?_]
 .obtain⟨i,e,hi⟩:=zus (ws:=ws) (rs:=(Ac b.2).map λm=>f (st.set lv m)) d0 (λr hr=>by
   have#[m,hm,rfl]:=Ad.1 hr
   show hf _ (hs.set (Th eb) (Ba.1 hm)))
  show#[i,?_,v7 hi ?_];have dz:=xV (show((D:Nat):Int)≠0 by omega);have ez:=xV (show((ws.sum:Nat):Int)≠0 by omega);change Wb _ _=_;unfold Wb;rw[e,Ci,A2];grind;rw[<-Cg,BE ws.sum D];show Ao _ ⋯
 (show W (yk (n+1) _ S) _;rw[yF];walk_at "wr";unfold xj;refine zo (zG ?_);ext);show zF #[_,rfl,λz=>absurd z ∅,λ_=>zv ?_];show zo (zG ?_);calc zF #[_,rfl,λ_=> ?_,λz=>absurd z ∅];calc zE rfl (show atI [Xv.str "draw",.str b.1,.tup (ksX ws)] 2=eV (.tup (ksX ws)) from rfl) ?_;ext;show zkj bN B.h9 B.h1 B.hz iW eb rfl hw (λw hw=>v7 (zcZ hw) ⋯) w0 st w tb ta (fw.nf cb) ∅ B.hc ⋯
def zqE(bN:Big fu)(B:zaH bs)(ho:zaG bs o):zcS bs ct (n+1) (.tup [.str "gain",opX o]) (λf st=>if ct=hG then f st+((wv bs st o:Int):Rat) else f st) 1:=by
 have wn:∀st,yw (sz bs) st->NB 31 (((wv bs st o:Int)):Rat):=λst hs=>zoV (y0 (zed ho hs B.h1) ∅) ∅;show#[#[1,∅,∅,λD B2 f d0 hf st hs=> ?_],λ{S sn fn dn a D B2 fs f} st w tb ta cb fw hl=> ?_];have#[i,e,hi]:=hf st hs;have hw:=zed ho hs B.h1;rw[Nat.mul_one,Nat.one_mul];dsimp only;split;show#[i+wv bs st o*(D:Int),?_,?_];have dz:=xV (show((D:Nat):Int)≠0 by omega);rw[e,Cm,A2];grind;have h1:=Dx i (wv bs st o*(D:Int));have h2:=z9 D hw;rw[Cv,C1] at h1;rw[Ed,BE D 1000000000];omega;show#[i,e,v7 hi (Ao _ ⋯)]
 (show W (yk (n+1) _ S) _;rw[yF];walk_at "wr";unfold xj;refine zo (zG ?_);ext);show zF #[_,rfl,λz=>absurd z ∅,λ_=>zv ?_];show zo (zG ?_);calc zF #[_,rfl,λz=>absurd z ∅,λ_=>zv ?_];show zo (zG (Wg ?_));calc zF #[_,rfl,λ_=> ?_,λz=>absurd z ∅];ext;cases ct with
 |true=>
  show#[λ_=> ?_,nofun];show ye (yo ?_);calc#[_,_,rfl,st.o,rfl,?_];let#[_,S2,#[i,aM,rfl,t2,w2,g2]]:=zqA B.h9 B.h1 ho st w tb (by have:=B.hc;omega);have q2:=g2.len;have hc:=B.hc;let#[_,S3,#[i3,cy,rfl,t3,w3,g3]]:=zqC bN (zcx B.h1 B.h9) B.hz g2.st w2 (tb.grown st g2) (ta.mono g2.pre) t2 (N:=2001) (λst hs=>#[fw.nf cb st hs,(wn st hs).mono ∅]) ∅ ⋯ ⋯;show#[i3,cy,rfl,t3,w3,(g2.trans g3).more ⋯]
 |false=>
  show#[nofun,λ_=>zv ?_];show zo (zG ?_);calc zF #[_,rfl,λz=>absurd z ∅,λ_=>zv ?_];show zo (zG ?_);calc zF #[_,rfl,λz=>absurd z ∅,λ_=>zv ?_];show zo (zG ?_);calc zF #[_,rfl,λz=>absurd z ∅,λ_=>zv ?_];show zo (zG ?_);calc zF #[_,rfl,λz=>absurd z ∅,λ_=>zv ?_];ext;show#[a,fs,rfl,ta,w,st.grown.more ⋯]
def zqF(B:zaH bs)(ht:zcR bs t):zcS bs ct (n+1) (.tup [.str "look",tsX t]) (λf st=>if mkB bs t st=hG then f st else 0) 1:=by
 show#[(Tk.one λD B2 f d0 hf st hs=> ?_).mono ⋯,λ{S sn fn dn a D B2 fs f} st w tb ta cb fw hl=> ?_]
 .try dsimp only
  split;show hf st hs;show#[0,?_,by simp];have dz:=xV (show((D:Nat):Int)≠0 by omega);rw[Fj];grind
 (show W (yk (n+1) _ S) _;rw[yF];walk_at "wr";unfold xj;refine zo (zG ?_);ext);show zF #[_,rfl,λz=>absurd z ∅,λ_=>zv ?_];show zo (zG ?_);calc zF #[_,rfl,λz=>absurd z ∅,λ_=>zv ?_];show zo (zG (Wg ?_));calc zF #[_,rfl,λz=>absurd z ∅,λ_=>#[nofun,λ_=>zv ?_]];show zo (zG ?_);calc zF #[_,rfl,λ_=> ?_,λz=>absurd z ∅];calc yo ?_;calc#[_,_,rfl,st.o,rfl,?_];let#[_,S2,#[i,aM,rfl,e2,ad,g2]]:=zgS st ⋯ (show QX (.ct [.int 0,.int 1]) (rQ 0) from rfl);have q2:=g2.len;let#[_,S3,#[i3,cy,rfl,t3,w3,g3]]:=ziJ (g:=λ_=>0) B.h9 B.h1 B.hz ht g2.st (w.leaf g2.st.nd ad) (tb.grown st g2) (ta.mono g2.pre) #[#[_,e2],λst hs=>#[0,.leaf e2]] B.hc ⋯;show#[i3,cy,rfl,t3,w3,(g2.trans g3).more ⋯]
def zqG:zcS bs ct (n+1) (.tup [.str "pass"]) (λf=>f) 1:=by
 show#[(Tk.one λD B2 f d0 hf=>hf).mono ⋯,λ{S sn fn dn a D B2 fs f} st w tb ta cb fw hl=> ?_];change W (yk (n+1) _ S) _;rw[yF];delta xj;show zo (zG ?_);calc zF #[_,rfl,λz=>absurd z ∅,λ_=>zv ?_];show zo (zG ?_);calc zF #[_,rfl,λz=>absurd z ∅,λ_=>zv ?_];show zo (zG (Wg ?_));calc zF #[_,rfl,λz=>absurd z ∅,λ_=>#[nofun,λ_=>zv ?_]];show zo (zG ?_);calc zF #[_,rfl,λz=>absurd z ∅,λ_=>zv ?_];show zo (zG ?_);calc zF #[_,rfl,λz=>absurd z ∅,λ_=>zv ?_];show zo (zG ?_);calc zF #[_,rfl,λz=>absurd z ∅,λ_=>zv ?_];show zo (zG ?_);calc zF #[_,rfl,λz=>absurd z ∅,λ_=>zv ?_];ext;show#[a,fs,rfl,ta,w,st.grown.more ⋯]
def zut(B:zaH bs){Ta Tb':SF->SF}(ht:zcR bs t)(ha:ziK bs ct n a Ta ka)(hb:ziK bs ct n b Tb' kb):zcS bs ct (n+1) (.tup [.str "if",tsX t,.tup a,.tup b]) (λf st=>if mkB bs t st=hG then Ta f st else Tb' f st) (1+ka+kb):=by
 show#[(ha.1.ite hb.1).mono ⋯,λ{S sn fn dn i D B2 fs f} st w tb ti cb fw hl=> ?_];change W (yk (n+1) _ S) _;rw[yF];delta xj;show zo (zG ?_);calc zF #[_,rfl,λz=>absurd z ∅,λ_=>zv ?_];show zo (zG ?_);calc zF #[_,rfl,λz=>absurd z ∅,λ_=>zv ?_];show zo (zG (Wg ?_));calc zF #[_,rfl,λz=>absurd z ∅,λ_=>#[nofun,λ_=>zv ?_]];show zo (zG ?_);calc zF #[_,rfl,λz=>absurd z ∅,λ_=>zv ?_];show zo (zG ?_);calc zF #[_,rfl,λ_=> ?_,λz=>absurd z ∅];show zo (zO (ya (zm (zq rfl (zm (zM (zq rfl ?_)))))));calc zE rfl (show atI [Xv.str "if",tsX t,.tup a,.tup b] 2=eV (.tup a) from rfl) ?_;let#[_,S2,#[ra,aM,rfl,t2,w2,g2]]:=ha.2 st w tb ti cb (fw.sub ⋯) ⋯;have q2:=g2.len;dsimp only[v8];show ye (ya (zm (zq rfl (zm (zM (zq rfl ?_))))));calc zE rfl (show atI [Xv.str "if",tsX t,.tup a,.tup b] 3=eV (.tup b) from rfl) ?_;let#[_,S3,#[rb,cy,rfl,t3,w3,g3]]:=hb.2 g2.st w2 (tb.grown st g2) (ti.mono g2.pre) cb (fw.sub ⋯) ⋯;have q3:=g3.len;let#[_,S4,#[r4,dW,rfl,t4,w4,g4]]:=ziJ B.h9 B.h1 B.hz ht g3.st w3 ((tb.grown st g2).grown g2.st g3) (t2.mono g3.pre) t3 B.hc ⋯;show#[r4,dW,rfl,t4,w4,((g2.trans g3).trans g4).more ⋯]
noncomputable def itS(T:SF->SF):Nat->SF->SF
 |0,f=>f
 |k+1,f=>T (itS T k f)
theorem zro{T:SF->SF}(h:Tk bs k T):∀i,Tk bs (i*k) (itS T i)
 |0=>by rw[Nat.zero_mul];show Tk.one λ_ _ _ _ h=>h
 |i+1=>by
  have:=h.comp (zro h i);show this.mono (by rw[Ax];omega)
def zoW{a:kx Xv}{T:SF->SF}{k kk:Nat}(ha:ziK bs ct n a T kk)(hk:k<=1000):zcS bs ct (n+1) (.tup [.str "times",.int (k:Int),.tup a]) (itS T k) (1+k*kk):=by
 show#[(zro ha.1 k).mono ⋯,λ{S sn fn dn i D B2 fs f} st w tb ti cb fw hl=> ?_];change W (yk (n+1) _ S) _;rw[yF];delta xj;show zo (zG ?_);calc zF #[_,rfl,λz=>absurd z ∅,λ_=>zv ?_];show zo (zG ?_);calc zF #[_,rfl,λz=>absurd z ∅,λ_=>zv ?_];show zo (zG (Wg ?_));calc zF #[_,rfl,λz=>absurd z ∅,λ_=>#[nofun,λ_=>zv ?_]];show zo (zG ?_);calc zF #[_,rfl,λz=>absurd z ∅,λ_=>zv ?_];show zo (zG ?_);calc zF #[_,rfl,λz=>absurd z ∅,λ_=>zv ?_];show zo (zG ?_);calc zF #[_,rfl,λ_=> ?_,λz=>absurd z ∅];show zo (xM (wT (zM (zq rfl ?_))));calc#[#[⋯,⋯],wk 0 k,by rw[z7],?_];show yZ (xs:=wk 0 k) (λj ρ S2=>∃(r:Nat) (aM:kx zN) (a5:pf Xv),ρ=[eV (.ref sn),eV (.tup [.str "times",.int (k:Int),.tup a]),eV (.int (r:Int)),eV (.bl ct),gi,a5]/\TR (sz bs) aM (itS T j f) r/\WF (sz bs) aM/\Tb S2/\(∃D3 B3,CB bs D3 B3 (itS T j f)/\Fw D3 B3 ((k-j)*kk))/\yQ sn fn dn (.tup (bsX bs)) fs (4000*(j*kk)) S aM S2) (λ_ _ _ _ _=>by rw[z7]) ?_ #[i,fs,gi,rfl,ti,w,tb,#[D,B2,cb,fw.sub (by rw[Cr];omega)],st.grown.more ⋯] ?_
 .intro j w0 ρ S2 hw #[r,aM,a5,rfl,t2,w2,fS,#[D3,B3,c3,f3],g2];have#[hj,rfl]:=xu hw;have q2:=g2.len;have hm:(j+1)*kk<=k*kk:=z9 _ hj;have o5:(j+1)*kk=j*kk+kk:=Ax j kk;have o4:(k-j)*kk=(k-(j+1))*kk+kk:=by rw[show k-j=(k-(j+1))+1 by omega,Ax]
  rw[o4] at f3;have#[E,e0,e1,e2]:=ha.1;show .of rfl ?_;dsimp only[v8];show zO (ya (zm (zq rfl (zm (zM (zq rfl ?_))))));calc zE rfl (show atI [Xv.str "times",.int (k:Int),.tup a] 2=eV (.tup a) from rfl) ?_;let#[_,S3,#[r3,cy,rfl,t3,w3,g3]]:=ha.2 g2.st w2 fS t2 c3 (f3.sub ⋯) ⋯;dsimp only[v8];show#[r3,cy,_,rfl,t3,w3,fS.grown g2.st g3,#[_,_,e2 _ _ _ f3.1 c3,f3.step e0 e1],(g2.trans g3).more ⋯]
 intro ρ S2 #[r,aM,a5,rfl,t2,w2,_,_,g2];rw[yg] at t2 g2;ext;show#[r,aM,rfl,t2,w2,g2.more ⋯]
end
section
noncomputable def mxL:kx Rat->Rat
 |[]=>0
 |r::rs=>rs.foldl mxR r
def zrp{N:Nat}(ha:NB N a)(hb:NB N b):NB N (mxR a b):=by
 unfold mxR;split;show hb;show ha
theorem zlh{N:Nat}:∀{rs:kx Rat} {r:Rat},NB N r->(∀q∈rs,NB N q)->NB N (rs.foldl mxR r)
 |[],_,h,_=>h
 |q::rs,r,h,k=>zlh (rs:=rs) (zrp h (k q (.head _))) λz hz=>k z (.tail _ hz)
noncomputable def sm(g:Nat->Nat):Nat->Nat
 |0=>0
 |j+1=>sm g j+g j
def zoX{g:Nat->Nat}(h:i<=j):sm g i<=sm g j:=by
 induction j with
 |zero=>rw[show i=0 by omega];show v3 _
 |succ j ih=>
  rcases D8 j i with c|c;rw[show i=j+1 by omega];show v3 _;show v7 (ih c) (BQ _ _)
structure BkL(bs:kx (Str×Nat))(ct:Bool)(n:Nat)(l:kx (kx Xv))(Ts:kx (SF->SF))(kf:Nat->Nat):Prop where
 len:l.length=Ts.length
 at_:∀(i:Nat) xs T,l[i]? =eV xs->Ts[i]? =eV T->ziK bs ct n xs T (kf i)
theorem zrq{kf:Nat->Nat}{T0:SF->SF}{Ts:kx (SF->SF)}(h:∀(i:Nat) T,(T0::Ts)[i]? =eV T->Tk bs (kf i) T):∀j,j<=Ts.length->Tk bs (sm kf (j+1)) (λf st=>((Ts.take j).map λT=>T f st).foldl mxR (T0 f st))
 |0,_=>(h 0 T0 rfl).mono (by change kf 0<=0+kf 0;omega)
 |j+1,hj=>by
  have e:Ts[j]? =eV Ts[j]:=uV ⋯;show Tk.sel (λf st=> ?_) (zrq h j ⋯) (h (j+1) Ts[j] (by rw[BW];show e));rw[AO,e,A1,CJ];change mxR _ _=_\/mxR _ _=_;unfold mxR;split;show .inr rfl;show .inl rfl
def zsW{kf:Nat->Nat}{Ts:kx (SF->SF)}(h:∀(i:Nat) T,Ts[i]? =eV T->Tk bs (kf i) T)(h1:1<=Ts.length):Tk bs (sm kf Ts.length) (λf st=>mxL (Ts.map λT=>T f st)):=by
 cases Ts with
 |nil=>simp at h1
 |cons T0 Ts=>
  have:=zrq h Ts.length (v3 _);rw[A4] at this;show this
def zmn(B:zaH bs){N:Nat}{g:SF}{gs:kx SF}(st:yU sn fn dn (.tup (bsX bs)) fs S)(w:WF (sz bs) fs)(tb:Tb S)(t:TRs (sz bs) fs (g::gs) (a::as))(hl:as.length<=20)(kg:S[ln]? =eV (.lst (ksX (a::as))))(nf:∀f∈g::gs,NF bs N f)(hN:N<=30000000)(hf:fs.length+400*as.length<=850000):
  W (zaB [.ref sn,.ref ln] S) (TRP (sz bs) (λs=>mxL ((g::gs).map λf=>f s)) sn fn dn (bsX bs) (400*as.length) fs S):=by
 have rl:=t.len;rw[y4,y4] at rl;delta zaA;show zo (zO (zM (zq rfl ?_)));calc wD (zC kg) (yd (i:=0) rfl) ?_;dsimp only[v8];show zo (xM (TX ?_));calc znX (zC kg) ?_;rw[show zbK (ksX (a::as)) (eV 1) gi=ksX as from by rw[show(1:Int)=((1:Nat):Int) from rfl,zoN _ 1 (by rw[yA];simp)];rfl];have iB:=st.pre (uW S [.lst (ksX as)]);have kz:=tb.pre (uW S [.lst (ksX as)]);have jm:(S++[Ce.lst (ksX as)])[S.length]? =eV (.lst (ksX as)):=yz;have g1:=yQ.of_pre st (uW S [.lst (ksX as)]);have dD:S.length≠fn/\S.length≠dn:=by have:=st.flt;omega
 generalize S.length=l1 at jm dD ⊢;generalize S++[Ce.lst (ksX as)]=S1 at iB kz jm g1 ⊢;show#[_,zC jm,_,zC jm,?_];show yZ (xs:=ksX as) (λi ρ S2=>∃(r:Nat) (aM:kx zN) (a3:pf Xv),ρ=[eV (.ref sn),eV (.ref ln),eV (.int (r:Int)),a3]/\TR (sz bs) aM (λs=>((gs.take i).map λf=>f s).foldl mxR (g s)) r/\WF (sz bs) aM/\Tb S2/\S2[l1]? =eV (.lst (ksX as))/\yQ sn fn dn (.tup (bsX bs)) fs (400*i) S aM S2) (λi ρ S2 _ ⟨_,_,_,_,_,_,_,e,_⟩=>zC e) ?_ #[a,fs,gi,rfl,t.at_ 0 a g rfl rfl,w,kz,jm,g1.more ⋯] ?_;intro i w0 ρ S2 hw #[r,aM,a3,rfl,t2,w2,fS,eR,g2];have#[k,ek,rfl]:=YK hw;have hi:=(uT.1 ek).1;have eg:gs[i]? =eV (gs[i]'⋯):=uV _;generalize gs[i]'⋯=f at eg;have tk:=(t.at_ (i+1) k f (by simpa using ek) (by simpa using eg)).mono g2.pre;have q2:=g2.len;have hc:=B.hc;show .of rfl ?_;dsimp only[v8];show zO (yo ?_);calc#[_,_,rfl,g2.st.o,rfl,?_];calc(zoU (N:=N) (zcx B.h1 B.h9) B.hz g2.st w2 fS t2 tk (λs hs=>#[zlh (nf g (.head _) s hs) λq hq=> ?_,nf f (.tail _ (uX eg)) s hs]) hN ⋯ ⋯).imp ?_;have#[f',jQ,rfl]:=Ad.1 hq;show nf f' (.tail _ (List.mem_of_mem_take jQ)) s hs;intro _ S3 #[r3,cy,rfl,t3,w3,g3];dsimp only[v8];show#[r3,cy,_,rfl,t3.congr λs hs=> ?_,w3,fS.grown g2.st g3,g3.kp.2 _ _ eR λz=>z.elim dD.1 dD.2,(g2.trans g3).more ⋯];rw[AO,eg,A1,CJ];rfl;intro ρ S2 #[r,aM,a3,rfl,t2,w2,_,_,g2];rw[yA] at t2 g2;rw[Bh ⋯] at t2;ext;show#[r,aM,rfl,t2,w2,g2]
set_option tactic.hygienic true in
def zqH(B:zaH bs){Ts:kx (SF->SF)}{kf:Nat->Nat}(hb:BkL bs ct n l Ts kf)(h1:1<=l.length)(h9:l.length<=9):zcS bs ct (n+1) (.tup [.str "hand",.tup (l.map .tup)]) (λf st=>mxL (Ts.map λT=>T f st)) (1+sm kf l.length):=by
 have bl:=hb.len;have tk:∀(i:Nat) T,Ts[i]? =eV T->Tk bs (kf i) T:=λi T hi=>by
  have el:l[i]? =eV (l[i]'(by have:=(uT.1 hi).1;omega)):=uV _;show(hb.at_ i _ T el hi).1
 show#[(zsW tk ⋯).mono (by rw[bl];omega),λ{S sn fn dn i D B2 fs f} st w tb ti cb fw hl=> ?_];have nfT:∀T∈Ts,NF bs 2001 (T f):=λT hT=>by
  have#[i,hi]:=Ab hT;have gW:=(uT.1 hi).1;have:sm kf (i+1)<=sm kf l.length:=zoX ⋯;show Fw.nfT (fw.sub (show kf i<=_ by change kf i<=1+sm kf l.length;have e:sm kf (i+1)=sm kf i+kf i:=rfl;omega)) (tk i T hi) cb
 (show W (yk (n+1) _ S) _;rw[yF];walk_at "wr";unfold xj;refine zo (zG ?_);ext);show zF #[_,rfl,λz=>absurd z ∅,λ_=>zv ?_];show zo (zG ?_);calc zF #[_,rfl,λz=>absurd z ∅,λ_=>zv ?_];show zo (zG (Wg ?_));calc zF #[_,rfl,λz=>absurd z ∅,λ_=>#[nofun,λ_=>zv ?_]];show zo (zG ?_);calc zF #[_,rfl,λz=>absurd z ∅,λ_=>zv ?_];show zo (zG ?_);calc zF #[_,rfl,λz=>absurd z ∅,λ_=>zv ?_];show zo (zG ?_);calc zF #[_,rfl,λz=>absurd z ∅,λ_=>zv ?_];show zo (zG ?_);calc zF #[_,rfl,λ_=> ?_,λz=>absurd z ∅];show ye (ya (zm (zq rfl (zm (xi (zjC ?_))))));ext;show yR (xs:=l.map .tup) (by rw[uZ];show A3 (Yg ⋯)) (λj es S2=>∃(rs:kx Nat) (aM:kx zN),es=ksX rs/\rs.length=j/\TRs (sz bs) aM ((Ts.take j).map λT=>T f) rs/\WF (sz bs) aM/\Tb S2/\yQ sn fn dn (.tup (bsX bs)) fs (4000*sm kf j) S aM S2) (λ_ _ _ _ _=>rfl) ?_ #[[],fs,rfl,rfl,TRs.nil,w,tb,st.grown.more ⋯] ?_
 .intro j w0 es S2 hw fq #[rs,aM,rfl,cY,t2,w2,fS,g2];rw[uY,y3] at hw;have#[xs,ex,rfl]:=hw;have hj:=(uT.1 ex).1;have eT:Ts[j]? =eV (Ts[j]'⋯):=uV _;generalize Ts[j]'⋯=T at eT;have q2:=g2.len;have hm:sm kf (j+1)<=sm kf l.length:=zoX hj;have o5:sm kf (j+1)=sm kf j+kf j:=rfl;show .of rfl ?_;calc#[rfl,?_];let#[_,S3,#[r3,cy,rfl,t3,w3,g3]]:=(hb.at_ j xs T ex eT).2 g2.st w2 fS (ti.mono g2.pre) cb (fw.sub ⋯) ⋯;show#[rs++[r3],cy,by rw[Zp],by simp[cY],#[by rw[y7,uZ,Az,cY];simp;omega,λi a g e1 e2=> ?_],w3,fS.grown g2.st g3,(g2.trans g3).more ⋯];rw[AO,eT,A1] at e2;have eR:((Ts.take j).map λT=>T f).length=rs.length:=by rw[uZ,Az];omega
  rcases D8 i rs.length with c|c;rw[v5 c] at e1;rw[v5 ⋯] at e2;show(t2.at_ i a g e1 e2).mono g3.pre;rw[w5 c] at e1;rw[w5 ⋯,eR] at e2;have#[h0,rfl]:=uT.1 e1;simp at h0;rw[h0] at e2;cases e2;simp only[h0,Ee];show t3
 intro es S2 _ #[rs,aM,rfl,cY,t2,w2,fS,g2];rw[uZ] at cY t2 g2;rw[Bh ⋯] at t2;have q2:=g2.len;have g3:=g2.app (uW S2 [.lst (ksX rs)]);cases rs with
 |nil=>rw[Aw] at cY;omega
 |cons a as=>
  cases Ts with
  |nil=>rw[Aw] at bl;omega
  |cons T Ts=>
   ext;rw[y4] at cY;rw[y8] at t2;show(zmn (N:=2001) (g:=T f) (gs:=Ts.map λ(T:SF->SF)=>T f) B (g2.st.pre (uW S2 [.lst (ksX (a::as))])) w2 (fS.pre (uW S2 [.lst (ksX (a::as))])) t2 ⋯ yz (λf' jQ=> ?_) ∅ ⋯).imp ?_;rcases x8.1 jQ with rfl|jQ;show nfT T (.head _);have#[T',t8,rfl]:=Ad.1 jQ;show nfT T' (.tail _ t8);intro _ S3 #[r3,cy,rfl,t3,w3,g4];show#[r3,cy,rfl,t3.congr λs hs=> ?_,w3,(g3.trans g4).more ⋯];rw[y8,BF,y8];rfl
end
section
def Zr(h:a≠b)(k:P (.bl mK) S):WO (yD mK (.str a) (.str b) S) P:=zF (by rw[decide_eq_false h];show k)
def TH(k:P (.bl hG) S):WO (yD mK (.str a) (.str a) S) P:=zF (by rw[decide_eq_true rfl];show k)
def zqI(kd:Str)(rest:kx Xv)(subs:kx (kx Xv)):Prop:=
 (kd="if"/\∃t a b,rest=[t,.tup a,.tup b]/\subs=[a,b])\/((kd="while"\/kd="times")/\∃t a,rest=[t,.tup a]/\subs=[a])\/(kd="hand"/\rest=[.tup (subs.map Xv.tup)])\/(kd≠"if"/\kd≠"while"/\kd≠"times"/\kd≠"hand"/\subs=[])
def zoY(h:zqI kd rest subs):W (Vx [.tup (.str kd::rest)] S) λv S'=>v= .tup (subs.map Xv.tup)/\S=S':=by
 delta Vw;show zo (zG ?_);ext;rcases h with⟨rfl,t,a,b,rfl,rfl⟩|⟨h,t,a,rfl,rfl⟩|⟨rfl,rfl⟩|⟨h1,h2,h3,h4,rfl⟩
 .show TH #[_,rfl,λ_=> ?_,nofun];calc zE rfl (show atI [Xv.str "if",t,.tup a,.tup b] 2=eV (.tup a) from rfl) ?_;calc zE rfl (show atI [Xv.str "if",t,.tup a,.tup b] 3=eV (.tup b) from rfl) ?_;ext;show#[rfl,rfl]
 .show Zr (by rcases h with rfl|rfl<;>decide) #[_,rfl,nofun,λ_=>zv ?_];show zo (zG (zcf ?_));ext;rcases h with rfl|rfl;show TH #[_,rfl,λ_=>#[λ_=> ?_,nofun],nofun];calc zE rfl (show atI [Xv.str "while",t,.tup a] 2=eV (.tup a) from rfl) ?_;ext;show#[rfl,rfl];show Zr ∅ #[_,rfl,nofun,λ_=> ?_];calc TH #[_,rfl,λ_=> ?_,nofun];calc zE rfl (show atI [Xv.str "times",t,.tup a] 2=eV (.tup a) from rfl) ?_;ext;show#[rfl,rfl]
 .show Zr ∅ #[_,rfl,nofun,λ_=>zv ?_];show zo (zG (zcf ?_));calc Zr ∅ #[_,rfl,nofun,λ_=> ?_];calc Zr ∅ #[_,rfl,nofun,λ_=>zv ?_];show zo (zG ?_);calc TH #[_,rfl,λ_=> ?_,nofun];ext;show#[rfl,rfl]
 show Zr h1 #[_,rfl,nofun,λ_=>zv ?_];show zo (zG (zcf ?_));calc Zr h2 #[_,rfl,nofun,λ_=> ?_];calc Zr h3 #[_,rfl,nofun,λ_=>zv ?_];show zo (zG ?_);calc Zr h4 #[_,rfl,nofun,λ_=>zv ?_];ext;show#[rfl,rfl]
abbrev Itm:=Str×kx Xv×kx (kx Xv×kx Str)
noncomputable def zef(p:Itm):Xv:= .tup (.str p.1::p.2.1)
noncomputable def zbt(p:Itm):kx Str:=p.1::(p.2.2.map (·.2)).flatten
inductive Bl:Nat->List Xv->List Str->Prop
 |mk {h:Nat} (ah:List Itm):(∀p∈ah,zqI p.1 p.2.1 (p.2.2.map (·.1)))->(∀p∈ah,∀q∈p.2.2,Bl h q.1 q.2)->Bl (h+1) (ah.map zef) (ah.map zbt).flatten
def YL(L:kx Xv)(hs:kx Str):Prop:=∃ps:kx (Str×kx Xv),L=ps.map (λp=> .tup (.str p.1::p.2))/\hs=ps.map (·.1)
def YL.len(h:YL L hs):L.length=hs.length:=by
 have#[ps,rfl,rfl]:=h;simp
def YL.app(h:YL L hs)(h':YL L' gJ):YL (L++L') (hs++gJ):=by
 have#[ps,rfl,rfl]:=h;have#[qs,rfl,rfl]:=h';show#[ps++qs,by simp,by simp]
def zfC{α β:Type}{f:α->kx β}{l:kx α}{a:α}(h:l[i]? =eV a):((l.take (i+1)).map f).flatten=((l.take i).map f).flatten++f a/\((l.take (i+1)).map f).flatten.length<=(l.map f).flatten.length:=by
 have#[hi,e]:=uT.1 h;show#[by rw[Aa hi,A1,EE,e];simp,?_];have:(l.map f).flatten=((l.take (i+1)).map f).flatten++((l.drop (i+1)).map f).flatten:=by rw[<-EE,<-A1,List.take_append_drop]
 rw[this,y7];omega
def szB(h:n<=2000):n<=FU:=v7 h ∅
def zoZ(b:Bl h ds hs):∀(m:Nat) (S:Sto),h<=m->hs.length<=1000->W (yY m [.tup ds] S) λv S'=>∃n L,v= .ref n/\S'[n]? =eV (.lst L)/\YL L hs/\S.length<=n/\Kp (λ_=>False) S S':=by
 induction b with
 | @mk h ah hb _ ih=>
  intro m S hm hl;obtain⟨m,rfl⟩:∃q,m=q+1:=#[m-1,⋯];rw[Yb];delta vL;calc xM (zch ?_);ext;show yZ (xs:=ah.map zef) (λi ρ S2=>∃(L:kx Xv) (a2 a3:pf Xv),ρ=[eV (.tup (ah.map zef)),eV (.ref S.length),a2,a3]/\YL L ((ah.take i).map zbt).flatten/\S2[S.length]? =eV (.lst L)/\Kp (λ_=>False) S S2) (λ_ _ _ _ _=>rfl) ?_ ?_ ?_
  .intro i w ρ S2 hw #[L,a2,a3,rfl,hL,e2,k2];rw[uY] at hw;cases hp:ah[i]? with
   |none=>rw[hp] at hw;cases hw
   |some p=>
    rw[hp] at hw;cases hw;have gK:=uX hp;have#[f1,f2]:=zfC (f:=zbt) hp;rw[f1,y7] at f2;have fJ:(zbt p).length=(p.2.2.map (·.2)).flatten.length+1:=by unfold zbt;simp
    show .of rfl ?_;dsimp only[v8];calc zcg ?_;calc#[#[_,zC e2],?_];ext;have uO:=hL.len;show Tu (ZL e2) (z6 (show L.length<2000 by omega) ∅) ?_;have k3:Kp (λ_=>False) S (S2.set S.length (.lst (L++[zef p]))):=k2.set (.inr (v3 _));have e3:=wq (c':= .lst (L++[zef p])) e2;generalize S2.set S.length (.lst (L++[zef p]))=S3 at k3 e3 ⊢;show xM (zch ?_);let#[_,S4,#[rfl,rfl]]:=zoY (hb p gK);show#[_,rfl,_,rfl,?_];show yZ (xs:=(p.2.2.map (·.1)).map Xv.tup) (λj ρ S5=>∃(L5:kx Xv) (a3:pf Xv),ρ=[eV (.tup (ah.map zef)),eV (.ref S.length),eV (zef p),a3]/\YL L5 (((ah.take i).map zbt).flatten++p.1::((p.2.2.take j).map (·.2)).flatten)/\S5[S.length]? =eV (.lst L5)/\Kp (λ_=>False) S S5) (λ_ _ _ _ _=>rfl) ?_ ?_ ?_
    .intro j w ρ S5 hw #[L5,a3,rfl,lC,e5,k5];rw[uY,uY] at hw;cases hq:p.2.2[j]? with
     |none=>rw[hq] at hw;cases hw
     |some q=>
      rw[hq] at hw;cases hw;have#[f3,f4]:=zfC (f:=λq:kx Xv×kx Str=>q.2) hq;rw[f3,y7] at f4;show .of rfl ?_;dsimp only[v8];calc zcg ?_;calc#[#[_,zC e5],?_];let#[_,S6,#[n6,L6,rfl,e6,qm,nZ,k6]]:=ih p gK q (uX hq) m S5 ⋯ ⋯;ext;have qA:=k6.2 _ _ e5 id;have l5:=lC.len;have l6:=qm.len;rw[y7,y4] at l5
      show WO.of (show XG (.ref S.length) [.ref n6] S6 = eV (.non, S6.set S.length (.lst (L5 ++ L6))) by
       unfold XG;rw[ZL qA];dsimp only
       rw[show Yw S6 (.ref n6)=eV L6 from zC e6,z0,GO (szB ⋯)]) ?_
      show#[L5++L6,_,rfl,?_,wq qA,(k5.trans k6).set (.inr (v3 _))];rw[f3];have:=lC.app qm;simpa using this
    .show#[L++[zef p],a3,rfl,?_,e3,k3];show hL.app #[[(p.1,p.2.1)],rfl,rfl]
    intro ρ S5 #[L5,a3,rfl,lC,e5,k5];rw[uZ,uZ,A4] at lC;show#[L5,_,_,rfl,by rw[f1];show lC,e5,k5]
  .show#[[],gi,gi,rfl,#[[],rfl,rfl],yz,Kp.pre (uW _ _)]
  intro ρ S2 #[L,a2,a3,rfl,hL,e2,k2];rw[uZ,A4] at hL;ext;show#[_,L,rfl,e2,hL,v3 _,k2]
theorem zfD:∀bs:kx Bool,Zu (bs.map Xv.bl)=eV bs
 |[]=>rfl
 |b::r=>by rw[y8];simp[Zu,zfD r]
def zmo(b:Bl h ds hs)(hh:h<=12)(hl:hs.length<=1000):W (Wm [.tup ds] S) λv S'=>v= .bl (!decide ((Str.ofString "while")∈hs))/\Kp (λ_=>False) S S':=by
 delta Wl;ext;show W.imp (P:=λv S'=>v= .bl (decide ((Str.ofString "while")∈hs))/\Kp (λ_=>False) S S') ?_ ?_
 .delta Vy;show ye (xF (zm (xi (TX ?_))));let#[_,S2,#[n,L,rfl,e2,#[ps,rfl,rfl],hn,k2]]:=zoZ b 12 S hh hl;show#[_,zC e2,_,zC e2,?_];show yR (by simpa using szB (by simp at hl;omega)) (λi es S3=>S3=S2/\es=((ps.take i).map λp=>decide (p.1=Str.ofString "while")).map Xv.bl) ?_ ?_ #[rfl,rfl] ?_;intro i es _ _ #[rfl,_];show zC e2
  .intro i w es _ hw fq #[rfl,rfl];rw[uY] at hw;cases hp:ps[i]? with
   |none=>rw[hp] at hw;cases hw
   |some p=>
    rw[hp] at hw;cases hw;show .of rfl ?_;dsimp only[vw,Ak,v8];calc#[rfl,?_];calc zF #[rfl,?_];have#[hi,e]:=uT.1 hp;rw[Aa hi,A1,A1,e];rfl
  intro es S3 _ #[rfl,rfl];rw[uZ,A4];ext
  show WO.of (show zhN [.ref S3.length] _ = eV (.bl ((ps.map λp => decide (p.1 = Str.ofString "while")).any id), _) by
   unfold zhN;dsimp only;rw[xW,z0,zfD];rfl) ?_
  show#[?_,k2.app]
  congr 1
  rw[AV,decide_eq_true_iff,Bu];constructor;intro#[b,hb,oF];have#[p,hp,rfl]:=Ad.1 hb;show Ad.2 #[p,hp,of_decide_eq_true oF];intro h;have#[p,hp,e]:=Ad.1 h;show#[_,Ad.2 #[p,hp,rfl],decide_eq_true e]
 intro _ S2 #[rfl,k2];ext;show#[rfl,k2]
def zf3(h:Nat)(x:Xv)(hs:kx Str):Prop:=∃it:Itm,x=zef it/\hs=zbt it/\zqI it.1 it.2.1 (it.2.2.map (·.1))/\∀q∈it.2.2,Bl h q.1 q.2
def zuu:∀{xs:kx (Xv×kx Str)},(∀p∈xs,zf3 h p.1 p.2)->Bl (h+1) (xs.map (·.1)) (xs.map (·.2)).flatten:=λ{xs} hx=>by
 have:∀xs:kx (Xv×kx Str),(∀p∈xs,zf3 h p.1 p.2)->∃ah:kx Itm,ah.map zef=xs.map (·.1)/\ah.map zbt=xs.map (·.2)/\(∀p∈ah,zqI p.1 p.2.1 (p.2.2.map (·.1)))/\∀p∈ah,∀q∈p.2.2,Bl h q.1 q.2:=by
  intro xs
  induction xs with
  |nil=>intro _;show#[[],rfl,rfl,(λp hp=>by cases hp),λp hp=>by cases hp]
  |cons x r ih=>
   intro hx;have#[it,e1,e2,b1,b2]:=hx x y6;have#[ah,i1,i2,i3,i4]:=ih λp hp=>hx p (w6 _ hp);show#[it::ah,by rw[y8,y8,i1,e1],by rw[y8,y8,i2,e2],λp hp=> ?_,λp hp=> ?_];rcases x8.1 hp with rfl|hp;show b1;show i3 p hp;rcases x8.1 hp with rfl|hp;show b2;show i4 p hp
 have#[ah,i1,i2,i3,i4]:=this xs hx;have:=Bl.mk ah i3 i4;rw[i1,i2] at this;show this
def zuv(h:Nat){kd:Str}(h1:kd≠"if")(h2:kd≠"while")(h3:kd≠"times")(h4:kd≠"hand"):zf3 h (.tup (.str kd::rest)) [kd]:=#[(kd,rest,[]),rfl,rfl,.inr (.inr (.inr #[h1,h2,h3,h4,rfl])),λq hq=>by cases hq]
def zo0{xs:kx Xv}{T:SF->SF}{k h D B:Nat}{hs:kx Str}(b:Bl h xs hs)(hh:h<=12)(hl:hs.length<=1000)(hw:(Str.ofString "while")∉hs)(hb:ziK bs ct 8 xs T k){f:SF}{a:Nat}(st:yU sn fn dn (.tup (bsX bs)) fs S)(w:WF (sz bs) fs)(tb:Tb S)(ta:TR (sz bs) fs f a)(cb:CB bs D B f)(fw:Fw D B k)(hf:fs.length+4000*k<=850000):
  W (VF [.ref sn,.tup xs,.int (a:Int),.bl ct] S) (TRP (sz bs) (T f) sn fn dn (bsX bs) (4000*k) fs S):=by
 delta VE;show zo (zG ?_);let#[_,S2,#[rfl,k2]]:=zmo b hh hl;rw[decide_eq_false hw];show#[_,rfl,nofun,λ_=>zv ?_];let#[_,S3,#[r,cy,rfl,t3,w3,g3]]:=hb.2 (st.keep k2 id id id) w (tb.keep k2 λ_ _=>id) ta cb fw hf;show#[r,cy,rfl,t3,w3,g3.st,g3.pre,g3.len,(k2.mono λ_ z=>z.elim).trans g3.kp]
end
section
def zli(h:c<l):ixN l (c:Int)=eV c:=by
 unfold ixN;rw[GO ⋯,GO ⋯,z7]
def zlj(ks:kx Nat)(j r:Nat):(ksX ks).set j (.int (r:Int))=ksX (ks.set j r):=by unfold ksX;rw[List.map_set]
def zg9(dH:(bs.map (·.1)).Nodup)(e:bs[k]? =eV b):fIx bs b.1=eV k:=by
 unfold fIx;rw[Bf];have#[hk,hb]:=uT.1 e;show#[hk,by rw[hb];show decide_eq_true rfl,λj hj z=> ?_];have z:=of_decide_eq_true z;have e1:(bs.map (·.1))[j]? =eV b.1:=by rw[uY,uV (show j<bs.length by omega)];show congrArg eV z
 have e2:(bs.map (·.1))[k]? =eV b.1:=by rw[uY,e];rfl
 have#[j1,q1]:=uT.1 e1;have#[k1,q2]:=uT.1 e2;have:=(CT dH).1 (q1.trans q2.symm);omega
def zo1(h9:bs.length<=9)(h1:∀b∈bs,1<=b.2/\b.2<=9)(dH:(bs.map (·.1)).Nodup)(hs:st.length=bs.length)(eb:bs[lv]? =eV b):W (Yd [.tup (bsX bs),.tup (ksX st),.str b.1,.int v] S) λw S'=>w= .tup (ksX (stp lv b.2 v st))/\Kp K0 S S':=by
 delta Tc;calc WO.of (show zkM [.tup (ksX st)] S=eV (.ref S.length,S++[.lst (ksX st)]) from rfl) ?_;calc xM (wT (xF (zm (zq rfl (yi (xa ?_))))));rw[vA];show#[_,rfl,#[⋯,⋯],_,rfl,?_];rw[z7];have hb:=h1 b (uX eb);have jL:=(uT.1 eb).1;show yZ (xs:=wk 0 bs.length) (λi ρ S2=>∃a5,ρ=[eV (.tup (bsX bs)),eV (.tup (ksX st)),eV (.str b.1),eV (.int v),eV (.ref S.length),a5]/\S2[S.length]? =eV (.lst (ksX (if lv<i then stp lv b.2 v st else st)))/\Kp K0 S S2) (λ_ _ _ _ _=>rfl) ?_ #[gi,rfl,by rw[GP ⋯];show yz,Kp.pre (uW _ _)] ?_
 .intro i w0 ρ S2 hw #[a5,rfl,h2,k2];have#[hi,rfl]:=xu hw;rw[Bg];have ei:bs[i]? =eV bs[i]:=uV hi;generalize bs[i]=c at ei;show .of rfl ?_;dsimp only[v8];show zG ?_;calc zE (l:=bsX bs) rfl (yd (Xx ei)) ?_;calc zF #[_,rfl,λz=> ?_,λz=>zv #[_,rfl,?_,k2]];have z:=of_decide_eq_true z;have q1:=zg9 dH ei;have q2:=zg9 dH eb;rw[z,q2] at q1;cases q1;rw[eb] at ei;cases ei;show zhR ?_;calc zE (l:=bsX bs) rfl (yd (Xx eb)) ?_;calc vQ ⋯ ?_;ext;rw[GP (B7 _)] at h2;show#[_,_,_,lv,ZL h2,rfl,zli (by rw[yA];omega),_,rfl,?_,k2.set (.inr (v3 _))];have h0:=Ap v (show(b.2:Int)≠0 by omega);rw[wq h2,GO ⋯];unfold stp;rw[<-zlj,Bs h0]
  have z:=of_decide_eq_false z;have dD:i≠lv:=λe=>by
   subst e;rw[eb] at ei;cases ei;show z rfl
  by_cases q:lv<i;rw[GO q] at h2;rw[GO ⋯];show h2;rw[GP q] at h2;rw[GP ⋯];show h2
 intro ρ S2 #[a5,rfl,h2,k2];rw[yg,GO jL] at h2;ext;show Xu h2 #[rfl,k2]
def zsX(h9:bs.length<=9)(h1:∀b∈bs,1<=b.2/\b.2<=9)(dH:(bs.map (·.1)).Nodup)(hs:yw (bs.map (·.2)) st)(eb:bs[lv]? =eV b)(hr:ziH bs r):W (XX [.tup (bsX bs),.tup (ksX st),Xv.tup [.str "set",.str b.1,rkX r]] S) λw S'=>w= .tup (ksX (stp lv b.2 (rv bs st r) st))/\Kp K0 S S':=by
 have hl:st.length=bs.length:=by rw[hs.1,uZ]
 have two:atI [Xv.str "set",.str b.1,rkX r] 2=eV (rkX r):=rfl;have fin:∀{S2:Sto} {v:Int} {a3 a4:pf Xv} {N:Rho->Sto->Prop},a3=eV (.int v)->v=rv bs st r->Kp K0 S S2->WS (zR (zx (Yd) [zi 0,zi 1,eOp zB (zi 2) (qx 1),zi 3]) [eV (.tup (bsX bs)),eV (.tup (ksX st)),eV ((Xv.tup [.str "set",.str b.1,rkX r])),a3,a4] S2) N λw S'=>w= .tup (ksX (stp lv b.2 (rv bs st r) st))/\Kp K0 S S':=by
  rintro S2 v a3 a4 N rfl rfl k2;let#[_,S3,#[rfl,k3]]:=zo1 h9 h1 dH hl eb;show#[rfl,k2.trans k3]
 delta Td;show zo (zO (ya (zm (zq rfl (zm (zq rfl (zm (zM (zM (zq rfl (wm ?_))))))))))) ;show zE rfl two ?_;cases r with
 |one a=>
  unfold rkX rkL;let#[_,_,#[rfl,rfl]]:=WT h9 hl hr
  try dsimp only[v8]
  show zo (zG (xg (zM (xF (zm (zM (zq rfl (wm ?_))))))));show zE rfl (show atI [Xv.str "set",.str b.1,.tup [opX a]] 2=eV (.tup [opX a]) from rfl) ?_;calc xa ?_;calc#[λz=>by simp at z,λ_=>zv ?_];show fin rfl rfl (Kp.refl _)
 |two sg a c=>
  have#[nL,ha,hc]:=hr;have b1:=zed ha hs h1;have b2:=zed hc hs h1;unfold rkX rkL;have two':atI [Xv.str "set",.str b.1,.tup [opX a,.str (rsS sg),opX c]] 2=eV (.tup [opX a,.str (rsS sg),opX c]):=rfl;let#[_,_,#[rfl,rfl]]:=WT h9 hl ha
  try dsimp only[v8]
  show zo (zG (xg (zM (xF (zm (zM (zq rfl (wm ?_))))))));show zE rfl two' ?_;calc xa ?_;calc#[λ_=> ?_,λz=>by simp at z];show zo (zO (ya (zm (zq rfl (zm (zq rfl (zm (zM (zM (zq rfl (wm ?_)))))))))));show zE rfl two' ?_;calc zE rfl (show atI [opX a,Xv.str (rsS sg),opX c] 2=eV (opX c) from rfl) ?_;let#[_,_,#[rfl,rfl]]:=WT h9 hl hc
  try dsimp only[v8]
  have one:∀{w:Str} {e:TwE} {v:Xv} {S:Sto} {N:Rho->Sto->Prop} {R:Xv->Sto->Prop} {a4:pf Xv},(rsS sg=w->W (e [eV (.tup (bsX bs)),eV (.tup (ksX st)),eV (.tup [Xv.str "set",.str b.1,.tup [opX a,.str (rsS sg),opX c]]),eV v,a4] S) λu S'=>N [eV (.tup (bsX bs)),eV (.tup (ksX st)),eV (.tup [Xv.str "set",.str b.1,.tup [opX a,.str (rsS sg),opX c]]),eV u,a4] S')->(rsS sg≠w->N [eV (.tup (bsX bs)),eV (.tup (ksX st)),eV (.tup [Xv.str "set",.str b.1,.tup [opX a,.str (rsS sg),opX c]]),eV v,a4] S)->
    WS (sIf (bE (eOp (yD mK) (eOp zB (eOp zB (zi 2) (qx 2)) (qx 1)) (eC (.str w)))) (zH e (gN 3)) zK [eV (.tup (bsX bs)),eV (.tup (ksX st)),eV (.tup [Xv.str "set",.str b.1,.tup [opX a,.str (rsS sg),opX c]]),eV v,a4] S) N R:=by
   intro w e v S N R a4 hy hn;show zG (xg (zM (zM (zM (zq rfl (wm ?_))))));show zE rfl two' ?_;ext;show zF #[_,rfl,λz=>zO (hy (of_decide_eq_true z)),λz=>zv (hn (of_decide_eq_false z))]
  rcases(show sg=0\/sg=1\/sg=2 by omega) with rfl|rfl|rfl
  .skip
   show zo (one (λ_=> ?_) (λz=>absurd rfl z));calc one (w:="-") (λz=>absurd z ∅) (λ_=> ?_);show one (w:="*") (λz=>absurd z ∅) (λ_=> ?_);show fin rfl rfl (Kp.refl _)
  .skip
   show zo (one (w:="+") (λz=>absurd z ∅) (λ_=> ?_));show zo (one (w:="-") (λ_=> ?_) (λz=>absurd rfl z));calc one (w:="*") (λz=>absurd z ∅) (λ_=> ?_);show fin rfl rfl (Kp.refl _)
  .skip
   show zo (one (w:="+") (λz=>absurd z ∅) (λ_=> ?_));show zo (one (w:="-") (λz=>absurd z ∅) (λ_=> ?_));show one (λ_=> ?_) (λz=>absurd rfl z);ext;have l1:intBits (wv bs st a)<=60:=B4.mpr (y0 b1 ∅);have l2:intBits (wv bs st c)<=60:=B4.mpr (y0 b2 ∅);show xx ⋯ ?_;show fin rfl rfl (Kp.refl _)
def ziL(h9:bs.length<=9)(hl:st.length=bs.length)(ht:zcR bs t):W (wR [.tup (bsX bs),.tup (ksX st),tsX t] S) λv S'=>v= .bl (mkB bs t st)/\S=S':=by
 have#[ta,sg,tb]:=t;have#[h1,h2,h3]:=ht;delta Wy;show zo (zO (ya (zm (zq rfl (zm (zq rfl (zm ?_)))))));calc zE (l:=[opX ta,.str (sgS sg),opX tb]) rfl WL ?_;let#[_,S1,#[rfl,rfl]]:=WT h9 hl h1;dsimp only[v8];show zo (zO (ya (zm (zq rfl (zm (zq rfl (zm ?_)))))));calc zE (l:=[opX ta,.str (sgS sg),opX tb]) rfl (show atI [opX ta,.str (sgS sg),opX tb] 2=eV (opX tb) from rfl) ?_;let#[_,S2,#[rfl,rfl]]:=WT h9 hl h2;dsimp only[v8];have c:sg=0\/sg=1\/sg=2:=by have:sg<3:=h3;omega
 show zo (zG (xg (zM (zM (zq rfl ?_)))));calc zE (l:=[opX ta,.str (sgS sg),opX tb]) rfl ZW ?_;calc zF #[_,rfl,λzz=> ?_,λzz=>zv ?_];obtain rfl|rfl|rfl:=c;ext;show#[rfl,rfl];show absurd zz ∅;show absurd zz ∅;show zo (zG (xg (zM (zM (zq rfl ?_)))));calc zE (l:=[opX ta,.str (sgS sg),opX tb]) rfl ZW ?_;calc zF #[_,rfl,λz2=> ?_,λz2=>zv ?_];obtain rfl|rfl|rfl:=c;show absurd z2 ∅;ext;show#[rfl,rfl];show absurd z2 ∅;obtain rfl|rfl|rfl:=c;show absurd zz ∅;show absurd z2 ∅;ext;show#[rfl,rfl]
def zo2{N:Nat}(bN:Big fu)(h1:0<q1)(h2:0<q2)(a1:yT N p1)(b1:yT N q1)(a2:yT N p2)(b2:yT N q2)(hN:4*N<=134217728):W (Yf [qv (p1,q1),qv (p2,q2)] S) λv S'=>v=qv (rQ ((p1:Rat) / (q1:Rat)+(p2:Rat) / (q2:Rat)))/\S=S':=by
 have c1:=a1.le;have c2:=a2.le;have c3:=b1.le;have c4:=b2.le;delta Tf;show ye (ya (zm (zM (zM (zM (zq rfl (wm ?_)))))));show zE (l:=[Xv.int p1,.int q1]) rfl WL ?_;calc zE (l:=[Xv.int p2,.int q2]) rfl ZW ?_;show xx ⋯ ?_;calc zE (l:=[Xv.int p2,.int q2]) rfl WL ?_;calc zE (l:=[Xv.int p1,.int q1]) rfl ZW ?_;show xx ⋯ ?_;calc zE (l:=[Xv.int p1,.int q1]) rfl ZW ?_;calc zE (l:=[Xv.int p2,.int q2]) rfl ZW ?_;show xx ⋯ ?_;ext;have hp:0<q1*q2:=BM h1 h2;let#[_,_,#[rfl,rfl]]:=ziB bN hp (b1.mul b2) ⋯;show#[?_,rfl];rw[zea hp]
 congr 2
 have n1:=xV (show q1≠0 by omega);have n2:=xV (show q2≠0 by omega);rw[Cm,A2,A2,A2];grind
end
section
variable{A g:SF}
def DA(ss:kx Nat)(A:SF)(an:Nat)(S:Sto):Prop:=∃c,S[an]? =eV c/\∀S':Sto,S'[an]? =eV c->∀st,yw ss st->YY S' (.ref an) (.tup (ksX st))=eV (eV (qv (rQ (A st))))
def DA.keep{w:Nat->Prop}(h:DA ss A an S)(k:Kp w S S')(hn:¬w an):DA ss A an S':=by
 have#[c,e,q]:=h;show#[c,k.2 _ _ e hn,q]
def DA.get(h:DA ss A an S)(hs:yw ss st):YY S (.ref an) (.tup (ksX st))=eV (eV (qv (rQ (A st)))):=by
 have#[c,e,q]:=h;show q S e st hs
theorem ziM:∀{ws:kx Nat} {rs:kx Rat} {w:Nat} {r:Rat},ws.length=rs.length->wsR (ws++[w]) (rs++[r])=wsR ws rs+((w:Int):Rat)*r
 |[],[],w,r,_=>by change((w:Int):Rat)*r+0=0+_;grind
 |u::ws,q::rs,w,r,h=>by
  change((u:Int):Rat)*q+wsR (ws++[w]) (rs++[r])=((u:Int):Rat)*q+wsR ws rs+_;rw[ziM (by simpa using h),Rat.add_assoc]
 |[],_::_,_,_,h=>by simp at h
 |_::_,[],_,_,h=>by simp at h
def zo3{ws:kx Nat}{f:Nat->Rat}{i w:Nat}(e:ws[i]? =eV w):wsR (ws.take (i+1)) ((Ac (i+1)).map f)=wsR (ws.take i) ((Ac i).map f)+((w:Int):Rat)*f i:=by
 have hi:=(uT.1 e).1;rw[AO,e,D7,A1];show ziM (by simp;omega)
def zlk{ws:kx Nat}{i w:Nat}(e:ws[i]? =eV w):(ksX ws)[i]? =eV (.int (w:Int)):=by unfold ksX;rw[uY,e];rfl
def zsY{N:Nat}{w s:Int}(h:NB N r)(hw:yT 31 w)(hs:yT 40 s)(h0:0<s):NB (N+40) ((r.num*w:Int) / (r.den*s:Int):Rat):=zg4 (BM (WV r) h0) ((h.1.mul hw).mono ⋯) (h.2.mul hs)
def zll{W r:Rat}{w s:Int}(h0:0<s):(W.num:Rat) / ((W.den:Int):Rat)+((r.num*w:Int):Rat) / (((r.den:Int)*s:Int):Rat)=W+(w:Rat)*r / (s:Rat):=by
 have n1:=VN W;have n2:=VN r;have d1:=xV (show(W.den:Int)≠0 by have:=WV W;omega);have d2:=xV (show(r.den:Int)≠0 by have:=WV r;omega);have d3:=xV (show s≠0 by omega);rw[A2,A2,<-n1,<-n2];grind
def zo4{w s:Int}(h0:0<s):((r.num*w:Int):Rat) / (((r.den:Int)*s:Int):Rat)=(w:Rat)*r / (s:Rat):=by
 have n2:=VN r;have d2:=xV (show(r.den:Int)≠0 by have:=WV r;omega);have d3:=xV (show s≠0 by omega);rw[A2,A2,<-n2];grind
def zo5(bN:Big fu)(B:zaH bs)(dH:(bs.map (·.1)).Nodup)(eb:bs[lv]? =eV b)(hw:ws.length=b.2)(w3:ws.sum<=32)(w0:0<ws.sum)(hg:NF bs M A)(hM:M<=1000000)(da:DA (sz bs) A an S)(hs:yw (sz bs) st):W (ZU [.tup (bsX bs),.tup [.str "draw",.str b.1,.tup (ksX ws)],.ref an,.tup (ksX st)] S) λv S'=>v=qv (rQ (Wb ws ((Ac b.2).map λm=>A (st.set lv m))))/\Kp K0 S S':=by
 have iC:st.length=bs.length:=by rw[hs.1,uZ]
 have hb:=B.h1 b (uX eb);have two:atI [Xv.str "draw",.str b.1,.tup (ksX ws)] 2=eV (.tup (ksX ws)):=rfl;have s0:(0:Int)<((ws.sum:Nat):Int):=by omega
 have sb:yT 40 ((ws.sum:Nat):Int):=y0 (show((ws.sum:Nat):Int).natAbs<=32 by omega) ∅;delta WC;calc xM (wT (xF (zm (zM (zq rfl (wm ?_))))));show zE rfl two ?_;calc xa ?_;rw[yA];show#[_,rfl,#[⋯,⋯],_,rfl,?_];rw[z7]
 show yZ (xs:=wk 0 ws.length) (λi ρ S2=>∃(W:Rat) (a5 a6 a7:pf Xv),ρ=[eV (.tup (bsX bs)),eV (.tup [.str "draw",.str b.1,.tup (ksX ws)]),eV (.ref an),eV (.tup (ksX st)),eV (qv (rQ W)),a5,a6,a7]/\NB (60+i*(M+50)) W/\W=wsR (ws.take i) ((Ac i).map λm=>A (st.set lv m)) / (((ws.sum:Nat):Int):Rat)/\Kp K0 S S2) (λ_ _ _ _ _=>rfl) ?_ #[0,gi,gi,gi,rfl,zoV (i:=0) (CO ∅) ⋯,by
  change(0:Rat)=0 / _
  rw[Rat.div_def,Rat.zero_mul],Kp.refl _] ?_
 .intro i ug ρ S2 m9 #[W,a5,a6,a7,rfl,lW,eW,k2];have#[hi,rfl]:=xu m9;rw[Bg];have ew:ws[i]? =eV ws[i]:=uV hi;have rK:=zcZ (A9 hi);generalize ws[i]=w at ew rK;have nK:stp lv b.2 (i:Int) st=st.set lv i:=by
   unfold stp;rw[Int.emod_eq_of_lt ⋯ ⋯,z7]
  have uF:i*(M+50)<=9*(M+50):=z9 _ ⋯;have uG:(i+1)*(M+50)=i*(M+50)+(M+50):=Ax ..;have ib:yw (sz bs) (st.set lv i):=hs.set (Th eb) ⋯;show .of rfl ?_
  try dsimp only[v8]
  show zo (zO (vh ?_));let#[_,S3,#[rfl,k3]]:=zo1 B.h9 B.h1 dH iC eb;rw[nK];show#[_,((da.keep k2 id).keep k3 id).get ib,?_];have jZ:=hg _ ib;have eg:=zo3 (f:=λm=>A (st.set lv m)) ew
  try dsimp only at eg
  generalize A (st.set lv i)=r at jZ eg ⊢;have wb:yT 31 (w:Int):=y0 (show(w:Int).natAbs<=32 by omega) ∅;have c1:=jZ.1.le;have c2:=jZ.2.le;have c3:=wb.le;have c4:=sb.le
  try dsimp only[v8]
  show zo (zO (Zz (zm (zM (zM (zq rfl (wm ?_)))))));show zE (l:=[Xv.int r.num,.int (r.den:Int)]) rfl WL ?_;calc zE rfl two ?_;calc zE rfl (yd (zlk ew)) ?_;show xx ⋯ ?_;calc zE (l:=[Xv.int r.num,.int (r.den:Int)]) rfl ZW ?_;calc zE rfl two ?_;calc zle (l:=ksX ws) rfl (zec ws) ?_;rw[zcY ws];show xx ⋯ ?_;let#[_,_,#[rfl,rfl]]:=zo2 (p1:=W.num) (q1:=(W.den:Int)) (p2:=r.num*(w:Int)) (q2:=(r.den:Int)*((ws.sum:Nat):Int)) (N:=60+9*(M+50)+M+40) bN (WV W) (BM (WV r) s0) (lW.1.mono ⋯) (lW.2.mono ⋯) ((jZ.1.mul wb).mono ⋯) ((jZ.2.mul sb).mono ⋯) ⋯
  try dsimp only[v8]
  show#[_,_,_,_,rfl,?_,?_,k2.trans k3];rw[zll s0];have:=zsM lW (zsY jZ wb sb s0);rw[zo4 s0] at this;show this.mono ⋯;rw[zll s0,eg,eW];grind
 intro ρ S2 #[W,a5,a6,a7,rfl,lW,eW,k2];rw[yg,A4,hw] at eW;calc#[?_,k2];rw[eW];rfl
end
section
def zuV(h:c=1\/c=2\/c=3):zhH (.str " +-*") (.int c) S=eV (.str (rsS (c.toNat-1)),S):=by
 rcases h with rfl|rfl|rfl<;>rfl
def zo6(hl:yb mx ln S)(h9:bs.length<=9)(hn:zaG bs (.nam nm)):W (wZ [.ref ln,.tup (bsX bs),.str nm] S) λv S'=>∃r:Rk,v=rkX r/\ziH bs r/\yb mx ln S'/\Kp (· =ln) S S':=by
 delta Zk;let#[_,S1,#[c,rfl,c0,c1,l1,k1]]:=xO hl ∅;calc zG ?_;calc yS (λh=> ?_) (λh5=>zv ?_);let#[_,S2,#[d,rfl,d0,d1,l2,k2]]:=xO l1 ∅;ext;show#[.two 0 (.nam nm) (.num (1+d)),rfl,#[∅,hn,by change(1+d).natAbs<=1000000000;omega],l2,k1.trans k2];let#[_,S2,#[o1,rfl,h1,l2,k2]]:=WU l1 h9;calc zG ?_;calc yS (λh=> ?_) (λh4=>zv ?_);ext;show#[.two 1 o1 (.nam nm),rfl,#[∅,h1,hn],l2,k1.trans k2];show zo (zG ?_);calc yS (λh=> ?_) (λh0=>zv ?_);ext;show#[.one o1,rfl,h1,l2,k1.trans k2];calc WO.of (zuV ⋯) ?_;let#[_,S3,#[o2,rfl,h2,l3,k3]]:=WU l2 h9;ext;show#[.two (c.toNat-1) o1 o2,rfl,#[⋯,h1,h2],l3,k1.trans (k2.trans k3)]
def zkk{m:Nat}{l:kx Nat}(h:∀w∈l,w<=m):l.sum<=l.length*m:=by
 induction l with
 |nil=>show BK _
 |cons a l ih=>
  have h1:=h a (.head _);have h2:=ih λw hw=>h w (.tail _ hw);rw[BJ,y4,Ax];omega
def zfE{s:Nat}(hl:yb mx ln S)(iD:1<=s/\s<=9):W (vN [.ref ln,.int (s:Int)] S) λv S'=>∃ws:kx Nat,v= .tup (ksX ws)/\ws.length=s/\ws.sum<=32/\0<ws.sum/\yb mx ln S'/\Kp (· =ln) S S':=by
 delta Yt;show zo (zO (xi (wT ?_)));calc#[#[⋯,⋯],_,rfl,?_];show yR (by rw[yg];show ZJ ⋯) (λj es S2=>∃ws:kx Nat,es=ksX ws/\(∀w∈ws,w<=3)/\yb mx ln S2/\Kp (· =ln) S S2) (λ_ _ _ _ _=>rfl) ?_ #[[],rfl,(λ_ z=>by cases z),hl,Kp.refl _] ?_;intro j w es S2 hw fq #[ws,rfl,w9,l2,k2];show .of rfl ?_;dsimp only[vw,Ak,v8];calc#[rfl,?_];let#[_,S3,#[c,rfl,c0,c1,l3,k3]]:=xO l2 ⋯;show#[ws++[c.toNat],by rw[Zp];change _=_++[Xv.int (c.toNat:Int)];rw[Bs c0],λw hw=> ?_,l3,k2.trans k3];rcases AQ.1 hw with hw|hw;show w9 w hw;rw[A7] at hw;omega
 intro es S2 hlen #[ws,rfl,w9,l2,k2];rw[yA,yg,z7] at hlen;have e2:=yz (S:=S2) (c:=Ce.lst (ksX ws));have eR:=l2.lt;let#[_,S3,#[c,rfl,c0,c1,l3,k3]]:=xO l2.app ⋯;have e3:=k3.2 _ _ e2 (show ¬S2.length=ln by omega);have m3:Kp (· =ln) S S3:=k2.trans ((Kp.pre (uW _ _)).trans k3);obtain⟨j,rfl⟩:∃j:Nat,c=(j:Int):=#[c.toNat,⋯];have hj:j<ws.length:=by omega
 have ej:ws[j]? =eV ws[j]:=uV hj;have rJ:=w9 _ (A9 hj);generalize ws[j]=w at ej rJ;show zo (zhR ?_);calc wD (zC e3) (yd (zlk ej)) ?_;calc#[_,_,_,j,ZL e3,rfl,zli (by rw[yA];show hj),?_];rw[show(if (w:Int)>1 then (w:Int) else 1)=((max 1 w:Nat):Int) by split<;>omega,zlj];have e4:=wq (c':=Ce.lst (ksX (ws.set j (max 1 w)))) e3;show ye (xF (zm ?_));calc Xu e4 ?_;have#[ns,h1,h2]:=l3;have pX:∀v∈ws.set j (max 1 w),v<=3:=λv hv=>by
  rcases List.mem_or_eq_of_mem_set hv with hv|rfl;show w9 v hv;omega
 have iC:=zkk pX;show#[_,rfl,by rw[Bm];omega,?_,?_,#[ns,xN h1 ⋯,h2],m3.set (.inr k2.1)];rw[Bm,hlen] at iC;omega;have:max 1 w∈ws.set j (max 1 w):=uX (by rw[By hj]);have:=zcZ this;omega
def PlD(bs:kx (Str×Nat))(x:Xv):Prop:=(∃(lv:Nat) (b:Str×Nat) (r:Rk),x= .tup [.str "set",.str b.1,rkX r]/\bs[lv]? =eV b/\ziH bs r)\/(∃o:Opd,x= .tup [.str "gain",opX o]/\zaG bs o)\/(∃t:Tst,x= .tup [.str "look",tsX t]/\zcR bs t)\/x= .tup [.str "pass"]\/∃(lv:Nat) (b:Str×Nat) (ws:kx Nat),x= .tup [.str "draw",.str b.1,.tup (ksX ws)]/\bs[lv]? =eV b/\ws.length=b.2/\ws.sum<=32/\0<ws.sum
def zo7(hl:yb mx ln S)(h9:bs.length<=9)(h1:∀b∈bs,1<=b.2/\b.2<=9):W (Xr [.ref ln,.tup (bsX bs),.str kd] S) λv S'=>PlD bs v/\yb mx ln S'/\Kp (· =ln) S S':=by
 delta Xq;show zo (zG ?_);calc zF #[_,rfl,λh=> ?_,λ_=>zv ?_];let#[_,S1,#[o,rfl,ho,l1,k1]]:=WU hl h9;ext;show#[.inr (.inl #[o,rfl,ho]),l1,k1];show zo (zG ?_);calc zF #[_,rfl,λh=> ?_,λ_=>zv ?_];let#[_,S1,#[t,rfl,ht,l1,k1]]:=zoM hl h9;ext;show#[.inr (.inr (.inl #[t,rfl,ht])),l1,k1]
 have ps:∀{N:Rho->Sto->Prop} {ρ:Rho},WS (zR (xc [qE "pass"]) ρ S) N λv S'=>PlD bs v/\yb mx ln S'/\Kp (· =ln) S S':=by
  intro N ρ;ext;show#[.inr (.inr (.inr (.inl rfl))),hl,Kp.refl _]
 show zo (zG (zcf ?_));calc xa ?_;rw[vA];calc yS (λh=>#[λ_=>ps,nofun]) (λh0=> ?_);calc zF #[_,rfl,λh=>ps,λ_=>zv ?_];calc xa ?_;rw[vA];let#[_,S1,#[c,rfl,c0,c1,l1,k1]]:=xO hl ⋯;obtain⟨i,rfl⟩:∃j:Nat,c=(j:Int):=#[c.toNat,⋯];have hi:i<bs.length:=by omega
 have ei:bs[i]? =eV bs[i]:=uV hi;generalize bs[i]=b at ei;show zE rfl (yd (Xx ei)) ?_;calc zG ?_;calc zF #[_,rfl,λh=> ?_,λhs=>zv ?_];let#[_,S2,#[r,rfl,hr,l2,k2]]:=zo6 l1 h9 (zg2 ei);ext;show#[.inl #[i,b,r,rfl,ei,hr],l2,k1.trans k2];let#[_,S2,#[ws,rfl,jC,w3,w0,l2,k2]]:=zfE l1 (h1 b (uX ei));ext;show#[.inr (.inr (.inr (.inr #[i,b,ws,rfl,ei,jC,w3,w0]))),l2,k1.trans k2]
end
section
def PlD.word(h:PlD bs x):∃(kd:Str) (l:kx Xv),x= .tup (.str kd::l)/\kd≠"if"/\kd≠"while"/\kd≠"times"/\kd≠"hand":=by
 rcases h with⟨lv,b,r,rfl,_⟩|⟨o,rfl,_⟩|⟨t,rfl,_⟩|rfl|⟨lv,b,ws,rfl,_⟩
 .show#["set",_,rfl,∅,∅,∅,∅]
 .show#["gain",_,rfl,∅,∅,∅,∅]
 .show#["look",_,rfl,∅,∅,∅,∅]
 .show#["pass",_,rfl,∅,∅,∅,∅]
 show#["draw",_,rfl,∅,∅,∅,∅]
noncomputable def nS(a:kx (Xv×Nat)):Nat:=(a.map (·.2)).sum
noncomputable def bX(a:kx (Xv×Nat)):kx Xv:=a.map (·.1)
inductive Dk(bs:List (Str×Nat)):Nat->Xv->Nat->Prop
 |pl {q:Nat} {x:Xv}:PlD bs x->Dk bs q x 1
 |if_ {q:Nat} {t:Tst} {a b:List (Xv×Nat)}:zcR bs t->(∀p∈a,Dk bs q p.1 p.2)->(∀p∈b,Dk bs q p.1 p.2)->Dk bs (q+1) (.tup [.str "if",tsX t,.tup (bX a),.tup (bX b)]) (1+nS a+nS b)
 |times {q c:Nat} {a:List (Xv×Nat)}:c<=60->(∀p∈a,Dk bs q p.1 p.2)->Dk bs (q+1) (.tup [.str "times",.int (c:Int),.tup (bX a)]) (1+max 1 c*(1+nS a))
 |hand {q:Nat} {l:List (List (Xv×Nat))}:1<=l.length->l.length<=8->(∀a∈l,∀p∈a,Dk bs q p.1 p.2)->Dk bs (q+1) (.tup [.str "hand",.tup (l.map λa=> .tup (bX a))]) (1+(l.map nS).sum)
def Dk.up(h:Dk bs 0 x n)(q:Nat):Dk bs q x n:=by
 cases h with
 |pl p=>show .pl p
def Yi(hv:ρ[i]? =eV (eV (.tup (.str kd::l))))(h:kd≠w)(k:N ρ S):WS (sIf (bE (eOp (yD mK) (eOp zB (zi i) (qx 0)) (eC (.str w)))) e zK ρ S) N R:=
 zG (xg (zM (zM (zq hv (wm (zE rfl WL (wm (Zr h #[_,rfl,nofun,λ_=>zv k]))))))))
def zbu(hv:ρ[i]? =eV (eV (.tup (.str kd::l))))(k:WS (e ρ S) N R):WS (sIf (bE (eOp (yD mK) (eOp zB (zi i) (qx 0)) (eC (.str kd)))) e zK ρ S) N R:=
 zG (xg (zM (zM (zq hv (wm (zE rfl WL (wm (TH #[_,rfl,λ_=>k,nofun]))))))))
def zo8(r:TwF):TwS:=(zw (zH (eOp wL (zi 1) (qx 1)) (gN 1)) (zw (sIf (bE (eOp (yD mK) (eOp zB (zi 2) (qx 0)) (qE "if"))) (zH (eOp wL (eOp wL (zi 1) (zx r [eOp zB (zi 2) (qx 2)])) (zx r [eOp zB (zi 2) (qx 3)])) (gN 1)) zK) (zw (sIf (bE (eOp (yD mK) (eOp zB (zi 2) (qx 0)) (qE "while"))) (zH (eOp wL (zi 1) (zx r [eOp zB (zi 2) (qx 2)])) (gN 1)) zK) (zw (sIf (bE (eOp (yD mK) (eOp zB (zi 2) (qx 0)) (qE "times"))) (zH (eOp wL (zi 1) (eOp ww (eFn zlU [qx 1,eOp zB (zi 2) (qx 1)]) (eOp wL (qx 1) (zx r [eOp zB (zi 2) (qx 2)])))) (gN 1)) zK) (sIf (bE (eOp (yD mK) (eOp zB (zi 2) (qx 0)) (qE "hand"))) (zH (eOp wL (zi 1) (eFn zgc [xt [gi] (iA (eOp zB (zi 2) (qx 1))) (gN 0) xl (zx r [zi 0])])) (gN 1)) zK)))))
def zmp(m:Nat)(x:Xv)(n:Nat):Prop:=∀{S:Sto} {b:Xv} {j:Nat} {R:Xv->Sto->Prop},WS (zo8 (yI m) [eV b,eV (.int (j:Int)),eV x] S) (λρ S'=>ρ=[eV b,eV (.int ((j+n:Nat):Int)),eV x]/\Kp K0 S S') R
def zqJ{a:kx (Xv×Nat)}{i:Nat}{p:Xv×Nat}(e:a[i]? =eV p):nS (a.take (i+1))=nS (a.take i)+p.2:=by
 unfold nS;rw[AO,e,A1,D6];rfl
def zb4(h:∀p∈a,zmp m p.1 p.2):W (yI (m+1) [.tup (bX a)] S) λv S'=>v= .int (nS a:Int)/\Kp K0 S S':=by
 rw[Yz];delta Zl;calc xM (zch (zq rfl #[_,rfl,_,rfl,?_]));show yZ (xs:=bX a) (λi ρ S2=>∃a2,ρ=[eV (.tup (bX a)),eV (.int (nS (a.take i):Int)),a2]/\Kp K0 S S2) (λ_ _ _ _ _=>rfl) ?_ #[gi,rfl,Kp.refl _] ?_
 .intro i w ρ S2 hw #[a2,rfl,k2];unfold bX at hw;rw[uY] at hw;cases e:a[i]? with
  |none=>rw[e] at hw;cases hw
  |some p=>
   rw[e] at hw;cases hw;show .of rfl ?_
   try dsimp only[v8]
   show zaj _ (h p (uX e)) ?_;intro ρ S3 #[rfl,k3];show#[_,by rw[zqJ e],k2.trans k3]
 intro ρ S2 #[a2,rfl,k2];rw[show(bX a).length=a.length from uZ ..,A4];ext;show#[rfl,k2]
def zha{n:Nat}(h:n<2^60):intBits (n:Int)<=60:=B4.mpr (by rw[C1];show h)
def zlm{l:kx Nat}{a:Nat}(h:a∈l):a<=l.sum:=zcZ h
def zeg(h:p∈a):p.2<=nS a:=zlm (EF h)
def zrr(h:Dk bs q x n):n<2^60->∀m,q<=m->zmp m x n:=by
 induction h with
 |pl p=>
  intro _ m _ S b j R;have#[kd,l,rfl,h1,h2,h3,h4]:=p.word;unfold zo8;calc Yi rfl h1 ?_;show zo (Yi rfl h2 ?_);show zo (Yi rfl h3 ?_);show Yi rfl h4 #[rfl,Kp.refl _]
 | @if_ q t a b ht _ _ i7 iP=>
  intro hn m hm S bk j R;obtain⟨m,rfl⟩:∃k,m=k+1:=#[m-1,⋯];have ha:∀p∈a,zmp m p.1 p.2:=λp hp=>i7 p hp (by have:=zeg hp;omega) m ⋯;have hb:∀p∈b,zmp m p.1 p.2:=λp hp=>iP p hp (by have:=zeg hp;omega) m ⋯;unfold zo8;calc zbu rfl ?_;show zO (zM (zM (zq rfl (ya (zm (zM (zq rfl (wm ?_))))))));show zE rfl (show atI [Xv.str "if",tsX t,.tup (bX a),.tup (bX b)] 2=eV (.tup (bX a)) from rfl) ?_;show yi ((zb4 ha).imp ?_);intro _ S2 #[rfl,k2];calc zE rfl (show atI [Xv.str "if",tsX t,.tup (bX a),.tup (bX b)] 3=eV (.tup (bX b)) from rfl) ?_;let#[_,S3,#[rfl,k3]]:=zb4 hb;calc Yi rfl ∅ ?_;show zo (Yi rfl ∅ ?_);show Yi rfl ∅ #[congrArg (λz=>[eV bk,eV (Xv.int z),_]) ⋯,k2.trans k3]
 | @times q c a hc _ i7=>
  intro hn m hm S bk j R;obtain⟨m,rfl⟩:∃k,m=k+1:=#[m-1,⋯];have hmul:1+nS a<=max 1 c*(1+nS a):=CP _ ⋯;have ha:∀p∈a,zmp m p.1 p.2:=λp hp=>i7 p hp (by have:=zeg hp;omega) m ⋯;unfold zo8;calc Yi rfl ∅ ?_;show zo (Yi rfl ∅ ?_);show zo (zbu rfl ?_);show zO (zM (zq rfl (zM (xF (zm (wm (zm (zM (zq rfl (wm ?_)))))))))) ;show zE rfl (show atI [Xv.str "times",.int (c:Int),.tup (bX a)] 1=eV (.int (c:Int)) from rfl) ?_;show yi (znW ?_);calc zE rfl (show atI [Xv.str "times",.int (c:Int),.tup (bX a)] 2=eV (.tup (bX a)) from rfl) ?_;let#[_,S2,#[rfl,k2]]:=zb4 ha;ext;rw[show(if (c:Int)>1 then (c:Int) else 1)=((max 1 c:Nat):Int) by split<;>omega,show(1:Int)+(nS a:Int)=((1+nS a:Nat):Int) by omega];have b1:=zha (n:=max 1 c) ⋯;have b2:=zha (n:=1+nS a) ⋯;show xx ⋯ ?_;ext;show Yi rfl ∅ #[congrArg (λz=>[eV bk,eV (Xv.int z),_]) (by rw[show((max 1 c:Nat):Int)*((1+nS a:Nat):Int)=((max 1 c*(1+nS a):Nat):Int) from(Ci _ _).symm];omega),k2]
 | @hand q l h1 h8 _ ih=>
  intro hn m hm S bk j R;obtain⟨m,rfl⟩:∃k,m=k+1:=#[m-1,⋯];have ha:∀a∈l,∀p∈a,zmp m p.1 p.2:=λa iI p hp=>ih a iI p hp (by have:=zeg hp;have:=zlm (EF (f:=nS) iI);omega) m ⋯;unfold zo8;calc Yi rfl ∅ ?_;show zo (Yi rfl ∅ ?_);show zo (Yi rfl ∅ ?_);show zbu rfl ?_;show zO (zM (zq rfl (xF (zm (xi (zjC (zM (zq rfl (wm ?_)))))))));show zE rfl (show atI [Xv.str "hand",.tup (l.map λa=> .tup (bX a))] 1=eV (.tup (l.map λa=> .tup (bX a))) from rfl) #[_,rfl,_,rfl,?_];show yR (xs:=l.map λa=>Xv.tup (bX a)) (by rw[uZ];show A3 (Yg ⋯)) (λi es S2=>es=ksX ((l.take i).map nS)/\Kp K0 S S2) (λ_ _ _ _ _=>rfl) ?_ #[rfl,Kp.refl _] ?_
  .intro i w es S2 hw _ #[rfl,k2];rw[uY] at hw;cases e:l[i]? with
   |none=>rw[e] at hw;cases hw
   |some a=>
    rw[e] at hw;cases hw;show .of rfl ?_;dsimp only[vw,Ak,v8];calc#[rfl,?_];let#[_,S3,#[rfl,k3]]:=zb4 (ha a (uX e));show#[by rw[AO,e,A1];show(Zp _ _).symm,k2.trans k3]
  intro es S2 _ #[rfl,k2];rw[uZ,A4]
  show yi (WO.of (show zgc [.ref S2.length] (S2 ++ [Ce.lst (ksX (l.map nS))]) = eV (.int (((l.map nS).sum : Nat) : Int), S2 ++ [Ce.lst (ksX (l.map nS))]) by
   unfold zgc;dsimp only
   rw[xW,z0,zec,Bd,zcY]) ?_)
  ext;show#[congrArg (λz=>[eV bk,eV (Xv.int z),_]) ⋯,k2.app]
end
section
def in4{w:Str}(h:S[n]? =eV (.lst [.str "if",.str "while",.str "times",.str "hand"]))(k:P (.bl (!decide (w="if"\/w="while"\/w="times"\/w="hand"))) S):WO (dIn hG (.str w) (.ref n) S) P:=by
 show zrg (zC h) rfl ?_;have e:(hG !=List.any [Xv.str "if",Xv.str "while",Xv.str "times",Xv.str "hand"] λz=>zep z (.str w))= !decide (w="if"\/w="while"\/w="times"\/w="hand"):=by
  change(hG !=(decide (Str.ofString "if"=w)||(decide (Str.ofString "while"=w)||(decide (Str.ofString "times"=w)||(decide (Str.ofString "hand"=w)||false)))))=_;by_cases h1:w="if"
  .subst h1;simp
  by_cases h2:w="while";subst h2;simp;by_cases h3:w="times";subst h3;simp;by_cases h4:w="hand";subst h4;simp;simp[h1,h2,h3,h4,AX h1,AX h2,AX h3,AX h4]
 rw[e];show k
noncomputable def TN:kx Str:=["draw","set","draw","if","times","draw","look","gain","hand","set","draw","pass"]
def zqK{ws:kx Str}{k:Int}(h0:0<=k)(h1:k<ws.length):∃v∈ws,atI (ws.map Xv.str) k=eV (.str v):=by
 obtain⟨k,rfl⟩:∃q:Nat,k=(q:Int):=#[k.toNat,⋯];have hk:k<ws.length:=by omega
 show#[_,A9 hk,yd (by rw[uY,uV hk];rfl)]
def BkP(bs:kx (Str×Nat))(q mx ln:Nat)(S:Sto)(v:Xv)(S':Sto):Prop:=∃a:kx (Xv×Nat),v= .tup (bX a)/\a.length<=3/\(∀p∈a,Dk bs q p.1 p.2/\p.2<=1000^q)/\yb mx ln S'/\Kp (· =ln) S S'
def zo9(h:a.length<=3)(h2:∀p∈a,p.2<=m):nS a<=3*m:=by
 have:=zkk (l:=a.map (·.2)) (m:=m) λw hw=>by
  have#[p,hp,rfl]:=Ad.1 hw;show h2 p hp
 rw[uZ] at this;show v7 this (z9 _ h)
def zuw{q m:Nat}(hl:yb mx ln S)(hk:S[kn]? =eV (.lst (TN.map Xv.str)))(fK:kn≠ln)(hd:∀{S:Sto},yb mx ln S->S[kn]? =eV (.lst (TN.map Xv.str))->W (yv m [.ref ln,.tup (bsX bs),.ref kn,.int (q:Int)] S) λv S'=>(∃n,Dk bs q v n/\n<=1000^q)/\yb mx ln S'/\Kp (· =ln) S S'):
  W (yP (m+1) [.ref ln,.tup (bsX bs),.ref kn,.int (q:Int)] S) (BkP bs q mx ln S):=by
 rw[Xs];delta ZS;show ye (xF (zm (xi (wT ?_))));let#[_,S1,#[c,rfl,c0,c1,l1,k1]]:=xO hl ∅;show#[_,rfl,#[⋯,⋯],_,rfl,?_];show yR (by rw[yg];show A3 (Yg ⋯)) (λi es S2=>∃a:kx (Xv×Nat),es=bX a/\(∀p∈a,Dk bs q p.1 p.2/\p.2<=1000^q)/\yb mx ln S2/\Kp (· =ln) S S2) (λ_ _ _ _ _=>rfl) ?_ #[[],rfl,(λp z=>by cases z),l1,k1] ?_;intro i w0 es S2 hw fq #[a,rfl,ha,l2,k2];show .of rfl ?_;dsimp only[vw,Ak,v8];calc#[rfl,?_];let#[v,S3,#[#[n,hv,hn],l3,k3]]:=hd l2 (k2.2 _ _ hk fK);show#[a++[(v,n)],by unfold bX;rw[A1];rfl,λp hp=> ?_,l3,k2.trans k3];rcases AQ.1 hp with hp|hp;show ha p hp;rw[A7] at hp;subst hp;show#[hv,hn];intro es S2 hlen #[a,rfl,ha,l2,k2];rw[show(bX a).length=a.length from uZ ..,yg] at hlen;ext;show Xu yz #[a,rfl,⋯,ha,l2.app,k2.app]
def zqM{q m:Nat}(hl:yb mx ln S)(hk:S[kn]? =eV (.lst (TN.map Xv.str)))(fK:kn≠ln)(h9:bs.length<=9)(h1:∀b∈bs,1<=b.2/\b.2<=9)(iP:∀q',q'<q->∀{S:Sto},yb (mx-1) ln S->S[kn]? =eV (.lst (TN.map Xv.str))->W (yP m [.ref ln,.tup (bsX bs),.ref kn,.int (q':Int)] S) (BkP bs q' (mx-1) ln S))(hq:q<=2):
  W (yv (m+1) [.ref ln,.tup (bsX bs),.ref kn,.int (q:Int)] S) λv S'=>(∃n,Dk bs q v n/\n<=1000^q)/\yb (mx-1) ln S'/\Kp (· =ln) S S':=by
 have q5:1<=1000^q:=FA _ _ ∅;rw[XW];delta YI;show zo (zO ?_);calc zdz (zC hk) ?_;rw[uZ];let#[_,S1,#[c,rfl,c0,c1,l1,k1]]:=zk5 hl ∅;have#[w,ux,ew]:=zqK (ws:=TN) c0 c1;have qb:=k1.2 _ _ hk fK;have kg:=l1.lt;show wD (zC qb) ew ?_
 try dsimp only[v8]
 show zo (zG ?_);calc in4 yz #[_,rfl,λhz=> ?_,λhz=>zv ?_];let#[v,S3,#[hv,l3,k3]]:=zo7 l1.app h9 h1;show#[#[1,.pl hv,q5],l3,k1.app.trans k3];have l2:=l1.app (T:=[Ce.lst [.str "if",.str "while",.str "times",.str "hand"]]);have k2:Kp (· =ln) S (S1++[Ce.lst [.str "if",.str "while",.str "times",.str "hand"]]):=k1.app;have lh:(S1++[Ce.lst [.str "if",.str "while",.str "times",.str "hand"]])[kn]? =eV (.lst (TN.map Xv.str)):=xB (uW _ _) qb;generalize (S1++[Ce.lst [.str "if",.str "while",.str "times",.str "hand"]])=S2 at l2 k2 lh ⊢;show zo (zG ?_);calc yS (λhz=> ?_) (λhz=>zv ?_);ext;show#[#[1,.pl (.inr (.inr (.inr (.inl rfl)))),q5],l2,k2]
 obtain⟨q,rfl⟩:∃k,q=k+1:=#[q-1,⋯];have hp:1000^(q+1)=1000*1000^q:=by rw[Nat.pow_succ,BE]
 have kT:1<=1000^q:=FA _ _ ∅;have sj:1000^q<=1000:=v7 (B6 ∅ (show q<=1 by omega)) ∅;have eq1:((q+1:Nat):Int)-1=(q:Int):=by omega
 show zo (zO ?_);ext;rw[eq1];let#[_,S3,#[a,rfl,oG,ha,l3,k3]]:=iP q ⋯ l2 lh;have eP:=k3.2 _ _ lh fK;have na:=zo9 oG λp hp=>(ha p hp).2
 try dsimp only[v8]
 show zo (zG ?_);ext;show zF #[_,rfl,λht=> ?_,λht=>zv ?_]
 .show zo (zO ?_);let#[_,S4,#[rfl,k4]]:=zb4 (a:=a) (m:=5) λp hp=>zrr (ha p hp).1 (y0 (ha p hp).2 (y0 sj ∅)) 5 ⋯;have l4:=l3.keep k4 id;calc zdy #[⋯,by rw[show(1:Int)+(nS a:Int)=((1+nS a:Nat):Int) by omega];show v7 (zha (y0 (show 1+nS a<=10000 by omega) ∅)) ∅] ?_;have hd:0<=Int.fdiv 60 (1+(nS a:Int))/\Int.fdiv 60 (1+(nS a:Int))<=60:=by
   rw[AK _ ⋯];show#[Int.ediv_nonneg ∅ ⋯,Int.ediv_le_self _ ∅]
  let#[_,S5,#[d,rfl,d0,d1,l5,k5]]:=xO l4 ⋯;have lZ:=k2.trans (k3.trans ((k4.mono λ_ z=>z.elim).trans k5))
  have fin:∀c:Nat,c<=60->∃n,Dk bs (q+1) (.tup [.str "times",.int (c:Int),.tup (bX a)]) n/\n<=1000^(q+1):=λc hc=>#[_,.times hc λp hp=>(ha p hp).1,by
   have:max 1 c*(1+nS a)<=60*(1+nS a):=z9 _ ⋯
   omega]
  try dsimp only[v8]
  show zo (zG ?_);calc vQ ∅ ?_;ext;show yS (λhz=> ?_) (λhz=>zv ?_)
  .show zO ?_;ext;show vQ ∅ ?_
   try dsimp only[v8]
   ext;rw[show d % 6=((d % 6).toNat:Int) by omega];show#[fin _ ⋯,l5,lZ]
  ext;rw[show d=(d.toNat:Int) by omega];show#[fin _ ⋯,l5,lZ]
 show zo (zO ?_);ext;rw[eq1];let#[_,S4,#[b,rfl,t6,hb,l4,k4]]:=iP q ⋯ l3 eP;have lg:=k4.2 _ _ eP fK;have nb:=zo9 t6 λp hp=>(hb p hp).2;have pD:=k2.trans (k3.trans k4)
 try dsimp only[v8]
 show zo (zG ?_);calc zF #[_,rfl,λhi=> ?_,λhi=>zv ?_];let#[_,S5,#[t,rfl,ht,l5,k5]]:=zoM l4 h9;ext;show#[#[_,.if_ ht (λp hp=>(ha p hp).1) λp hp=>(hb p hp).1,⋯],l5,pD.trans k5];let#[_,S5,#[d,rfl,d0,d1,l5,k5]]:=xO l4 ∅;have lZ:=pD.trans k5;have mn:=k5.2 _ _ lg fK
 try dsimp only[v8]
 show zo (zO (zM (zbP ?_)));ext;have l6:=l5.app (T:=[Ce.lst [Xv.tup (bX a),.tup (bX b)]]);have k6:Kp (· =ln) S (S5++[Ce.lst [Xv.tup (bX a),.tup (bX b)]]):=lZ.app;have qa:(S5++[Ce.lst [Xv.tup (bX a),.tup (bX b)]])[kn]? =eV (.lst (TN.map Xv.str)):=xB (uW _ _) mn;have e6:=yz (S:=S5) (c:=Ce.lst [Xv.tup (bX a),.tup (bX b)]);have nZ:S5.length≠ln:=by have:=l5.lt;omega
 generalize S5.length=pn at e6 nZ ⊢;generalize S5++[Ce.lst [Xv.tup (bX a),.tup (bX b)]]=S6 at l6 k6 qa e6 ⊢;show xi (wT (xF ?_));calc#[#[by split<;>omega,by split<;>omega],_,rfl,?_];show yR (by rw[yg];show A3 (Yg (by split<;>omega))) (λi es S7=>∃l:kx (kx (Xv×Nat)),es=l.map (λa=> .tup (bX a))/\(∀a∈l,a.length<=3/\∀p∈a,Dk bs 0 p.1 p.2/\p.2<=1000^0)/\yb (mx-1) ln S7/\Kp (· =ln) S S7/\Kp (· =ln) S6 S7) (λ_ _ _ _ _=>rfl) ?_ #[[],rfl,(λa z=>by cases z),l6,k6,Kp.refl _] ?_;intro i w0 es S7 hw fq #[l,rfl,eR,l7,k7,m5];show .of rfl ?_;dsimp only[vw,Ak,v8];calc#[rfl,?_];let#[_,S8,#[b2,rfl,oE,gY,l8,k8]]:=iP 0 ⋯ l7 (m5.2 _ _ qa fK);show#[l++[b2],by rw[A1];rfl,λp hp=> ?_,l8,k7.trans k8,m5.trans k8];rcases AQ.1 hp with hp|hp;show eR p hp;rw[A7] at hp;subst hp;show#[oE,gY]
 intro es S7 hlen #[l,rfl,eR,l7,k7,m5];rw[uZ,yg] at hlen;have du:l.length<=6:=by rw[hlen];split<;>omega
 have e7:=m5.2 _ _ e6 nZ;have el:[Xv.tup (bX a),.tup (bX b)]++l.map (λa=>Xv.tup (bX a))=(a::b::l).map λa=>Xv.tup (bX a):=rfl
 show WO.of (show zhL (.ref pn) (.ref S7.length) (S7 ++ [Ce.lst (l.map λa => Xv.tup (bX a))]) = eV (.ref (S7.length + 1), (S7 ++ [Ce.lst (l.map λa => Xv.tup (bX a))]) ++ [Ce.lst ((a :: b :: l).map λa => Xv.tup (bX a))]) by
  unfold zhL;rw[xW,show yn (S7++[Ce.lst (l.map λa=>Xv.tup (bX a))]) (.ref pn)=eV _ from zC (xB (uW _ _) e7)];dsimp only;rw[GO (A3 (Yg (by rw[uZ];simp;omega))),el,y7]
  rfl) ?_
 try dsimp only[v8]
 show ye (Zz ?_);calc Xu (l:=(a::b::l).map λa=>Xv.tup (bX a)) (by rw[show S7.length+1=(S7++[Ce.lst (l.map λa=>Xv.tup (bX a))]).length by simp];show yz) ?_;ext;have f7:∀c∈a::b::l,(∀p∈c,Dk bs q p.1 p.2)/\nS c<=3*1000^q:=λc hc=>by
  rcases x8.1 hc with rfl|hc;show#[λp hp=>(ha p hp).1,na];rcases x8.1 hc with rfl|hc;show#[λp hp=>(hb p hp).1,nb];show#[λp hp=>((eR c hc).2 p hp).1.up q,v7 (zo9 (eR c hc).1 λp hp=>((eR c hc).2 p hp).2) (Ao _ kT)]
 have nJ:=zkk (l:=(a::b::l).map nS) (m:=3*1000^q) λw hw=>by
  have#[c,hc,rfl]:=Ad.1 hw;show(f7 c hc).2
 rw[uZ] at nJ;have h8:(a::b::l).length<=8:=by rw[y4,y4];omega
 have:=z9 (3*1000^q) h8;show#[#[_,.hand (l:=a::b::l) (by simp) h8 λc hc=>(f7 c hc).1,⋯],l7.app.app,k7.app.app]
def zux(h9:bs.length<=9)(h1:∀b∈bs,1<=b.2/\b.2<=9)(fK:kn≠ln)(q:Nat):q<=2->∀{m mx:Nat} {S:Sto},2*q+1<=m->yb mx ln S->S[kn]? =eV (.lst (TN.map Xv.str))->W (yv m [.ref ln,.tup (bsX bs),.ref kn,.int (q:Int)] S) λv S'=>(∃n,Dk bs q v n/\n<=1000^q)/\yb (mx-1) ln S'/\Kp (· =ln) S S':=by
 induction q using Fs with
 |ind q ih=>
  intro hq m mx S hm hl hk;obtain⟨m,rfl⟩:∃k,m=k+1:=#[m-1,⋯];show zqM hl hk fK h9 h1 (λq' fj {S} l2 lh=> ?_) hq;obtain⟨m,rfl⟩:∃k,m=k+1:=#[m-1,⋯];show zuw l2 lh fK λ{S} l3 eP=> ?_;let#[v,S',#[h,l4,k4]]:=ih q' fj ⋯ ⋯ l3 eP;show#[h,l4.more ⋯,k4]
def zsZ(hl:yb mx ln S)(h9:bs.length<=9)(h1:∀b∈bs,1<=b.2/\b.2<=9):W (VM [.ref ln,.tup (bsX bs)] S) λv S'=>∃a:kx (Xv×Nat),v= .tup (bX a)/\(∀p∈a,Dk bs 2 p.1 p.2)/\nS a<=60/\yb mx ln S'/\Kp (· =ln) S S':=by
 delta VL;let#[_,S1,#[c,rfl,c0,c1,l1,k1]]:=xO hl ∅;have nil:∀{N:Rho->Sto->Prop} {ρ:Rho},WS (zR (xc []) ρ S1) N λv S'=>∃a:kx (Xv×Nat),v= .tup (bX a)/\(∀p∈a,Dk bs 2 p.1 p.2)/\nS a<=60/\yb mx ln S'/\Kp (· =ln) S S':=by
  intro N ρ;ext;show#[[],rfl,(λp z=>by cases z),∅,l1,k1]
 show zo (zG (zcf ?_));calc yS (λ_=>#[λ_=>nil,nofun]) (λhc=> ?_);calc xa ?_;rw[vA];calc yS (λ_=>nil) (λh0=>zv ?_);show zo (zO ?_);calc xa ?_;rw[vA];let#[_,S2,#[d,rfl,d0,d1,l2,k2]]:=xO l1 ⋯;obtain⟨i,rfl⟩:∃j:Nat,d=(j:Int):=#[d.toNat,⋯];have hi:i<bs.length:=by omega
 have ei:bs[i]? =eV bs[i]:=uV hi;generalize bs[i]=b at ei;show zE rfl (yd (Xx ei)) ?_;let#[_,S3,#[ws,rfl,jC,w3,w0,l3,k3]]:=zfE l2 (h1 b (uX ei));let#[_,S4,#[r,rfl,hr,l4,k4]]:=zo6 l3 h9 (zg2 ei);calc zqa #[⋯,⋯,A3 (Yg (by simp;omega))] ?_;have hp:∀p∈[((Xv.tup [.str "draw",.str b.1,.tup (ksX ws)]),1),((Xv.tup [.str "set",.str b.1,rkX r]),1)],Dk bs 2 p.1 p.2:=λp hp=>by
  rcases x8.1 hp with rfl|hp;show .pl (.inr (.inr (.inr (.inr #[i,b,ws,rfl,ei,jC,w3,w0]))));rw[A7] at hp;subst hp;show .pl (.inl #[i,b,r,rfl,ei,hr])
 have rep:∀k:Nat,∃a:kx (Xv×Nat),(z4 k [Xv.tup [.str "draw",.str b.1,.tup (ksX ws)],Xv.tup [.str "set",.str b.1,rkX r]]).flatten=bX a/\(∀p∈a,Dk bs 2 p.1 p.2)/\nS a=2*k:=λk=>by
  induction k with
  |zero=>show#[[],rfl,(λp z=>by cases z),rfl]
  |succ k ih=>
   have#[a,e,h,hn]:=ih;show#[((Xv.tup [.str "draw",.str b.1,.tup (ksX ws)]),1)::((Xv.tup [.str "set",.str b.1,rkX r]),1)::a,by rw[AG,AH,e];rfl,λp sk=> ?_,?_];rcases AQ.1 (show p∈[_,_]++a from sk) with z|z;show hp p z;show h p z;change 1+(1+nS a)=_;omega
 have#[a,e,h,hn]:=rep c.toNat;show#[a,by rw[e],h,⋯,l4,(k1.trans k2).trans (k3.trans k4)]
end
section
variable{A:SF}
noncomputable def wd(A:SF)(L:kx (kx Nat)):kx (NK×Xv×Xv):=L.map λst=>(kL st,TM st,qv (rQ (A st)))
def zln:st∈L->yN (wd A L) (kL st)=eV (qv (rQ (A st))):=by
 induction L with
 |nil=>intro h;cases h
 |cons a L ih=>
  intro h;change yN ((kL a,TM a,qv (rQ (A a)))::wd A L) (kL st)=_;rw[Zq];by_cases e:a=st;rw[GO (by rw[e]),e];rw[GP λz=>e (zj8 z)];rcases x8.1 h with h|h;show absurd h.symm e;show ih h
def zpa:st∉L->yN (wd A L) (kL st)=gi:=by
 induction L with
 |nil=>intro _;rfl
 |cons a L ih=>
  intro h;change yN ((kL a,TM a,qv (rQ (A a)))::wd A L) (kL st)=_;rw[Zq,GP λz=>h (by rw[zj8 z];show .head _)];show ih λz=>h (.tail _ z)
def zlo(as:kx Nat):zai (TM as)=gi:=rfl
def zlp(h:S[n]? =eV (wu (wd A L)))(hn:st∉L)(hl:L.length<=999):TZ S (.ref n) (.tup (ksX st)) (qv (rQ (A st)))=eV (S.set n (wu (wd A (L++[st])))):=by
 have:=zgX (z:=qv (rQ (A st))) h (Xw st) (zlo st) (by unfold wd;rw[uZ];show y0 hl ∅);unfold XI at this;rw[zpa hn,GP (by simp)] at this;unfold wd at*;rw[A1];show this
def zs0(h:S[n]? =eV (wu (wd A L)))(hL:∀st,yw ss st->st∈L):DA ss A n S:=#[_,h,λS' e st hs=>by
 have:=Tr e (Xw st) (zlo st);rw[zln (hL st hs)] at this
 show this]
def wB.all(gl:wB ss L)(hs:yw ss st):st∈L:=by
 have hi:idx ss st<L.length:=by rw[gl.len];show zd9 hs
 have#[h1,h2]:=gl.at_ _ _ (uV hi);rw[zlc hs h1 h2.symm];show A9 hi
set_option tactic.hygienic true in
def wB.fresh(gl:wB ss L)(e:L[i]? =eV st):st∉L.take i:=λh=>by
 have#[j,hj]:=Ab h;rw[EZ] at hj;split at hj;rename_i sJ;have h1:=(gl.at_ _ _ e).2;have h2:=(gl.at_ _ _ hj).2;omega;cases hj
def zhb(h:L≠[]):wu (wd A L)= .dn (wd A L):=by
 cases L with
 |nil=>show absurd rfl h
 |cons a L=>rfl
def zpb(h:∀st∈L,A st=B st):wd A L=wd B L:=EC λst hs=>by rw[h st hs]
noncomputable def aF(ss:kx Nat)(qs:kx Rat):SF:=λst=>qs.getD (idx ss st) 0
set_option tactic.hygienic true in
def zs1{r:Rho}(bN:Big fu)(bh:Bx9 ss bl)(hp:prd ss<=18)(h2:x2=eV (.tup bl))(hl:yb mx ln S)(e:S[an]? =eV (.dk []))(dD:an≠ln)
  (k:∀(S':Sto) (A:SF) (L:kx (kx Nat)) (a6:pf Xv),S'[an]? =eV (wu (wd A L))->wB ss L->(∀st,yw ss st->∃i:Int,A st=(i:Rat) / ((12:Nat):Int)/\i.natAbs<=12*3)->yb mx ln S'->Kp (λj=>j=ln\/j=an) S S'->N (x0::eV (.ref ln)::x2::x3::x4::eV (.ref an)::a6::r) S'):
  WS (Zs (iL (zx (Zm) [zi 2])) (gN 6) (ZM (zi 5) (zi 6) (zx (Ye) [zx (zJ) [zi 1,qx 4],eOp wL (qx 1) (zx (zJ) [zi 1,qx 4])])) (x0::eV (.ref ln)::x2::x3::x4::eV (.ref an)::gi::r) S) N R:=by
 subst h2;show xM (TX (ya (zm (zq rfl (yi ?_)))));let#[_,S6,#[sn,L,rfl,jD,gl,iU,k6]]:=zoF bh.toBx bh.l9 ⋯;have du:L.length<=18:=by rw[gl.len];show hp
 have iI:=(uT.1 e).1;have#[ui,n0,_]:=id hl;have kY:=(uT.1 n0).1;show#[_,zC jD,_,zC jD,?_];show yZ (xs:=XC L) (λi ρ S7=>∃(qs:kx Rat) (a6:pf Xv),ρ=x0::eV (.ref ln)::eV (.tup bl)::x3::x4::eV (.ref an)::a6::r/\qs.length=i/\(∀q∈qs,∃i:Int,q=(i:Rat) / ((12:Nat):Int)/\i.natAbs<=12*3)/\S7[an]? =eV (wu (wd (aF ss qs) (L.take i)))/\S7[sn]? =eV (.lst (XC L))/\yb mx ln S7/\Kp (λj=>j=ln\/j=an) S S7) (by intro _ _ _ _ #[_,_,_,_,_,_,e,_];show zC e) ?_ #[[],gi,rfl,rfl,(λq z=>by cases z),k6.2 _ _ e id,jD,hl.keep k6 id,k6.mono λ_ z=>z.elim] ?_
 .intro i w0 ρ S7 rM #[qs,a6,rfl,kS,hq,e7,qy,l7,k7];have#[st,g7,rfl]:=zbs rM;have hi:=(uT.1 g7).1;have#[hs,ix]:=gl.at_ i st g7;show .of rfl ?_
  try dsimp only[v8]
  show Uq ?_;let#[_,S8,#[c,rfl,c0,c1,l8,k8]]:=xO l7 ∅;let#[_,S9,#[d,rfl,d0,d1,l9,k9]]:=xO l8 ∅;let#[_,_,#[rfl,rfl]]:=ziB bN ⋯ (N:=20) (y0 (show(1+d).natAbs<=4 by omega) ∅) ∅;rw[zea ⋯];have e9:=k9.2 _ _ (k8.2 _ _ e7 dD) dD;have tS:=k9.2 _ _ (k8.2 _ _ qy ⋯) ⋯;have mv:∀s∈L.take i,aF ss qs s=aF ss (qs++[(c:Rat) / ((1+d:Int):Rat)]) s:=λs gJ=>by
   have#[j,hj]:=Ab gJ;rw[EZ] at hj;split at hj;rename_i sJ;unfold aF;rw[(gl.at_ j s hj).2,x9,x9,v5 ⋯];cases hj
  rw[zpb mv] at e9;have eA:aF ss (qs++[(c:Rat) / ((1+d:Int):Rat)]) st=(c:Rat) / ((1+d:Int):Rat):=by
   unfold aF;rw[ix,x9,w5 ⋯,kS,AU];rfl
  rw[<-eA];calc#[_,zlp e9 (gl.fresh g7) (by rw[Az];omega),?_];show#[qs++[(c:Rat) / ((1+d:Int):Rat)],_,rfl,by simp[kS],λq fj=> ?_,?_,xN tS (by have:=k6.1;omega),?_,((k7.trans (k8.mono λ_ z=> .inl z)).trans (k9.mono λ_ z=> .inl z)).set (.inl (.inr rfl))];rcases AQ.1 fj with h|h;show hq q h;rw[A7] at h;subst h;rcases(show d=0\/d=1\/d=2\/d=3 by omega) with rfl|rfl|rfl|rfl;show#[c*12,by rw[A2];grind,⋯];show#[c*6,by rw[A2];grind,⋯];show#[c*4,by rw[A2];grind,⋯];show#[c*3,by rw[A2];grind,⋯];rw[AO,g7];show wq e9;have#[ns,n1,n2]:=l9;show#[ns,xN n1 dD,n2]
 intro ρ S7 #[qs,a6,rfl,kS,hq,e7,qy,l7,k7];rw[WQ,A4] at e7;rw[WQ] at kS;show k S7 _ L a6 e7 gl (λst hs=> ?_) l7 k7;have hi:idx ss st<qs.length:=by rw[kS,gl.len];show zd9 hs
 unfold aF;rw[x9,uV hi];show hq _ (A9 hi)
end
section
variable{A:SF}
noncomputable def glu(lv:Nat)(s0 st:kx Nat):kx Nat:=s0++st.drop lv
def zlq(bh:Bx9 ss bl):∀(d N:Nat) {S:Sto} {fs:kx zN} {lv:Nat} {s0:kx Nat},d+1<=N->lv+d=ss.length->yU sn fn dn (.tup bl) fs S->WF ss fs->DA ss A an S->an≠fn->an≠dn->s0.length=lv->(∀(i:Nat) x s,s0[i]? =eV x->ss[i]? =eV s->x<s)->fs.length+cst ss d<=1000000->
  W (xE N [.ref sn,.tup bl,.ref an,.tup (ksX s0)] S) λv S'=>∃(i:Nat) (fs':kx zN),v= .int (i:Int)/\(∃f,fs'[i]? =eV f/\lv<=lvl ss.length f)/\(∀st,yw ss st->∃h,VA fs' st (rQ (A (glu lv s0 st))) h i)/\WF ss fs'/\yQ sn fn dn (.tup bl) fs (cst ss d) S fs' S':=by
 intro d;have fZ:∀s∈ss,1<=s:=λs hs=>(bh.siz s hs).1;have h9:=bh.l9;have gO:=bh.len
 induction d with
 |zero=>
  intro N S fs lv s0 hN jL h w da n1 n2 kR hok hf;obtain⟨N,rfl⟩:∃M,N=M+1:=#[N-1,⋯];have c2:2<=cst ss 0:=by unfold cst;rw[Cr,DN];show v3 _
  have fI:yw ss s0:=#[⋯,hok];rw[Zo];delta Zn;show zo (zO (xF (zm (zq rfl (yi (xa ?_))))));rw[yA]
  try dsimp only[v8]
  show zo (zG (xg (zM (zq rfl (xF (zm (zq rfl (yi (xa ?_)))))))));ext;rw[gO];show yS (λ_=> ?_) (λz=>absurd ⋯ z);show ye (yo ?_);calc#[_,_,rfl,h.o,rfl,?_];show zm (vh ?_);calc#[_,da.get fI,?_];let#[_,S2,#[i,aM,rfl,e1,ad,g]]:=zgS h ⋯ (zow _);show#[i,aM,rfl,#[_,e1,by change lv<=ss.length;omega],λst hs=>#[0,?_],w.leaf g.st.nd ad,g.more ⋯];unfold glu;rw[show lv=st.length by rw[hs.1];omega,DN,Bb];show .leaf e1
 |succ d ih=>
  intro N S fs lv s0 hN jL h w da n1 n2 kR hok hf;obtain⟨N,rfl⟩:∃M,N=M+1:=#[N-1,⋯];have hl:lv<ss.length:=by omega
  have es:ss[lv]? =eV ss[lv]:=uV hl;generalize hs:ss[lv]=s at es;have#[nm,hb]:=bh.at_ lv s es;have hsz:=bh.siz s (uX es);have hc:cst ss (d+1)=2+s*cst ss d:=by
   have:=zgW es;rw[show ss.length-lv=d+1 by omega] at this;show this
  rw[Zo];delta Zn;show zo (zO (xF (zm (zq rfl (yi (xa ?_))))));rw[yA,kR]
  try dsimp only[v8]
  show zo (zG (xg (zM (zq rfl (xF (zm (zq rfl (yi (xa ?_)))))))));ext;rw[gO];show yS (λz=>absurd z ⋯) (λ_=>zv ?_);show zo (zO ?_);ext;have g0:=h.grown.app (uW S [.lst []]);have e0:(S++[Ce.lst []])[S.length]? =eV (.lst (ksX [])):=yz;have kh:=h.flt;have nY:S.length≠fn:=by omega
  have dH:S.length≠dn:=λz=>g0.st.nd' e0 z;have jD:S.length≠sn:=by have:=(uT.1 h.o).1;omega
  have km:S.length≠an:=by have#[c,e,_]:=da;have:=(uT.1 e).1;omega
  have qB:=da.keep (Kp.pre (w:=λ_=>False) (uW S [.lst []])) id;generalize S++[Ce.lst []]=S1 at g0 e0 qB ⊢;generalize hK:S.length=kn at nY dH e0 jD km ⊢
  try dsimp only[v8]
  first|refine zo (xM (wT ?_))|refine xM (wT ?_)
  calc zE (l:=bl) rfl (yd hb) ?_;calc#[#[⋯,⋯],_,rfl,?_];rw[z7];show yZ (xs:=wk 0 s) (λi ρ S2=>∃(aM:kx zN) (ks:kx Nat) (a6:pf Xv),ρ=[eV (.ref sn),eV (.tup bl),eV (.ref an),eV (.tup (ksX s0)),eV (.int (lv:Int)),eV (.ref kn),a6]/\S2[kn]? =eV (.lst (ksX ks))/\ks.length=i/\yQ sn fn dn (.tup bl) fs (i*cst ss d) S aM S2/\WF ss aM/\DA ss A an S2/\∀(m k:Nat),ks[m]? =eV k->(∃f,aM[k]? =eV f/\lv<lvl ss.length f)/\∀st,yw ss st->∃h,VA aM st (rQ (A (glu (lv+1) (s0++[m]) st))) h k) (λ_ _ _ _ _=>rfl) ?_ #[fs,[],_,rfl,e0,rfl,g0.more ⋯,w,qB,λm k e=>by simp at e] ?_
  .intro i w0 ρ S2 hw #[aM,ks,a6,rfl,e2,eS,g2,w2,oU,eZ];have#[hi,rfl]:=xu hw;rw[Bg];have mq:(i+1)*cst ss d<=s*cst ss d:=z9 _ hi;have jN:(i+1)*cst ss d=i*cst ss d+cst ss d:=Ax i _;have f2:=g2.len;show .of rfl ?_
   try dsimp only[v8]
   calc zcg ?_;calc#[#[_,zC e2],?_];calc TC (by rw[yA];simp;omega) ?_;ext;rw[show ksX s0++[Xv.int (i:Int)]=ksX (s0++[i]) from(Zp s0 i).symm];show(ih N (lv:=lv+1) (s0:=s0++[i]) ⋯ ⋯ g2.st w2 oU n1 n2 (by rw[y7,kR];rfl) (λj x t e1 e3=> ?_) ⋯).imp ?_
   .rcases D8 j s0.length with c|c;rw[v5 c] at e1;show hok j x t e1 e3
    rw[w5 c] at e1;have#[c1,rfl]:=uT.1 e1;simp at c1;have:j=lv:=by omega
    subst this;rw[es] at e3;cases e3;simpa using hi
   intro _ S4 #[k,dW,rfl,#[f,ef,jQ],tl,w4,g4];have e4:=g4.kp.2 _ _ e2 λz=>z.elim nY dH;calc Tu (ZL e4) (y0 (show(ksX ks).length<=100 by rw[yA];omega) ∅) ?_;have e5:=wq (c':=Ce.lst (ksX ks++[.int (k:Int)])) e4;have pB:Kp (· =kn) S4 (S4.set kn (.lst (ksX ks++[.int (k:Int)]))):=(show Kp (· =kn) S4 S4 from Kp.refl _).set (.inl rfl);have oP:=g2.trans g4;show#[dW,ks++[k],_,rfl,by rw[Zp];show e5,by simp[eS],#[g4.st.keep pB (λz=>jD z.symm) (λz=>nY z.symm) (λz=>dH z.symm),oP.pre,by have:=oP.len;omega,oP.kp.set (.inr ⋯)],w4,(oU.keep g4.kp λz=>z.elim n1 n2).keep pB (λz=>km z.symm),λm k' e=> ?_];rcases As m ks.length with dA|dA|dA;rw[v5 dA] at e;have#[#[f',e1,e3],t]:=eZ m k' e;show#[#[f',xB g4.pre e1,e3],λst hs=>(let ⟨h,v⟩:=t st hs;#[h,v.mono g4.pre])];subst dA;rw[w5 (v3 _),AU] at e;cases e;rw[eS];show#[#[f,ef,⋯],tl];rw[z5 (by simp;omega)] at e;cases e
  intro ρ S2 #[aM,ks,a6,rfl,e2,eS,g2,w2,oU,eZ];rw[yg] at eS g2;have f2:=g2.len;have h0:ks[0]? =eV ks[0]:=uV ⋯;show ye (yo ?_);calc#[_,_,rfl,g2.st.o,rfl,?_];let#[_,S4,#[r,dW,rfl,fo,ad,g]]:=zgV g2.st ⋯ e2 h0 ⋯;have gM:∀k∈ks,∃f,aM[k]? =eV f/\lv<lvl ss.length f:=λk hk=>by
   have#[m,dA]:=Ab hk;show(eZ m k dA).1
  have w4:WF ss dW:=by
   rcases ad with rfl|⟨fW,ad⟩
   .show w2
   show w2.fork g.st.nd (.inr ad) es eS gM λz=>fW λk hk=> ?_;show z k hk ks[0] (A9 _)
  show#[r,dW,rfl,?_,λst hs=> ?_,w4,(g2.trans g).more ⋯];obtain⟨k0,e0,⟨all,rfl⟩|⟨_,e⟩⟩:=fo;have#[f,e1,e2]:=gM r (uX e0);show#[f,xB g.pre e1,⋯];show#[_,e,v3 _]
  have#[m,em,dA]:=hs.get es;have ek:ks[m]? =eV ks[m]:=uV ⋯;have#[_,tl]:=eZ m _ ek;have#[hh,v]:=tl st hs;have eg:glu (lv+1) (s0++[m]) st=glu lv s0 st:=by
   unfold glu;have#[kX,sD]:=uT.1 em;rw[DC kX,sD,C6];rfl
  rw[eg] at v;show#[_,fo.va em ek (v.mono g.pre)]
end
section
variable{A:SF}
theorem zpc:∀{ss:kx Nat},(∀s∈ss,1<=s)->wt ss<=2*(ss.length+1)*prd ss
 |[],_=>by simp[wt,prd]
 |s::r,h=>by
  have h1:=zpc (ss:=r) λt ht=>h t (w6 _ ht);have h2:=h s y6;have h3:=zlb (ss:=r) λt ht=>h t (w6 _ ht);have h4:1<=s*prd r:=Bj h2 h3;change 2+s*wt r<=2*(r.length+1+1)*(s*prd r);have h5:s*wt r<=s*(2*(r.length+1)*prd r):=Ao _ h1;have h6:s*(2*(r.length+1)*prd r)=2*(r.length+1)*(s*prd r):=by rw[Nat.mul_left_comm]
  have h7:2*(r.length+1+1)*(s*prd r)=2*(r.length+1)*(s*prd r)+2*(s*prd r):=by rw[show 2*(r.length+1+1)=2*(r.length+1)+2 by omega,E9]
  omega
def zs2(bh:Bx9 ss bl)(hp:prd ss<=20):cst ss ss.length<=400:=by
 unfold cst;rw[AU,FC];have h1:=zpc (ss:=ss) λs hs=>(bh.siz s hs).1;have h2:2*(ss.length+1)*prd ss<=20*20:=BP (by have:=bh.l9;omega) hp;omega
def zqN(bh:Bx9 ss bl):∃st,yw ss st:=by
 show#[z4 ss.length 0,by simp,λi x s e1 e2=> ?_];rw[Cy] at e1;split at e1;cases e1;show(bh.siz s (uX e2)).1;cases e1
def zuy(q:Q2):plX (n+1) (qv q)=hG:=by cases n<;>simp[plX,qv]
def QX.is(h:QX x q):x=qv q\/x= .ct [.int q.1,.int q.2]:=by
 unfold QX at h;cases x with
 |tup l=>simp only[Xv.tupOf,Ar] at h;subst h;show .inl rfl
 |ct l=>simp only[Xv.tupOf,Ar] at h;subst h;show .inr rfl
 |_=>simp[Xv.tupOf] at h
def zuz(h:atI l i=eV z):zhI (.ct l) (.int i) S=eV (z,S):=by
 change(atI l i).map (λz=>(z,S))=_;rw[h];rfl
def zqO(h:QX x q):W (xk 10 [x,qv q] S) λv S'=>v= .bl hG/\S<+:S':=by
 rcases h.is with rfl|rfl;show zov 9 (zuy q);rw[vc];delta vz;show zo (zG ?_);calc vR (v:=hG) rfl ?_;show#[_,rfl,λ_=> ?_,λz=>(by cases z)];show zo (zG (zcf ?_));calc vR (v:=hG) rfl ?_;show#[_,rfl,λz=>(by cases z),λ_=> ?_];calc WO.of (show wM [Xv.ct [.int q.1,.int q.2]] S=eV (.int 2,S) from rfl) ?_;calc WO.of (show wM [qv q] S=eV (.int 2,S) from rfl) ?_;calc#[λz=> ?_,λ_=>zv ?_];simp at z;show ye (xF (zm ?_));show xi (wT ?_);calc WO.of (show wM [qv q] S=eV (.int 2,S) from rfl) ?_;show#[_,rfl,#[⋯,⋯],_,rfl,?_];show yR (by rw[yg];show A3 (Yg ∅)) (λi es S2=>S<+:S2/\es=z4 i (.bl hG)) (λ_ _ _ _ _=>rfl) ?_ #[Ae _,rfl] ?_
 .intro i w es S2 hw fq #[p2,rfl];have#[hi,rfl]:=xu hw;have gW:i<[Xv.int q.1,Xv.int q.2].length:=hi;have lj:atI [Xv.int q.1,Xv.int q.2] ((0:Int)+(i:Int))=eV [Xv.int q.1,Xv.int q.2][i]:=by rw[Bg];show zbQ ⋯ (by rw[z7];show uV gW)
  show .of rfl ?_;dsimp only[vw,Ak,v8];calc#[rfl,?_];calc WO.of (zuz lj) ?_;calc WO.of (zsB (l:=[Xv.int q.1,Xv.int q.2]) lj) ?_;ext;have fJ:plX 8 [Xv.int q.1,Xv.int q.2][i]=hG:=by
   have:=A9 gW;rw[x8,A7] at this;rcases this with e|e<;>rw[e]<;>simp[plX]
  let#[_,S3,#[rfl,p3]]:=zov 8 fJ;show#[p2.trans p3,by rw[Et]]
 intro es S2 _ #[p2,rfl];ext;show zj3 xW (zd4 _) #[by simp,p2.trans (uW _ _)]
def zhc(h:S[n]? =eV (.fdn (wd A L)))(hL:∀st,yw ss st->st∈L):DA ss A n S:=#[_,h,λS' e st hs=>by
 unfold YY;dsimp only;rw[e];dsimp only
 rw[show Up (.tup (ksX st))=eV (kL st) from Xw st,Bd,zln (hL st hs)]]
def ziN:(wd A L).map (·.2.1)=XC L:=by
 unfold wd XC;rw[BF];rfl
def zfF(bN:Big fu)(bh:Bx9 ss bl)(hz:∃st,yw ss st)(hp:prd ss<=18)(gl:wB ss L)(h:yU sn fn dn (.tup bl) fs S)(w:WF ss fs)(t:TR ss fs A i)(e:S[n]? =eV (.dn (wd A L))\/S[n]? =eV (.fdn (wd A L)))(n1:n≠fn)(n2:n≠dn)(n3:n≠sn)(hf:fs.length+400<=1000000):W (ZT [.ref sn,.tup bl,.int (i:Int),.ref n] S) λv S'=>v= .bl hG/\∃fs',yU sn fn dn (.tup bl) fs' S'/\WF ss fs'/\fs<+:fs'/\fs'.length<=fs.length+400/\S'[n]? =eV (.fdn (wd A L))/\Kp (λj=>j=fn\/j=dn\/j=n) S S':=by
 have du:L.length<=18:=by rw[gl.len];show hp
 have#[f,ef]:=t.ex;delta WB;show zo (xM (zoh (zq rfl #[n,wd A L,?_,?_])))
 .unfold zfm;dsimp only;rcases e with e|e<;>rw[e]
 have hn:=(show n<S.length by rcases e with e|e<;>show(uT.1 e).1);have eF:(S.set n (.fdn (wd A L)))[n]? =eV (.fdn (wd A L)):=by rw[By hn]
 have kF:Kp (· =n) S (S.set n (.fdn (wd A L))):=(show Kp (· =n) S S from Kp.refl _).set (.inl rfl);have hF:=h.keep kF (λz=>n3 z.symm) (λz=>n1 z.symm) (λz=>n2 z.symm);generalize S.set n (.fdn (wd A L))=S1 at eF kF hF ⊢;have fa:∀{S':Sto},S'[n]? =eV (.fdn (wd A L))->zjH n S'=eV (XC L):=λ{S'} e=>by
  unfold zjH;rw[e];dsimp only;rw[ziN]
 show#[_,fa eF,?_];show yZ (xs:=XC L) (λj ρ S2=>∃a4,ρ=[eV (.ref sn),eV (.tup bl),eV (.int (i:Int)),eV (.ref n),a4]/\S1<+:S2) (λ_ _ _ _ ⟨_,_,p⟩=>fa (xB p eF)) ?_ #[gi,rfl,Ae _] ?_
 .intro j w0 ρ S2 hw #[a4,rfl,p2];have#[st,g7,rfl]:=zbs hw;have#[hs,ix]:=gl.at_ j st g7;have#[q',v']:=w.val' hs ef;have hq:=t.uq hs v';subst hq;have h2:=hF.pre p2;show .of rfl ?_
  try dsimp only[v8]
  show zG (zge (xg (ya (zm (yo ?_)))));calc#[_,_,rfl,h2.o,rfl,?_];let#[xv,_,#[rF,rfl]]:=zql h2 v' (by have:=bN.le;have:=bh.l9;omega);show zm (vh ?_);calc#[_,(zhc (xB p2 eF) λst hs=>gl.all hs).get hs,?_];let#[_,S3,#[rfl,p3]]:=zqO rF;show#[_,rfl,nofun,λ_=>zv #[_,rfl,p2.trans p3]]
 intro ρ S2 #[a4,rfl,p2];have h2:=hF.pre p2;have hc:=zs2 bh ⋯;have da:=zhc (xB p2 eF) λst hs=>gl.all (ss:=ss) hs;show ye (Vi (ya (zm (zq rfl (yi ?_)))));let#[_,_,#[rfl,rfl]]:=zqm;show#[_,rfl,λ_=> ?_,nofun];ext;have uM:=zbp (ss:=ss) (λs hs=>(bh.siz s hs).1) (v3 ss.length);let#[_,S4,#[k,dW,rfl,#[g,eg,_],tl,w4,g4]]:=zlq bh ss.length 12 (lv:=0) (s0:=[]) (by have:=bh.l9;omega) ⋯ h2 w da n1 n2 rfl (λj x s e=>by simp at e) ⋯;have sG:i=k:=w4.canon hz (xB g4.pre ef) eg λst hs=>by
  have#[a,va]:=t.va st hs;have#[b,vb]:=tl st hs;show#[_,a,b,va.mono g4.pre,vb]
 calc#[by rw[sG];simp,dW,g4.st,w4,g4.pre,by have:=g4.len;omega,g4.kp.2 _ _ (xB p2 eF) λz=>z.elim n1 n2,?_];show((kF.mono λ_ z=> .inr (.inr z)).trans ((Kp.pre p2).mono λ_ z=>(z:False).elim)).trans (g4.kp.mono λ_ z=>z.elim .inl λz=> .inr (.inl z))
end
section
variable{A T g:SF}
def Am(L:kx (kx Nat))(A:SF)(an:Nat)(S:Sto):Prop:=S[an]? =eV (.dn (wd A L))\/S[an]? =eV (.fdn (wd A L))
def Am.keep{w:Nat->Prop}(h:Am L A an S)(k:Kp w S S')(hn:¬w an):Am L A an S':=h.imp (λe=>k.2 _ _ e hn) λe=>k.2 _ _ e hn
def Am.eq(h:Am L A an S)(h2:Am L T an S):wd A L=wd T L:=by
 rcases h with h|h<;>rcases h2 with h2|h2<;>rw[h] at h2
 .show Ce.dn.inj (A0 h2)
 .show absurd (A0 h2) (by simp)
 .show absurd (A0 h2) (by simp)
 show Ce.fdn.inj (A0 h2)
def Am.cg(h:Am L A an S)(e:wd A L=wd T L):Am L T an S:=by
 unfold Am at*;rw[<-e];show h
def Am.da(h:Am L A an S)(gl:wB (sz bs) L)(hL:L≠[]):DA (sz bs) A an S:=by
 rcases h with h|h;show zs0 (by rw[zhb hL];show h) λst hs=>gl.all hs;show zhc h λst hs=>gl.all hs
def zuW(k:Kp (· =an) S S2)(k2:Kp (· =r) S2 S3)(h:r=an\/S.length<=r):Kp (· =an) S S3:=#[v7 k.1 k2.1,λn c e hn=>k2.2 n c (k.2 n c e hn) λz=>by
 have:=(uT.1 e).1;rcases h with h|h;show hn (z.trans h)
 omega]
def LQ(L:kx (kx Nat))(T A:SF)(an:Nat)(S:Sto)(r:Nat)(S':Sto):Prop:=Am L T r S'/\Am L A an S'/\(r=an\/S.length<=r)/\Kp (· =an) S S'
def LQ.refl(h:Am L A an S):LQ L A A an S an S:=#[h,h,.inl rfl,Kp.refl _]
def LQ.pre(k:Kp K0 S S2)(h:LQ L T A an S2 r S3):LQ L T A an S r S3:=#[h.1,h.2.1,h.2.2.1.imp id λz=>v7 k.1 z,(k.mono λ_ z=>z.elim).trans h.2.2.2]
def LQ.trans(h:LQ L T A an S r S2)(h2:LQ L g T r S2 r3 S3):LQ L g A an S r3 S3:=by
 show#[h2.1,?_,?_,zuW h.2.2.2 h2.2.2.2 h.2.2.1];by_cases e:r=an;subst e;show h2.2.1.cg (h.1.eq h.2.1);show h.2.1.keep h2.2.2.2 (AX e);rcases h2.2.2.1 with e|e;rw[e];show h.2.2.1;show .inr (v7 h.2.2.2.1 e)
def LP(L:kx (kx Nat))(T A:SF)(an:Nat)(S:Sto)(v:Xv)(S':Sto):Prop:=∃r,v= .ref r/\LQ L T A an S r S'
def zuA(bs:kx (Str×Nat))(L:kx (kx Nat))(call:Nat->Sto->pf (Rs Xv))(T:SF->SF)(k:Nat):Prop:=∀ ⦃S:Sto⦄ ⦃an D B:Nat⦄ ⦃A:SF⦄,Am L A an S->CB bs D B A->Fw D B k->W (call an S) (LP L (T A) A an S)
noncomputable def zcT(bs:kx (Str×Nat))(ct:Bool)(L:kx (kx Nat))(m:Nat)(x:Xv):=zuA bs L λan S=>zX m [.tup (bsX bs),x,.ref an,.bl ct] S
noncomputable def ziO(bs:kx (Str×Nat))(ct:Bool)(L:kx (kx Nat))(m:Nat)(xs:kx Xv):=zuA bs L λan S=>yG m [.tup (bsX bs),.tup xs,.ref an,.bl ct] S
def LdT(bs:kx (Str×Nat))(ct:Bool)(L:kx (kx Nat))(m:Nat)(x:Xv)(T:SF->SF)(k:Nat):Prop:=Tk bs k T/\zcT bs ct L m x T k
def zuB{T:SF->SF}(h:BL (LdT bs ct L m) xs T k):ziO bs ct L (m+1) xs T k:=by
 intro S an D B A am cb fw;change W (yG (m+1) _ S) _;rw[XY];delta YJ;show zo (xM (zkZ (zq rfl #[_,rfl,_,rfl,?_])));show yZ (xs:=xs.reverse) (λi ρ S2=>∃(r:Nat) (a4:pf Xv) (T1 T2:SF->SF) (k1 k2 D2 B2:Nat),ρ=[eV (.tup (bsX bs)),eV (.tup xs),eV (.ref r),eV (.bl ct),a4]/\BL (LdT bs ct L m) (xs.take (xs.length-i)) T1 k1/\T=(λf=>T1 (T2 f))/\k=k1+k2/\CB bs D2 B2 (T2 A)/\Fw D2 B2 k1/\LQ L (T2 A) A an S r S2) (λ_ _ _ _ _=>rfl) ?_ #[an,gi,T,λf=>f,k,0,D,B,rfl,by rw[Cr,A4];show h,rfl,rfl,cb,fw,LQ.refl am] ?_
 .intro i w0 ρ S2 hw #[r,a4,T1,T2,k1,k2,D2,B2,rfl,bl,rfl,rfl,jU,j7,q2];have hi:i<xs.length:=by have:=(uT.1 hw).1;rwa [Br] at this
  rw[zlg hi hw] at bl;have#[T3,T4,k3,k4,oW,#[tk,fd],rfl,rfl]:=bl.snoc;have#[E,e0,e1,e2]:=tk;show .of rfl ?_
  try dsimp only[v8]
  show zO (ya (zm (zq rfl (zm (zq rfl (zm (zq rfl (zm (zq rfl (yi ?_))))))))));let#[_,S3,#[r3,rfl,q3]]:=fd q2.1 jU (j7.sub ⋯)
  try dsimp only[v8]
  show#[r3,_,T3,λf=>T4 (T2 f),k3,k4+k2,D2*E,B2+k4*1000000000,rfl,oW,rfl,⋯,e2 _ _ _ j7.1 jU,j7.step e0 e1,q2.trans q3]
 intro ρ S2 #[r,a4,T1,T2,k1,k2,D2,B2,rfl,bl,rfl,rfl,jU,j7,q2];rw[Br,AU,El] at bl;cases bl;ext;show#[r,rfl,q2]
def Sy(L:kx (kx Nat))(T A:SF)(an r:Nat)(S:Sto):Prop:=∀S',Am L A an S'->Kp (· =an) S S'->Am L T r S'
def Sy.mono(h:Sy L T A an r S)(k:Kp (· =an) S S2):Sy L T A an r S2:=λS' a k2=>h S' a (k.trans k2)
def LQ.sy(h:LQ L T A an S r S2):Sy L T A an r S2:=λS' a k=>by
 by_cases e:r=an;subst e;show a.cg (h.2.1.eq h.1);show h.1.keep k e
def ziP(hv:ρ[i]? =eV (eV (.tup (.str kd::l))))(h:kd≠w)(k:N ρ S):WS (sIf (zbI (bE (eOp (yD mK) (eOp zB (zi i) (qx 0)) (eC (.str w)))) c2) e zK ρ S) N R:=
 zG (Wg (xg (zM (zM (zq hv (wm (zE rfl WL (wm (Zr h #[_,rfl,nofun,λ_=>#[nofun,λ_=>zv k]])))))))))
def zkl(hv:ρ[i]? =eV (eV (.tup (.str kd::l))))(k:W (c2 ρ S) λv S1=>(v=hG->WS (e ρ S1) N R)/\(v=mK->WS (zK ρ S1) N R)):WS (sIf (zbI (bE (eOp (yD mK) (eOp zB (zi i) (qx 0)) (eC (.str kd)))) c2) e zK ρ S) N R:=
 zG (Wg (xg (zM (zM (zq hv (wm (zE rfl WL (wm (TH #[_,rfl,λ_=>k,nofun])))))))))
def zeO:TwS:=(zw (sIf (bE (eOp (yD mK) (eOp zB (zi 1) (qx 0)) (qE "set"))) (zH (wE (zi 2) (zx (XX) [zi 0,zi 7,zi 1])) (gN 8)) zK) (zw (sIf (bE (eOp (yD mK) (eOp zB (zi 1) (qx 0)) (qE "draw"))) (zH (zx (ZU) [zi 0,zi 1,zi 2,zi 7]) (gN 8)) zK) (zw (sIf (zbI (bE (eOp (yD mK) (eOp zB (zi 1) (qx 0)) (qE "look"))) (Um (bE (zx (wR) [zi 0,zi 7,eOp zB (zi 1) (qx 1)])))) (zH (xc [qx 0,qx 1]) (gN 8)) zK) (zw (sIf (zbI (bE (eOp (yD mK) (eOp zB (zi 1) (qx 0)) (qE "gain"))) (bE (zi 3))) (zH (zx (Yf) [zi 8,xc [zx (xG) [zi 0,zi 7,eOp zB (zi 1) (qx 1)],qx 1]]) (gN 8)) zK) (zw (sIf (zbI (bE (eOp (yD mK) (eOp zB (zi 1) (qx 0)) (qE "if"))) (Um (bE (zx (wR) [zi 0,zi 7,eOp zB (zi 1) (qx 1)])))) (zH (wE (eOp YD (zi 4) (qx 1)) (zi 7)) (gN 8)) zK) (zw (sIf (bE (eOp (yD mK) (eOp zB (zi 1) (qx 0)) (qE "hand"))) (Zs (iL (zi 4)) (gN 9) (sIf (bE (eOp dLt (eOp ww (eOp zB (zi 8) (qx 0)) (eOp zB (wE (zi 9) (zi 7)) (qx 1))) (eOp ww (eOp zB (wE (zi 9) (zi 7)) (qx 0)) (eOp zB (zi 8) (qx 1))))) (zH (wE (zi 9) (zi 7)) (gN 8)) zK)) zK) (ZM (zi 6) (zi 7) (zi 8))))))))
noncomputable def rB(bs:kx (Str×Nat))(x:Xv)(an:Nat)(ct:Bool)(tn un:Nat)(st:kx Nat)(v:Xv)(a9:pf Xv):Rho:=[eV (.tup (bsX bs)),eV x,eV (.ref an),eV (.bl ct),eV (.ref tn),gi,eV (.ref un),eV (.tup (ksX st)),eV v,a9]
def zhd(gl:wB (sz bs) L)(hL:L≠[])(du:L.length<=900)(k0:Kp (· =an) S0 S)(am:Am L A an S)(dD:tn≠an)(et:S[tn]? =eV (.lst (.ref t0::ts)))(at0:Sy L T0 A an t0 S)
  (hb:∀{S2:Sto} {un:Nat} {st:kx Nat} {N:Rho->Sto->Prop} {R:Xv->Sto->Prop} {a9:pf Xv},yw (sz bs) st->Am L A an S2->Kp (· =an) S S2->(∀S3 a9 q,q=g st->Kp K0 S2 S3->WS (ZM (zi 6) (zi 7) (zi 8) (rB bs x an ct tn un st (qv (rQ q)) a9) S3) N R)->WS (zeO (rB bs x an ct tn un st (qv (rQ (T0 st))) a9) S2) N R):
  WS (zw (zH Vh (gN 6)) (zw (Zs (iDN (zi 2)) (gN 7) (zw (zH (wE (eOp YD (zi 4) (qx 0)) (zi 7)) (gN 8)) (zeO))) (zR (zi 6))) [eV (.tup (bsX bs)),eV x,eV (.ref an),eV (.bl ct),eV (.ref tn),gi,gi,gi,gi,gi] S) N (LP L g A an S0):=by
 have km:an<S.length:=by rcases am with e|e<;>show(uT.1 e).1
 show zo (zO ?_);ext;have e0:(S++[Ce.dk []])[S.length]? =eV (.dk []):=yz;have p6:=am.keep (Kp.pre (w:=λ_=>False) (uW S [.dk []])) id;have k1:Kp (· =an) S (S++[Ce.dk []]):=Kp.pre (uW _ _);have kM:S.length≠an:=by omega
 generalize S++[Ce.dk []]=S1 at e0 p6 k1 ⊢;generalize hu:S.length=un at e0 kM ⊢;have kN:S.length<=un:=by omega
 try dsimp only[v8]
 show xM (zoh (zq rfl #[an,wd A L,?_,?_]))
 .unfold zfm;dsimp only;rcases p6 with e|e<;>rw[e]
 have hn:an<S1.length:=by rcases p6 with e|e<;>show(uT.1 e).1
 have eF:(S1.set an (.fdn (wd A L)))[an]? =eV (.fdn (wd A L)):=by rw[By hn]
 have kF:Kp (· =an) S (S1.set an (.fdn (wd A L))):=k1.set (.inl rfl);have eu:=xN (c':=Ce.fdn (wd A L)) e0 (AX kM);generalize S1.set an (.fdn (wd A L))=S1 at eF kF eu ⊢;have fa:∀{S':Sto},S'[an]? =eV (.fdn (wd A L))->zjH an S'=eV (XC L):=λ{S'} e=>by
  unfold zjH;rw[e];dsimp only;rw[ziN]
 show#[_,fa eF,?_];show yZ (xs:=XC L) (λj ρ S2=>∃a7 a8 a9,ρ=[eV (.tup (bsX bs)),eV x,eV (.ref an),eV (.bl ct),eV (.ref tn),gi,eV (.ref un),a7,a8,a9]/\S2[un]? =eV (wu (wd g (L.take j)))/\S2[an]? =eV (.fdn (wd A L))/\Kp (· =an) S S2) (by intro _ _ _ _ #[_,_,_,_,_,p,_];show fa p) ?_ #[gi,gi,gi,rfl,eu,eF,kF] ?_
 .intro j w0 ρ S2 hw #[a7,a8,a9,rfl,e2,mH,k2];have#[st,g7,rfl]:=zbs hw;have hj:=(uT.1 g7).1;have#[hs,ix]:=gl.at_ j st g7;have kq:Am L A an S2:= .inr mH;show .of rfl ?_
  try dsimp only[v8]
  show zo (zO (vh ?_));calc wD (zC (k2.2 _ _ et dD)) (yd (i:=0) rfl) ?_;calc#[_,((at0 S2 kq k2).da gl hL).get hs,?_];show hb hs kq k2 λS3 a9 q hq k3=> ?_;subst hq;show Uq ?_;calc#[_,zlp (k3.2 _ _ e2 id) (gl.fresh g7) (by rw[Az];omega),?_];show#[_,_,_,rfl,?_,xN (k3.2 _ _ mH id) kM,(k2.trans (k3.mono λ_ z=>z.elim)).set (.inr kN)];rw[AO,g7];show wq (k3.2 _ _ e2 id)
 intro ρ S2 #[a7,a8,a9,rfl,e2,mH,k2];rw[WQ,A4,zhb hL] at e2;ext;show#[un,rfl,.inl e2,.inr mH,.inr (v7 k0.1 kN),k0.trans k2]
end
section
variable{A T g:SF}
local macro_rules|`(tactic|walk_at "n1")=>`(tactic|refine zo (Yi rfl ∅ ?_))|`(tactic|walk_at "n2")=>`(tactic|refine zo (ziP rfl ∅ ?_))|`(tactic|walk_at "no")=>`(tactic|repeat first|refine zo (Yi rfl ∅ ?_) | refine zo (ziP rfl ∅ ?_))
def zuX(bs:kx (Str×Nat))(ct:Bool)(L:kx (kx Nat))(x:Xv)(T:SF->SF)(k:Nat):Prop:=∀{A:SF} {S2:Sto} {an D B tn un:Nat} {st:kx Nat} {N:Rho->Sto->Prop} {R:Xv->Sto->Prop} {a9:pf Xv},CB bs D B A->Fw D B k->yw (sz bs) st->Am L A an S2->(∀S3 a9 q,q=T A st->Kp K0 S2 S3->WS (ZM (zi 6) (zi 7) (zi 8) (rB bs x an ct tn un st (qv (rQ q)) a9) S3) N R)->WS (zeO (rB bs x an ct tn un st (qv (rQ (A st))) a9) S2) N R
def Tl{kd:Str}{T:SF->SF}(gl:wB (sz bs) L)(hL:L≠[])(du:L.length<=900)(h1:kd≠"if")(h2:kd≠"hand")(h3:kd≠"times")(hb:zuX bs ct L (.tup (.str kd::l)) T k):zcT bs ct L (m+1) (.tup (.str kd::l)) T k:=by
 intro S an D B A am cb fw;change W (zX (m+1) _ S) _;rw[yX];delta yW;show zo (zO (zbP (zm (zq rfl (yi ?_)))));show zo (Yi rfl h1 ?_);show zo (Yi rfl h2 ?_);show zo (Yi rfl h3 ?_);have km:an<S.length:=by rcases am with e|e<;>show(uT.1 e).1
 show zhd gl hL du (Kp.pre (uW _ _)) (am.keep (Kp.pre (w:=λ_=>False) (uW _ _)) id) ⋯ yz (λ_ a _=>a) λhs a _ k=>hb cb fw hs a k
def zs3(gl:wB (sz bs) L)(hL:L≠[])(du:L.length<=900)(B:zaH bs)(dH:(bs.map (·.1)).Nodup)(eb:bs[lv]? =eV b)(hr:ziH bs r):zcT bs ct L (m+1) (.tup [.str "set",.str b.1,rkX r]) (λf st=>f (stp lv b.2 (rv bs st r) st)) 1:=by
 show Tl (kd:="set") gl hL du ∅ ∅ ∅ λ{A S2 an D B2 tn un st N R a9} cb fw hs am k=> ?_;unfold zeO;show zo (zbu rfl (zO (vh (zq rfl (ya (zm (zq rfl (zm (zq rfl (zm (zq rfl (yi ?_))))))))))));let#[_,S3,#[rfl,k3]]:=zsX B.h9 B.h1 dH hs eb hr;have:=B.h1 b (uX eb);have h0:=Ap (rv bs st r) (show(b.2:Int)≠0 by omega);have h2:=Av (rv bs st r) (show(0:Int)<(b.2:Int) by omega);show#[_,((am.keep k3 id).da gl hL).get (hs.set (Th eb) ⋯),?_];walk_at "no";show k _ _ _ rfl k3
def zqP(bN:Big fu)(gl:wB (sz bs) L)(hL:L≠[])(du:L.length<=900)(B:zaH bs)(dH:(bs.map (·.1)).Nodup)(eb:bs[lv]? =eV b)(hw:ws.length=b.2)(w3:ws.sum<=32)(w0:0<ws.sum):zcT bs ct L (m+1) (.tup [.str "draw",.str b.1,.tup (ksX ws)]) (λf st=>Wb ws ((Ac b.2).map λm=>f (st.set lv m))) 1:=by
 show Tl (kd:="draw") gl hL du ∅ ∅ ∅ λ{A S2 an D B2 tn un st N R a9} cb fw hs am k=> ?_;unfold zeO;walk_at "n1";show zo (zbu rfl (zO (ya (zm (zq rfl (zm (zq rfl (zm (zq rfl (zm (zq rfl (yi ?_))))))))))));let#[_,S3,#[rfl,k3]]:=zo5 bN B dH eb hw w3 w0 (fw.nf cb) ∅ (am.da gl hL) hs;walk_at "no";show k _ _ _ rfl k3
def zqQ(bN:Big fu)(gl:wB (sz bs) L)(hL:L≠[])(du:L.length<=900)(B:zaH bs)(ho:zaG bs o):zcT bs ct L (m+1) (.tup [.str "gain",opX o]) (λf st=>if ct=hG then f st+((wv bs st o:Int):Rat) else f st) 1:=by
 show Tl (kd:="gain") gl hL du ∅ ∅ ∅ λ{A S2 an D B2 tn un st N R a9} cb fw hs am k=> ?_;have iC:st.length=bs.length:=by rw[hs.1,uZ]
 unfold zeO;walk_at "n1";walk_at "n1";walk_at "n2";show zo (zkl rfl (xg (zq rfl #[_,rfl,?_])));cases ct with
 |false=>
  show#[nofun,λ_=>zv ?_];walk_at "no";show k _ _ _ (by simp) (Kp.refl _)
 |true=>
  show#[λ_=> ?_,nofun];have nb:=fw.nf cb st hs;have wn:yT 2001 (wv bs st o):=y0 (zed ho hs B.h1) (z6 (show 1000000000<2^30 by decide) (B6 ∅ ∅));show zO (ya (zm (zq rfl (zm (Zz (zm (ya (zm (zq rfl (zm (zq rfl (zm (zM (zq rfl (wm (zE (l:=[Xv.str "gain",opX o]) rfl ZW (yi ?_)))))))))))))))));let#[_,_,#[rfl,rfl]]:=WT B.h9 iC ho;show zm (wm (yi (yi ?_)));let#[_,_,#[rfl,rfl]]:=zo2 (p1:=(A st).num) (q1:=((A st).den:Int)) (p2:=wv bs st o) (q2:=1) (N:=2001) bN (WV _) ∅ nb.1 nb.2 wn ((show yT 1 (1:Int) from(by decide:(1:Int).natAbs<2^1)).mono ∅) ∅;walk_at "no";show k _ _ _ ?_ (Kp.refl _);have n1:=VN (A st);have n2:=xV (show((A st).den:Int)≠0 by have:=WV (A st);omega)
  try dsimp only
  rw[GO rfl];grind
def zqR(gl:wB (sz bs) L)(hL:L≠[])(du:L.length<=900)(B:zaH bs)(ht:zcR bs t):zcT bs ct L (m+1) (.tup [.str "look",tsX t]) (λf st=>if mkB bs t st=hG then f st else 0) 1:=by
 show Tl (kd:="look") gl hL du ∅ ∅ ∅ λ{A S2 an D B2 tn un st N R a9} cb fw hs am k=> ?_;have iC:st.length=bs.length:=by rw[hs.1,uZ]
 unfold zeO;walk_at "n1";walk_at "n1";show zo (zkl rfl (zge (xg (ya (zm (zq rfl (zm (zq rfl (zm (zM (zq rfl (wm (zE (l:=[Xv.str "look",tsX t]) rfl ZW (yi ?_))))))))))))));let#[_,_,#[rfl,rfl]]:=ziL B.h9 iC ht;show#[_,rfl,?_];cases hm:mkB bs t st with
 |true=>
  show#[nofun,λ_=>zv ?_];walk_at "no";show k _ _ _ (by simp[hm]) (Kp.refl _)
 |false=>
  show#[λ_=>zO (Zz (zm (wm (zm (wm (yi ?_)))))),nofun];walk_at "no";show k _ _ 0 (by simp[hm]) (Kp.refl _)
def zqS(gl:wB (sz bs) L)(hL:L≠[])(du:L.length<=900):zcT bs ct L (m+1) (.tup [.str "pass"]) (λf=>f) 1:=by
 show Tl (kd:="pass") gl hL du ∅ ∅ ∅ λ{A S2 an D B2 tn un st N R a9} cb fw hs am k=> ?_;unfold zeO;walk_at "no";show k _ _ _ rfl (Kp.refl _)
def zpd{l:kx (kx Xv)}{Ts:kx (SF->SF)}{kf:Nat->Nat}{D B:Nat}{a4:pf Xv}(hlen:l.length=Ts.length)(hl:l.length<=20)(o8:∀(i:Nat) xs T,l[i]? =eV xs->Ts[i]? =eV T->ziO bs ct L m xs T (kf i))(am:Am L A an S)(cb:CB bs D B A)(fw:∀i,i<l.length->Fw D B (kf i))
  (k:∀(rs:kx Nat) (S':Sto),rs.length=l.length->(∀(i r:Nat) T,rs[i]? =eV r->Ts[i]? =eV T->Sy L (T A) A an r S')->Am L A an S'->Kp (· =an) S S'->P (.ref S'.length) (S'++[.lst (rs.map Xv.ref)])):
  W (YV (λ_=>eV (l.map Xv.tup)) (gN 0) xl (zx (yG m) [zi 1,zi 0,zi 2,zi 3]) (vw [gi,eV 0,eV 2,eV 3] [eV (.tup (bsX bs)),eV x,eV (.ref an),eV (.bl ct),a4,gi,gi,gi,gi,gi]) ((l.map Xv.tup).length+1) 0 [] S) P:=by
 show yR (xs:=l.map Xv.tup) (by rw[uZ];show A3 (Yg ⋯)) (λi es S2=>∃rs:kx Nat,es=rs.map Xv.ref/\rs.length=i/\(∀(i r:Nat) T,rs[i]? =eV r->Ts[i]? =eV T->Sy L (T A) A an r S2)/\Am L A an S2/\Kp (· =an) S S2) (λ_ _ _ _ _=>rfl) ?_ #[[],rfl,rfl,(λi r T e=>by simp at e),am,Kp.refl _] ?_
 .intro i w0 es S2 hw _ #[rs,rfl,cY,eO,kq,k2];rw[uY,y3] at hw;have#[xs,ex,rfl]:=hw;have hi:=(uT.1 ex).1;have eT:Ts[i]? =eV (Ts[i]'⋯):=uV _;show .of rfl ?_;dsimp only[vw,Ak,v8];calc#[rfl,?_];let#[_,S3,#[r,rfl,q]]:=o8 i xs _ ex eT kq cb (fw i hi);show#[rs++[r],by rw[A1];rfl,by simp[cY],λj r' T e1 e2=> ?_,q.2.1,k2.trans q.2.2.2];rcases D8 j rs.length with c|c;rw[v5 c] at e1;show(eO j r' T e1 e2).mono q.2.2.2
  rw[w5 c] at e1;have#[h0,rfl]:=uT.1 e1;simp at h0;have:j=i:=by omega
  subst this;rw[eT] at e2;cases e2;simp only[h0,Ee];show q.sy
 intro es S2 _ #[rs,rfl,cY,eO,kq,k2];rw[uZ] at cY;show k rs S2 cY eO kq k2
def zuC(gl:wB (sz bs) L)(hL:L≠[])(du:L.length<=900)(B:zaH bs){Ta Tb':SF->SF}(ht:zcR bs t)(ha:ziO bs ct L m a Ta ka)(hb:ziO bs ct L m b Tb' kb):zcT bs ct L (m+1) (.tup [.str "if",tsX t,.tup a,.tup b]) (λf st=>if mkB bs t st=hG then Ta f st else Tb' f st) (1+ka+kb):=by
 intro S an D B2 A am cb fw;change W (zX (m+1) _ S) _;rw[yX];delta yW;show zo (zO (zbP (zm (zq rfl (yi ?_)))));have jv:=am.keep (Kp.pre (w:=λ_=>False) (uW S [Ce.lst [Xv.ref an]])) id;have k0:Kp (· =an) S (S++[Ce.lst [Xv.ref an]]):=Kp.pre (uW _ _);generalize S++[Ce.lst [Xv.ref an]]=S1 at jv k0 ⊢;show zo (zbu rfl (zO (xi (zch (zrf (zq rfl ?_))))));calc zsH ?_;show#[_,rfl,_,rfl,?_];show zpd (l:=[a,b]) (Ts:=[Ta,Tb']) (kf:=λi=>if i=0 then ka else kb) rfl (by simp) (λi xs T e1 e2=> ?_) jv cb (λi _=>fw.sub (by split<;>omega)) λrs S3 cY eO lI k3=> ?_
 .match i,e1,e2 with
  |0,e1,e2=>cases e1;cases e2;show ha
  |1,e1,e2=>cases e1;cases e2;show hb
 match rs,cY with
 |[ra,rb],_=>
 show zo (Yi rfl ∅ ?_);show zo (Yi rfl ∅ ?_);have km:an<S3.length:=by rcases lI with e|e<;>show(uT.1 e).1
 have k4:Kp (· =an) S3 (S3++[Ce.lst ([ra,rb].map Xv.ref)]):=Kp.pre (uW _ _);show zhd (T0:=Ta A) gl hL du (k0.trans (k3.trans k4)) (lI.keep (Kp.pre (w:=λ_=>False) (uW _ _)) id) ⋯ yz ((eO 0 ra Ta rfl rfl).mono k4) λ{S4 un st N R a9} hs oX k5 k=> ?_;have iC:st.length=bs.length:=by rw[hs.1,uZ]
 unfold zeO;walk_at "n1";walk_at "n1";walk_at "n2";walk_at "n2";show zo (zkl rfl (zge (xg (ya (zm (zq rfl (zm (zq rfl (zm (zM (zq rfl (wm (zE (l:=[Xv.str "if",tsX t,.tup a,.tup b]) rfl ZW (yi ?_))))))))))))));let#[_,_,#[rfl,rfl]]:=ziL B.h9 iC ht;show#[_,rfl,?_];cases hm:mkB bs t st with
 |true=>
  show#[nofun,λ_=>zv ?_];walk_at "no";show k _ _ _ (by simp[hm]) (Kp.refl _)
 |false=>
  show#[λ_=>zO (vh (zM (zq rfl (wm (wD (zC (k5.2 _ _ yz (show ¬S3.length=an by omega))) (yd (i:=1) rfl) (zq rfl ?_)))))),nofun];show#[_,((((eO 1 rb Tb' rfl rfl).mono k4) _ oX k5).da gl hL).get hs,?_];walk_at "no";show k _ _ _ (by simp[hm]) (Kp.refl _)
def zpe{a:kx Xv}{T:SF->SF}{k kk:Nat}(hk:k<=1000)(tk:Tk bs kk T)(ha:ziO bs ct L m a T kk):zcT bs ct L (m+1) (.tup [.str "times",.int (k:Int),.tup a]) (itS T k) (1+k*kk):=by
 intro S an D B A am cb fw;change W (zX (m+1) _ S) _;rw[yX];delta yW;show zo (zO (zbP (zm (zq rfl (yi ?_)))));have jv:=am.keep (Kp.pre (w:=λ_=>False) (uW S [Ce.lst [Xv.ref an]])) id;have k0:Kp K0 S (S++[Ce.lst [Xv.ref an]]):=Kp.pre (uW _ _);generalize S++[Ce.lst [Xv.ref an]]=S1 at jv k0 ⊢;generalize S.length=tn;show zo (Yi rfl ∅ ?_);show zo (Yi rfl ∅ ?_);show zo (zbu rfl (zo (xM (wT (zM (zq rfl (wm ?_)))))));show zE (l:=[Xv.str "times",.int (k:Int),.tup a]) rfl ZW #[_,rfl,#[⋯,⋯],_,rfl,?_];rw[z7];show yZ (xs:=wk 0 k) (λj ρ S2=>∃(r:Nat) (a5:pf Xv),ρ=[eV (.tup (bsX bs)),eV (.tup [.str "times",.int (k:Int),.tup a]),eV (.ref r),eV (.bl ct),eV (.ref tn),a5,gi,gi,gi,gi]/\LQ L (itS T j A) A an S1 r S2/\∃D3 B3,CB bs D3 B3 (itS T j A)/\Fw D3 B3 ((k-j)*kk)) (λ_ _ _ _ _=>rfl) ?_ #[an,gi,rfl,LQ.refl jv,D,B,cb,fw.sub (by rw[Cr];omega)] ?_
 .intro j w0 ρ S2 hw #[r,a5,rfl,q2,D3,B3,c3,f3];have#[hj,rfl]:=xu hw;have o4:(k-j)*kk=(k-(j+1))*kk+kk:=by rw[show k-j=(k-(j+1))+1 by omega,Ax]
  rw[o4] at f3;have#[E,e0,e1,e2]:=tk;show .of rfl ?_
  try dsimp only[v8]
  show zO (ya (zm (zq rfl (zm (zM (zq rfl (wm ?_)))))));show zE rfl (show atI [Xv.str "times",.int (k:Int),.tup a] 2=eV (.tup a) from rfl) ?_;let#[_,S3,#[r3,rfl,q3]]:=ha q2.1 c3 (f3.sub ⋯);show#[r3,_,rfl,q2.trans q3,_,_,e2 _ _ _ f3.1 c3,f3.step e0 e1]
 intro ρ S2 #[r,a5,rfl,q2,_];rw[yg] at q2;ext;show#[r,rfl,q2.pre k0]
end
section
variable{A T g:SF}
def zqT(a:Rat):mxR a a=a:=by
 unfold mxR;split<;>rfl
def zuD{kf:Nat->Nat}(h:i<n):kf i<=sm kf n:=v7 (Fy _ (sm kf i)) (show sm kf (i+1)<=sm kf n from zoX h)
def zqU(gl:wB (sz bs) L)(hL:L≠[])(du:L.length<=900){l:kx (kx Xv)}{Ts:kx (SF->SF)}{kf:Nat->Nat}(hlen:l.length=Ts.length)(h1:1<=l.length)(h8:l.length<=9)(o8:∀(i:Nat) xs T,l[i]? =eV xs->Ts[i]? =eV T->ziO bs ct L m xs T (kf i))(htk:∀(i:Nat) T,Ts[i]? =eV T->Tk bs (kf i) T):zcT bs ct L (m+1) (.tup [.str "hand",.tup (l.map .tup)]) (λf st=>mxL (Ts.map λT=>T f st)) (1+sm kf l.length):=by
 intro S an D B2 A am cb fw;have qt:∀i,i<l.length->Fw D B2 (kf i):=λi hi=>fw.sub (by have:=zuD (kf:=kf) hi;omega);have nfT:∀(i:Nat) T,Ts[i]? =eV T->NF bs 2001 (T A):=λi T hi=>Fw.nfT (qt i (by have:=(uT.1 hi).1;omega)) (htk i T hi) cb;change W (zX (m+1) _ S) _;rw[yX];delta yW;show zo (zO (zbP (zm (zq rfl (yi ?_)))));have jv:=am.keep (Kp.pre (w:=λ_=>False) (uW S [Ce.lst [Xv.ref an]])) id;have k0:Kp (· =an) S (S++[Ce.lst [Xv.ref an]]):=Kp.pre (uW _ _);generalize S++[Ce.lst [Xv.ref an]]=S1 at jv k0 ⊢;show zo (Yi rfl ∅ ?_);show zo (zbu rfl (zO (xi (zjC (zM (zq rfl (wm (zE (l:=[Xv.str "hand",.tup (l.map .tup)]) rfl ZW #[_,rfl,_,rfl,?_]))))))));show zpd hlen ⋯ o8 jv cb qt λrs S3 cY eO lI k3=> ?_;show zo (Yi rfl ∅ ?_);have km:an<S3.length:=by rcases lI with e|e<;>show(uT.1 e).1
 have k4:Kp (· =an) S3 (S3++[Ce.lst (rs.map Xv.ref)]):=Kp.pre (uW _ _);cases rs with
 |nil=>rw[Aw] at cY;omega
 |cons r0 rs=>
 cases Ts with
 |nil=>rw[Aw] at hlen;omega
 |cons T0 Ts=>
 show zhd (T0:=T0 A) gl hL du (k0.trans (k3.trans k4)) (lI.keep (Kp.pre (w:=λ_=>False) (uW _ _)) id) ⋯ yz ((eO 0 r0 T0 rfl rfl).mono k4) λ{S4 un st N R a9} hs oX k5 k=> ?_;have et:=k5.2 _ _ yz (show ¬S3.length=an by omega);unfold zeO;show zo (Yi rfl ∅ ?_);show zo (Yi rfl ∅ ?_);show zo (ziP rfl ∅ ?_);show zo (ziP rfl ∅ ?_);show zo (ziP rfl ∅ ?_);show zo (zbu rfl (xM (TX (zq rfl #[_,zC et,_,zC et,?_]))));show yZ (xs:=(r0::rs).map Xv.ref) (λi ρ S5=>S5=S4/\∃a9,ρ=rB bs (.tup [.str "hand",.tup (l.map .tup)]) an ct S3.length un st (qv (rQ ((((T0::Ts).take i).map λT=>T A st).foldl mxR (T0 A st)))) a9/\NB 2001 ((((T0::Ts).take i).map λT=>T A st).foldl mxR (T0 A st))) (by intro _ _ _ _ #[rfl,_];show zC et) ?_ #[rfl,a9,rfl,nfT 0 T0 rfl st hs] ?_
 .intro i w0 ρ S5 m9 #[rfl,a9,rfl,nb];rw[uY,y3] at m9;have#[ri,er,rfl]:=m9;have hi:=(uT.1 er).1;have eT:(T0::Ts)[i]? =eV ((T0::Ts)[i]'⋯):=uV _;generalize (T0::Ts)[i]'⋯=Ti at eT;have nf:=nfT i Ti eT st hs;have dg:=((((eO i ri Ti er eT).mono k4) _ oX k5).da gl hL).get hs;rw[AO,eT,A1,CJ];generalize ((((T0::Ts).take i).map λT=>T A st).foldl mxR (T0 A st))=q at nb ⊢;change W _ λρ1 S1=>WS _ (λρ2 S2=>S2=S5/\∃a9,ρ2=rB _ _ _ _ _ _ _ (qv (rQ (mxR q (Ti A st)))) a9/\NB 2001 (mxR q (Ti A st))) _;have mZ:NB 2001 (mxR q (Ti A st)):=zrp nb nf;generalize Ti A st=f at nf dg mZ ⊢;have c1:=nb.1.le;have c2:=nb.2.le;have c3:=nf.1.le;have c4:=nf.2.le;show .of rfl ?_;show zG (xg (zM (zM (zM (zq rfl (wm (zE (l:=[Xv.int q.num,.int (q.den:Int)]) rfl WL ?_)))))));show zM (vh (zq rfl (zq rfl #[_,dg,wm (zE (l:=[Xv.int f.num,.int (f.den:Int)]) rfl ZW (xx ⋯ ?_))])));show zM (zM (vh (zq rfl (zq rfl #[_,dg,wm (zE (l:=[Xv.int f.num,.int (f.den:Int)]) rfl WL ?_)]))));show zM (zq rfl (wm (zE (l:=[Xv.int q.num,.int (q.den:Int)]) rfl ZW (xx ⋯ ?_))));ext;show yS (λh=> ?_) (λh=>zv ?_)
  .have em:mxR q f=f:=by unfold mxR;rw[GO (zeb.2 h)]
   rw[em] at mZ ⊢;show zO (vh (zq rfl (zq rfl #[_,dg,rfl,_,rfl,mZ])))
  have em:mxR q f=q:=by unfold mxR;rw[GP λz=>h (zeb.1 z)]
  rw[em];show#[rfl,_,rfl,nb]
 intro ρ S5 #[rfl,a9,rfl,nb];rw[uZ,cY,hlen,A4];show k _ _ _ ?_ (Kp.refl _);rw[y8,D5,zqT];rfl
structure Pz(bs:kx (Str×Nat))(ct:Bool)(L:kx (kx Nat))(q:Nat)(x:Xv)(T:SF->SF)(k:Nat):Prop where
 fd:∀m,2*q+1<=m->zcS bs ct m x T k
 ld:∀m,2*q+1<=m->zcT bs ct L m x T k
structure Pb(bs:kx (Str×Nat))(ct:Bool)(L:kx (kx Nat))(q:Nat)(xs:kx Xv)(T:SF->SF)(k:Nat):Prop where
 fd:∀m,2*q+2<=m->ziK bs ct m xs T k
 ld:∀m,2*q+2<=m->ziO bs ct L m xs T k
def ziQ(h:∀p∈a,∃T k,k<=p.2/\Pz bs ct L q p.1 T k):∃T k,k<=nS a/\Pb bs ct L q (bX a) T k:=by
 have:∃T k,k<=nS a/\BL (Pz bs ct L q) (bX a) T k:=by
  induction a with
  |nil=>show#[_,_,BK _,.nil]
  |cons p a ih=>
   have#[T1,k1,l1,z1]:=h p (.head _);have#[T2,k2,l2,z2]:=ih λp hp=>h p (.tail _ hp);show#[_,k1+k2,by change _<=p.2+nS a;omega,.cons z1 z2]
 have#[T,k,hk,b]:=this;show#[T,k,hk,#[λm hm=> ?_,λm hm=> ?_]];obtain⟨m,rfl⟩:∃j,m=j+1:=#[m-1,⋯];show zur (b.mono λ_ _ _ z=>z.fd m ⋯);obtain⟨m,rfl⟩:∃j,m=j+1:=#[m-1,⋯];show zuB (b.mono λ_ _ _ z=>#[(z.fd m ⋯).1,z.ld m ⋯])
def zcy{T:SF->SF}(h:∀m,2*q<=m->zcS bs ct (m+1) x T k/\zcT bs ct L (m+1) x T k):Pz bs ct L q x T k:=#[λm hm=>by
 obtain⟨m,rfl⟩:∃j,m=j+1:=#[m-1,⋯];show(h m ⋯).1,λm hm=>by
 obtain⟨m,rfl⟩:∃j,m=j+1:=#[m-1,⋯]
 show(h m ⋯).2]
theorem zpf{l:kx (kx (Xv×Nat))}{kf:Nat->Nat}(h:∀(i:Nat) a,l[i]? =eV a->kf i<=nS a):∀j,j<=l.length->sm kf j<=((l.take j).map nS).sum
 |0,_=>BK _
 |j+1,hj=>by
  have e:l[j]? =eV l[j]:=uV hj;have h1:=zpf h j ⋯;have h2:=h j _ e;rw[AO,e,A1,D6];change sm kf j+kf j<=_+(nS l[j]+0);omega
def zuE(bN:Big fu)(gl:wB (sz bs) L)(hL:L≠[])(du:L.length<=900)(B:zaH bs)(dH:(bs.map (·.1)).Nodup)(h:Dk bs q x n):∃T k,k<=n/\Pz bs ct L q x T k:=by
 induction h with
 |pl p=>
  rcases p with⟨lv,b,r,rfl,eb,hr⟩|⟨o,rfl,ho⟩|⟨t,rfl,ht⟩|rfl|⟨lv,b,ws,rfl,eb,hw,w3,w0⟩
  .show#[_,1,v3 _,zcy λm hm=>#[zsV B (zg9 dH eb) eb hr,zs3 gl hL du B dH eb hr]]
  .show#[_,1,v3 _,zcy λm hm=>#[zqE bN B ho,zqQ bN gl hL du B ho]]
  .show#[_,1,v3 _,zcy λm hm=>#[zqF B ht,zqR gl hL du B ht]]
  .show#[_,1,v3 _,zcy λm hm=>#[zqG,zqS gl hL du]]
  show#[_,1,v3 _,zcy λm hm=>#[zqD bN B (zg9 dH eb) eb hw w3 w0,zqP bN gl hL du B dH eb hw w3 w0]]
 |if_ ht _ _ i7 iP=>
  have#[Ta,ka,la,pa]:=ziQ i7;have#[Tb',kb,lb,pb]:=ziQ iP;show#[_,1+ka+kb,⋯,zcy λm hm=>#[zut B ht (pa.fd m ⋯) (pb.fd m ⋯),zuC gl hL du B ht (pa.ld m ⋯) (pb.ld m ⋯)]]
 |times hc _ i7=>
  have#[Ta,ka,la,pa]:=ziQ i7;show#[_,_,Dc (BP (Fd _ _) (v7 la (Fy _ _))) 1,zcy λm hm=>#[zoW (pa.fd m ⋯) ⋯,zpe ⋯ (pa.fd m ⋯).1 (pa.ld m ⋯)]]
 | @hand q l h1 h8 _ ih=>
  have hF:∀a:kx (Xv×Nat),∃p:(SF->SF)×Nat,a∈l->p.2<=nS a/\Pb bs ct L q (bX a) p.1 p.2:=λa=>by
   by_cases ha:a∈l;have#[T,k,hk,p]:=ziQ (ih a ha);show#[(T,k),λ_=>#[hk,p]];show#[(id,0),λz=>absurd z ha]
  have#[F,hF]:=Classical.axiomOfChoice hF;have gM:∀(i:Nat) a,l[i]? =eV a->(((l[i]?).map λa=>(F a).2).getD 0)=(F a).2:=λi a e=>by rw[e];rfl
  have ko:∀(i:Nat) T,(l.map λa=>(F a).1)[i]? =eV T->∃a,l[i]? =eV a/\T=(F a).1:=λi T e=>by
   rw[uY,y3] at e;have#[a,e,rfl]:=e;show#[a,e,rfl]
  have nU:∀m,2*q+2<=m->∀(i:Nat) xs T,(l.map bX)[i]? =eV xs->(l.map λa=>(F a).1)[i]? =eV T->ziK bs ct m xs T (((l[i]?).map λa=>(F a).2).getD 0)/\ziO bs ct L m xs T (((l[i]?).map λa=>(F a).2).getD 0):=λm hm i xs T e1 e2=>by
   have#[a,e,rfl]:=ko i T e2;rw[uY,e] at e1;cases e1;rw[gM i a e];have p:=(hF a (uX e)).2;show#[p.fd m hm,p.ld m hm]
  have hlen:(l.map bX).length=(l.map λa=>(F a).1).length:=by rw[uZ,uZ]
  have kY:(l.map bX).length=l.length:=uZ ..;have hx:(l.map λa=>Xv.tup (bX a))=(l.map bX).map Xv.tup:=by rw[BF];rfl
  rw[hx];show#[_,1+sm (λi=>((l[i]?).map λa=>(F a).2).getD 0) (l.map bX).length,?_,zcy λm hm=>#[zqH B (Ts:=l.map λa=>(F a).1) (kf:=λi=>((l[i]?).map λa=>(F a).2).getD 0) #[hlen,λi xs T e1 e2=>(nU m ⋯ i xs T e1 e2).1] ⋯ ⋯,zqU gl hL du (Ts:=l.map λa=>(F a).1) (kf:=λi=>((l[i]?).map λa=>(F a).2).getD 0) hlen ⋯ ⋯ (λi xs T e1 e2=>(nU m ⋯ i xs T e1 e2).2) λi T e=> ?_]]
  .have:=zpf (l:=l) (kf:=λi=>((l[i]?).map λa=>(F a).2).getD 0) (λi a e=>by
    change((l[i]?).map λa=>(F a).2).getD 0<=_;rw[gM i a e]
    show(hF a (uX e)).1) l.length (v3 _)
   rw[A4] at this;rw[kY];omega
  have#[a,ea,rfl]:=ko i T e;show(nU m ⋯ i (bX a) _ (by rw[uY,ea];rfl) e).1.1
def zbv(h:∀p∈a,∃hs,zf3 q p.1 hs/\Str.ofString "while"∉hs/\hs.length<=p.2):∃hs,Bl (q+1) (bX a) hs/\Str.ofString "while"∉hs/\hs.length<=nS a:=by
 have:∃xs:kx (Xv×kx Str),xs.map (·.1)=bX a/\(∀p∈xs,zf3 q p.1 p.2)/\Str.ofString "while"∉(xs.map (·.2)).flatten/\(xs.map (·.2)).flatten.length<=nS a:=by
  induction a with
  |nil=>show#[[],rfl,(λp z=>by cases z),nofun,v3 _]
  |cons p a ih=>
   have#[hs,i1,n1,l1]:=h p (.head _);have#[xs,e,i2,n2,l2]:=ih λp hp=>h p (.tail _ hp);show#[(p.1,hs)::xs,by rw[y8,e];rfl,λr hr=> ?_,?_,?_];rcases x8.1 hr with rfl|hr;show i1;show i2 r hr;rw[y8,AH];intro z;rcases AQ.1 z with z|z;show n1 z;show n2 z;rw[y8,AH,y7];change _<=p.2+nS a;dsimp only;omega
 have#[xs,e,h1,h2,h3]:=this;have:=zuu h1;rw[e] at this;show#[_,this,h2,h3]
def zuF(h:Dk bs q x n):∃hs,zf3 q x hs/\Str.ofString "while"∉hs/\hs.length<=n:=by
 induction h with
 |pl p=>
  have#[kd,l,rfl,h1,h2,h3,h4]:=p.word;show#[[kd],zuv _ h1 h2 h3 h4,λz=>h2 (A7.1 z).symm,v3 _]
 | @if_ q t a b ht _ _ i7 iP=>
  have#[ha,b1,n1,l1]:=zbv i7;have#[hb,b2,n2,l2]:=zbv iP;show#[_,#[("if",[tsX t,.tup (bX a),.tup (bX b)],[(bX a,ha),(bX b,hb)]),rfl,rfl,.inl #[rfl,_,_,_,rfl,rfl],λp hp=> ?_],?_,?_];rcases x8.1 hp with rfl|hp;show b1;rw[A7] at hp;subst hp;show b2;unfold zbt;intro z;rcases x8.1 z with z|z;show absurd (show Str.ofString "while"=Str.ofString "if" from z) ∅;simp at z;show z.elim n1 n2;unfold zbt;simp;omega
 | @times q c a hc _ i7=>
  have#[ha,b1,n1,l1]:=zbv i7;show#[_,#[("times",[.int (c:Int),.tup (bX a)],[(bX a,ha)]),rfl,rfl,.inr (.inl #[.inr rfl,_,_,rfl,rfl]),λp hp=> ?_],?_,?_];rw[A7] at hp;subst hp;show b1;unfold zbt;intro z;rcases x8.1 z with z|z;show absurd (show Str.ofString "while"=Str.ofString "times" from z) ∅;simp at z;show n1 z;have:1+nS a<=max 1 c*(1+nS a):=CP _ ⋯;unfold zbt;simp;omega
 | @hand q l h1 h8 hd ih=>
  have:∃ws:kx (kx Xv×kx Str),ws.map (·.1)=l.map bX/\(∀p∈ws,Bl (q+1) p.1 p.2)/\Str.ofString "while"∉(ws.map (·.2)).flatten/\(ws.map (·.2)).flatten.length<=(l.map nS).sum:=by
   clear h1 h8 hd
   induction l with
   |nil=>show#[[],rfl,(λp z=>by cases z),nofun,v3 _]
   |cons a l qZ=>
    have#[hs,b1,n1,l1]:=zbv (ih a (.head _));have#[ws,e,i2,n2,l2]:=qZ λa ha=>ih a (.tail _ ha);show#[(bX a,hs)::ws,by rw[y8,e];rfl,λr hr=> ?_,?_,?_];rcases x8.1 hr with rfl|hr;show b1;show i2 r hr;rw[y8,AH];intro z;rcases AQ.1 z with z|z;show n1 z;show n2 z;rw[y8,AH,y7,y8,BJ];dsimp only;omega
  have#[ws,e,b1,n1,l1]:=this;show#[_,#[("hand",[.tup (l.map λa=> .tup (bX a))],ws),rfl,rfl,.inr (.inr (.inl #[rfl,?_])),b1],?_,?_];rw[e,BF];rfl;unfold zbt;intro z;rcases x8.1 z with z|z;show absurd (show Str.ofString "while"=Str.ofString "hand" from z) ∅;show n1 z;unfold zbt;rw[y4];dsimp only;omega
end
section
def zqV(h:yn S x=eV l)(k:P (.ref S.length) (S++[.lst l.reverse])):WO (Uo x S) P:= .of (by unfold Uo;rw[h];rfl) k
def zmq(l:kx Int)(lo hi:pf Int):∃m:kx Int,L2.zbK (l.map Xv.int) lo hi=m.map Xv.int/\m.length<=l.length:=by
 unfold L2.zbK;rw[<-List.map_drop,<-List.map_take];show#[_,rfl,by rw[Az,DI];omega]
def zs4:WF ss []:=#[Ej,λi lv ks e=>by simp at e]
def zuG(hv:ρ[2]? =eV (eV bx))(k:∀S2,yU S.length (S.length+1) (S.length+2) bx [] S2->Kp K0 S S2->S2.length=S.length+3->P (.ref S.length) S2):W (zgj "Store" (wY) [zi 2] ρ S) P:=by
 show zp7 (zm (zq (by rw[hv]) (yi ?_)));let#[_,S2,#[rfl,st,k2,len]]:=zsC (n:=S.length) yz bx;rw[y7,y4,Aw] at st len;show#[rfl,k S2 st #[⋯,λn d e z=> ?_] len];have hn:=(uT.1 e).1;show k2.2 _ _ (xB (uW _ _) e) ⋯
def zuH(h9:bs.length<=9)(h1:∀b∈bs,1<=b.2/\b.2<=9)(hp:prd (sz bs)<=18):zaH bs:=#[h9,h1,zqN (zcx h1 h9),by
 have lD:=zpc (ss:=sz bs) λs hs=>((zcx h1 h9).siz s hs).1;have h2:2*((sz bs).length+1)*prd (sz bs)<=20*18:=BP (by rw[uZ];omega) hp;unfold cst;rw[AU,FC];change wt (sz bs)<=360
 omega]
def Tb.k9{w:Nat->Prop}(h:Tb S)(k:Kp w S S')(hw:∀j,w j->9<=j):Tb S':=h.keep k λi hi z=>by
 have:=hw _ z;have:Yy.length=8:=rfl;omega
def Dk.pos(h:Dk bs q x n):1<=n:=by
 cases h<;>omega
def zs5(h:∀p∈a,Dk bs q p.1 p.2):a.length<=nS a:=by
 induction a with
 |nil=>show v3 _
 |cons p a ih=>
  have h1:=(h p (.head _)).pos;have h2:=ih λp hp=>h p (.tail _ hp);change a.length+1<=p.2+nS a;omega
def zs6{r:Rho}(h9:bs.length<=9)(h1:∀b∈bs,1<=b.2/\b.2<=9)(fK:kn≠ln):∀(mx n:Nat) {S:Sto} {a:kx (Xv×Nat)} {a8:pf Xv},mx<n->yb mx ln S->S[kn]? =eV (.lst (TN.map Xv.str))->(∀p∈a,Dk bs 2 p.1 p.2)->nS a<=60->
  (∀S' (a':kx (Xv×Nat)) lJ,Kp (· =ln) S S'->(∀p∈a',Dk bs 2 p.1 p.2)->nS a'<=60->N (x0::eV (.ref ln)::eV (.tup (bsX bs))::x3::eV (.ref kn)::x5::x6::eV (.tup (bX a'))::lJ::r) S')->
  WS (zbL (bE (eOp dGt (eFn wM [zi 1]) (qx 0))) (zw (zH (eOp XH (zi 7) (xc [zx (yv 6) [zi 1,zi 2,zi 4,qx 2]])) (gN 8)) (sIf (bE (eOp dLt (zx (yI 6) [zi 8]) (qx 61))) (zH (zi 8) (gN 7)) zK)) n (x0::eV (.ref ln)::eV (.tup (bsX bs))::x3::eV (.ref kn)::x5::x6::eV (.tup (bX a))::a8::r) S) N R:=by
 intro mx
 induction mx with
 |zero=>
  intro n S a a8 hn hl hk ha hs k;obtain⟨n,rfl⟩:∃j,n=j+1:=#[n-1,⋯];have#[ns,e,dX]:=hl;show Tt (xg (zM (xF (zm (zq rfl (yi (zdz (zC e) (wm ?_))))))));rw[uZ];calc#[λz=> ?_,λ_=>k S a a8 (Kp.refl _) ha hs];have:=of_decide_eq_true z;omega
 |succ mx ih=>
  intro n S a a8 hn hl hk ha hs k;obtain⟨n,rfl⟩:∃j,n=j+1:=#[n-1,⋯];have#[ns,e,dX]:=id hl;show Tt (xg (zM (xF (zm (zq rfl (yi (zdz (zC e) (wm ?_))))))));rw[uZ];calc#[λ_=> ?_,λ_=>k S a a8 (Kp.refl _) ha hs];show zo (zO (zM (zq rfl (Zz (zm (ya (zm (zq rfl (zm (zq rfl (zm (zq rfl (zm (wm (yi ?_)))))))))))))));let#[v,S2,#[#[n2,hv,eY],l2,k2]]:=zux h9 h1 fK 2 ∅ (m:=6) ∅ hl hk;have iI:=zs5 ha;have bh:(bX a).length=a.length:=uZ ..;show yi (TC (by rw[bh];simp;omega) ?_);have hex:bX a++[v]=bX (a++[(v,n2)]):=by unfold bX;rw[A1];rfl
  rw[hex];have qj:∀p∈a++[(v,n2)],Dk bs 2 p.1 p.2:=λp hp=>by
   rcases AQ.1 hp with hp|hp;show ha p hp;rw[A7] at hp;subst hp;show hv
  have nW:nS (a++[(v,n2)])=nS a+n2:=by unfold nS;rw[A1,D6];rfl
  show zG (xg (zM (ya (zm (zq rfl (yi ?_))))));let#[_,S3,#[rfl,k3]]:=zb4 (m:=5) λp hp=>zrr (qj p hp) (y0 (zeg hp) (y0 (show nS (a++[(v,n2)])<=2000000 by rw[nW];omega) ∅)) 5 ∅;have eP:=k3.2 _ _ (k2.2 _ _ hk fK) id;have l3:=l2.keep k3 id;have m3:=k2.trans (k3.mono λ_ z=>z.elim);calc yS (λz=> ?_) (λz=>zv ?_);show zO (zq rfl ?_);show ih n ⋯ l3 eP qj ⋯ λS' a' lJ k'=>k S' a' lJ (m3.trans k');show ih n ⋯ l3 eP ha hs λS' a' lJ k'=>k S' a' lJ (m3.trans k')
def zrs:12*2^300<=tM/\3+60*1000000000<=tM:=by
 unfold tM;show#[*...*, *...*]
def zuI(h:k<=60):Fw 12 3 k:=Fw.sub #[∅,zrs.1,zrs.2] h
def zuJ(bN:Big fu)(ns:kx Int)(hl:ns.length<=63):W (zj2 [.ref 0] (.frz (ns.map Xv.int)::Yy.map .tab)) λv _=>v= .bl hG:=by
 have pe:Tb (Ce.frz (ns.map Xv.int)::Yy.map .tab):=λi t e=>by
  rw[BW,uY,e];rfl
 have kQ:yn (Ce.frz (ns.map Xv.int)::Yy.map .tab) (.ref 0)=eV (ns.map Xv.int):=rfl;have nz:(Ce.frz (ns.map Xv.int)::Yy.map Ce.tab).length=9:=rfl;generalize (Ce.frz (ns.map Xv.int)::Yy.map Ce.tab)=Z at pe kQ nz;delta zj1;calc znX kQ ?_;have#[ms,em,kX]:=zmq ns gi (eV 200);rw[em];show zqV xW ?_;rw[<-Ff];have l0:yb 63 (Z++[Ce.lst (ms.map Xv.int)]).length ((Z++[Ce.lst (ms.map Xv.int)])++[Ce.lst (ms.reverse.map Xv.int)]):=#[ms.reverse,yz,by rw[Br];omega];have kz:=(pe.pre (uW _ [Ce.lst (ms.map Xv.int)])).pre (uW _ [Ce.lst (ms.reverse.map Xv.int)]);have kg:9<=(Z++[Ce.lst (ms.map Xv.int)]).length:=by rw[y7];omega
 generalize (Z++[Ce.lst (ms.map Xv.int)]).length=ln at l0 kg ⊢;generalize ((Z++[Ce.lst (ms.map Xv.int)])++[Ce.lst (ms.reverse.map Xv.int)])=S0 at l0 kz ⊢;have lY:∀j,j=ln->9<=j:=λj z=>by omega
 try dsimp only[v8]
 let#[_,S1,#[bs,rfl,jt,mE,nR,dH,l1,k1]]:=zqt (most:=6) ⋯ l0;have fS:=kz.k9 k1 lY;have ie:prd (sz bs)<=18:=v7 nR ∅;have B:=zuH mE jt ie;have bh:=zcx jt mE
 try dsimp only[v8]
 let#[_,S2,#[c,rfl,c0,c1,l2,k2]]:=xO l1 ∅;have mP:=fS.k9 k2 lY
 try dsimp only[v8]
 ext;generalize decide (c=1)=ct;have ek:=yz (S:=S2) (c:=Ce.lst (TN.map Xv.str));have l3:=l2.app (T:=[Ce.lst (TN.map Xv.str)]);have pd:=mP.pre (uW _ [Ce.lst (TN.map Xv.str)]);have fK:S2.length≠ln/\9<=S2.length:=by have:=l2.lt;omega
 change WS (Zs _ _ _ [eV (.ref 0),eV (.ref ln),eV (.tup (bsX bs)),eV (.bl ct),eV (.ref S2.length),eV (.ref (S2++[Ce.lst (TN.map Xv.str)]).length),gi,gi,gi,gi,gi,gi,gi] ((S2++[Ce.lst (TN.map Xv.str)])++[Ce.dk []])) _ _;generalize S2.length=kn at ek fK ⊢;generalize S2++[Ce.lst (TN.map Xv.str)]=S3 at ek l3 pd ⊢;have ea:=yz (S:=S3) (c:=Ce.dk []);have l4:=l3.app (T:=[Ce.dk []]);have p9:=pd.pre (uW _ [Ce.dk []]);have eP:=(uT.1 ek).1;have o9:=l3.lt;have qz:(S3++[Ce.dk []])[kn]? =eV (.lst (TN.map Xv.str)):=xB (uW _ _) ek;generalize t7:S3.length=an at ea eP o9 ⊢;generalize S3++[Ce.dk []]=S4 at ea l4 p9 qz ⊢;show zs1 bN bh ie rfl l4 ea ⋯ λS5 A L a6 tX gl hA l5 k5=> ?_;have hA:CB bs 12 3 A:=hA;have qL:=p9.k9 k5 λj z=>by omega
 have tW:=k5.2 _ _ qz ⋯;have oI:L≠[]:=λz=>by
  have#[st,hs]:=B.hz;have:=gl.all hs;rw[z] at this;cases this
 have du:L.length<=900:=by rw[gl.len];show v7 ie ∅
 have ud:Am L A an S5:= .inl (by rw[<-zhb oI];show tX);show zo (zO (ya (zm (zq rfl (zm (zq rfl (yi ?_)))))));let#[_,S6,#[a,rfl,ha,sx,l6,k6]]:=zsZ l5 mE jt;have qK:=qL.k9 k6 lY;have uc:=ud.keep k6 ⋯;have tV:=k6.2 _ _ tW fK.1
 try dsimp only[v8]
 have uI:=bN.le;show zo (zkT (zs6 mE jt fK.1 63 fu ⋯ l6 tV ha sx λS7 b a8 k7 hb uz=> ?_));have qJ:=qK.k9 k7 lY;have qD:=uc.keep k7 ⋯;have iI:=(show an<S7.length by rcases qD with e|e<;>show(uT.1 e).1);have#[T,k,hk,pb]:=ziQ (q:=2) (a:=b) λp hp=>zuE (ct:=ct) bN gl oI du B dH (hb p hp);have#[hs,gO,rL,iC]:=zbv (q:=2) (a:=b) λp hp=>zuF (hb p hp);show zo (zO (zuG rfl λS8 mR k8 n8=> ?_));have qI:=qJ.keep k8 λ_ _ z=>z;have qC:=qD.keep k8 id;generalize jD:S7.length=sn at mR iI n8 ⊢
 try dsimp only[v8]
 show zo (zO (ya (zm (zq rfl (zm (zq rfl (zm (zq rfl (zm ?_)))))))));ext;have hc:=B.hc;let#[_,S9,#[uf,tJ,rfl,#[f,ef,_],tl,w9,g9]]:=zlq bh (bs.map (·.2)).length 12 (lv:=0) (s0:=[]) (by rw[uZ];omega) (DM _) mR zs4 (qC.da gl oI) ⋯ ⋯ rfl (λj x s e=>by simp at e) (by rw[Aw];omega);have mQ:=qI.grown mR g9;have ua:=qC.keep g9.kp ⋯;have lf:=g9.len;rw[Aw] at lf;have ta:TR (sz bs) tJ A uf:=#[#[f,ef],tl]
 try dsimp only[v8]
 show zo (zO (ya (zm (zq rfl (zm (zq rfl (zm (zq rfl (zm (zq rfl (yi ?_)))))))))));let#[_,S10,#[i,tO,rfl,qM,w10,lE]]:=zo0 gO ∅ ⋯ rL (pb.fd 8 ∅) g9.st w9 mQ ta hA (zuI ⋯) ⋯;have oZ:=ua.keep lE.kp ⋯;have qU:=lE.len
 try dsimp only[v8]
 show zo (zO (ya (zm (zq rfl (zm (zq rfl (zm (zq rfl (zm (zq rfl (yi ?_)))))))))));let#[_,S11,#[un,rfl,jY]]:=pb.ld 6 ∅ oZ hA (zuI ⋯);have mU:=lE.st.keep jY.2.2.2 (show sn≠an by omega) (show sn+1≠an by omega) (show sn+2≠an by omega);have tm:sn+2<S10.length:=by have h1:=g9.kp.1;have h2:=lE.kp.1;omega
 have kM:un=an\/sn+2<un:=jY.2.2.1.imp id λz=>by omega
 try dsimp only[v8]
 show ye (Vi (ya (zm (zq rfl (zm (zq rfl (zm (zq rfl (zm (zq rfl (yi ?_)))))))))));let#[_,S12,#[rfl,tN,mS,w12,mW,uj,tY,qX]]:=zfF bN bh B.hz ie gl mU w10 qM jY.1 ⋯ ⋯ ⋯ ⋯;show#[_,rfl,λ_=> ?_,nofun];have oY:Am L A an S12:=by
  rcases kM with e|e;subst e;show(show Am L (T A) un S12 from .inr tY).cg (jY.1.eq jY.2.1);show jY.2.1.keep qX ⋯
 show ya (zm (zq rfl (zm (zq rfl (zm (zq rfl (zm (zq rfl (yi ?_)))))))));let#[_,S13,#[rfl,_]]:=zfF bN bh B.hz ie gl mS w12 (ta.mono (lE.pre.trans mW)) oY ⋯ ⋯ ⋯ ⋯;rfl
def zuK(bN:Big fu)(ns:kx Int)(hl:ns.length<=63):∃S,zj2 [.ref 0] (.frz (ns.map Xv.int)::Yy.map .tab)=eV (.ok (.bl hG) S):=by
 have#[_,S,e,rfl]:=zuJ bN ns hl;show#[S,e]
end
end
def ziR:Big fu:=by unfold Big fu;show v3 _
def zs7{P:Program}{mg:Str->pf ph}(T:Tx K mg kA')(hT:zqc K ts Yy cw):YB P w K mg base (CXE P w) 75 T.eK.a T.eK.fd ["_law_script"] (zdI K cw):=zqe (zqi T) hT λns hl=>zuK ziR ns hl
noncomputable def zuL{K:uU}{h:Heap}{mg:Str->pf ph}(X:K.In h)(G:h.Ns FV mg)
  {aq:p8}  {aG aO aR eE:p8} {gD:pf p8} {gC:Nat} {gB:Array (pf ph)} {fA fv:Tok} {hW:p8} {jz:pf p8} {jy:Nat} {jx:Array (pf ph)} {hU hJ:Tok}
  (au:y9 K FV "Store"=eV (eV (.ref aq)))
  (F:zTf K mg aq)
  (gf:(vD K #[gi,"set_back","set_back"]).isSome=hG)
  (fR:(vD K #[gi,"draw_back","draw_back"]).isSome=hG)
  (fh:(vD K #[gi,"worth_node","worth_node"]).isSome=hG)
  (eQ:(vD K #[eV "Store","added","Store.added"]).isSome=hG)
  (eN:(vD K #[eV "Store","higher","Store.higher"]).isSome=hG)
  (d4:(vD K #[eV "Store","reckoned_of","Store.reckoned_of"]).isSome=hG)
  (dC:(vD K #[eV "Store","chosen_by","Store.chosen_by"]).isSome=hG)
  (eM:(vD K #[eV "Store","marked","Store.marked"]).isSome=hG)
  (iz:Ca K aq Str.empty=hG) (iy:CF K aq=hG) (iw:Du K aq=hG) (iu:z3 K (.ref aq) "__setattr__"=eV (eV (.builtin "object.__setattr__"))) (iO:DS K aq=hG) (iJ:Bt K (.ref aq)=hG)
  (av:z3 K (.ref aq) "boxes"=eV gi)
  (bz:z3 K (.ref aq) "facts"=eV gi)
  (bB:z3 K (.ref aq) "numbers"=eV gi)
  (lT:y9 K FV "abs"=eV gi)
  (lS:y9 K FV "all"=eV gi)
  (lR:y9 K FV "any"=eV gi)
  (jW:y9 K FV "bool"=eV gi)
  (lQ:y9 K FV "int"=eV gi)
  (fi:y9 K FV "isinstance"=eV gi)
  (lP:y9 K FV "len"=eV gi)
  (jV:y9 K FV "list"=eV gi)
  (lO:y9 K FV "max"=eV gi)
  (lN:y9 K FV "min"=eV gi)
  (ja:y9 K FV "range"=eV gi)
  (gg:y9 K FV "reversed"=eV gi)
  (lM:y9 K FV "str"=eV gi)
  (lL:y9 K FV "sum"=eV gi)
  (j9:y9 K FV "tuple"=eV gi)
  (lK:y9 K FV "zip"=eV gi)
  (mV:CG K (.builtin "object.__class__") "__get__"=eV (eV (.builtin "getset_descriptor.__get__"))) (mN:DT K (.builtin "object.__class__")=eV hG)
  (aN:y9 K FV "LotsError"=eV (eV (.ref aG))) (cK:Dp K aG [.type "ValueError",.type "Exception",.type "BaseException",.type "object"] "ValueError.__new__"=hG) (fC:z3 K (.ref aG) "__getattribute__"=eV (eV (.builtin "BaseException.__getattribute__"))) (fB:z3 K (.ref aG) "__getattr__"=eV gi) (fQ:DZ K aG=hG) (fO:z3 K (.ref aG) "__class__"=eV (eV (.builtin "object.__class__"))) (fD:Ah K aG (.type "object")=eV hG) (cM:BO K (.ref aG)=eV (.type "type")) (cn:Ah K aG (.type "BaseException")=eV hG) (cL:Ah K aG (.type "ValueError")=eV hG)
  (aQ:y9 K FV "NoNumber"=eV (eV (.ref aO))) (d7:Dp K aO [.type "ValueError",.type "Exception",.type "BaseException",.type "object"] "ValueError.__new__"=hG) (fU:z3 K (.ref aO) "__getattribute__"=eV (eV (.builtin "BaseException.__getattribute__"))) (fT:z3 K (.ref aO) "__getattr__"=eV gi) (g8:DZ K aO=hG) (g5:z3 K (.ref aO) "__class__"=eV (eV (.builtin "object.__class__"))) (fV:Ah K aO (.type "object")=eV hG) (d9:BO K (.ref aO)=eV (.type "type")) (cH:Ah K aO (.type "BaseException")=eV hG) (d8:Ah K aO (.type "ValueError")=eV hG)
  (bg:y9 K FV "NoBound"=eV (eV (.ref aR))) (dE:Dp K aR [.type "ValueError",.type "Exception",.type "BaseException",.type "object"] "ValueError.__new__"=hG) (gF:z3 K (.ref aR) "__getattribute__"=eV (eV (.builtin "BaseException.__getattribute__"))) (gE:z3 K (.ref aR) "__getattr__"=eV gi) (gS:DZ K aR=hG) (gP:z3 K (.ref aR) "__class__"=eV (eV (.builtin "object.__class__"))) (gG:Ah K aR (.type "object")=eV hG) (dG:BO K (.ref aR)=eV (.type "type")) (cW:Ah K aR (.type "BaseException")=eV hG) (dF:Ah K aR (.type "ValueError")=eV hG)
  (c5:y9 K FV "NOUGHT"=eV (eV (.ref eE)))
  (i6:K.lookup eE=eV #[.type "tuple",gD,.seq [.int 0 fA,.int 1 fv].toArray gC,gB])
  (eU:y9 K FV "ONE"=eV (eV (.ref hW)))
  (kJ:K.lookup hW=eV #[.type "tuple",jz,.seq [.int 1 hU,.int 1 hJ].toArray jy,jx]):Tx K mg aq:={F with fF:=#[iO,F.aX.mt.at_,F.aX.mt.fn,iJ],e8:=gf,dU:=F.bU.x,dO:=fR,dw:=F.bM.x,dv:=fh,d6:=F.bF.x,d5:=eQ,cJ:=eN,bP:=d4,c9:=dC,cI:=eM,gv:=B9 X G au,ae:=#[iz,iy,iw,iu],ai:=au,av:=av,bz:=bz,bB:=bB,gu:=Af X G lT,gq:=Af X G lS,i5:=Af X G lR,eX:=Af X G jW,gn:=Af X G lQ,ax:=Af X G fi,jg:=Af X G lP,eG:=Af X G jV,gm:=Af X G lO,hZ:=Af X G lN,aJ:=Af X G ja,cz:=Af X G gg,gk:=Af X G lM,fE:=Af X G lL,bJ:=Af X G j9,jf:=Af X G lK,aN:=aG,fG:=B9 X G aN,cK:=#[B9 X G aN,cK],fH:=#[fC,fB,cn,fQ,fO,mV,mN,fD],cM:=cM,cn:=cn,cL:=cL,aQ:=aO,fX:=B9 X G aQ,d7:=#[B9 X G aQ,d7],fY:=#[fU,fT,cH,g8,g5,mV,mN,fV],d9:=d9,cH:=cH,d8:=d8,bg:=aR,gH:=B9 X G bg,dE:=#[B9 X G bg,dE],gI:=#[gF,gE,cW,gS,gP,mV,mN,gG],dG:=dG,cW:=cW,dF:=dF,c5:=eE,eI:=B9 X G c5,eL:=λH=> .inr #[_,_,_,i6,rfl,rfl,by change 2<=FU;decide,.cons #[_,rfl] (.cons #[_,rfl] .nil)],eU:=hW,jh:=B9 X G eU,ju:=λH=> .inr #[_,_,_,kJ,rfl,rfl,by change 2<=FU;decide,.cons #[_,rfl] (.cons #[_,rfl] .nil)]}
def zs8{l:DY}{w:World}{mg:Str->pf ph}{fa:p8}{ts:kx p8}(hB:zfk K ts Yy=hG)(sR:mg "law"=eV (.ref fa))(T:Tx K mg kA'):
  ∃fd:Gn,(∀(s:pA) (v:ph),BindsTo s fd #[[v],[]] [("_law_script",v)])/\∀base:Heap,K.In base->base.Ns FV mg->YB l.prog w K mg base (CXE l.prog w) 75 fa fd ["_law_script"] (zdI K (Uv K Yy)):=by
 have e:=zsz T.eK (λ_ _=>trivial) sR;subst e
 show#[_,λs v=>by
  have#[_,_,_,_,_,_,_,_,_,e,_]:=T.eK.F.ex;rw[e]
  show .of_eq rfl,λbase _ _=>zs7 T (zk2 hB)]
def zuY{l:DY}{q:Program}{loose:kx Str}{XP:(Str->pf ph)->Heap->Prop}{YP:World->Heap->Prop}{d:DefRec}{K:Params->uU}{ts:kx p8}(hn:l.most=eV 63)(ls:d.params.defaults=[])
  (hY:∀(w:World) (h:Heap),YP w h->(K w.params).In h/\∀P∈ts,h.get? P=eV (C9 [].toArray)) (hB:∀w:World,zfk (K w.params) ts Yy=hG)
  (F:∀(w:World) (mg:Str->pf ph) (fa:p8) (h:Heap),zfk (K w.params) ts Yy=hG->(K w.params).In h->h.Ns FV mg->mg d.name=eV (.ref fa)->
   ∃fd:Gn,(∀(s:pA) (u:ph),BindsTo s fd #[[u],[]] [("_law_script",u)])/\∀base:Heap,(K w.params).In base->base.Ns FV mg->YB l.prog w (K w.params) mg base (CXE l.prog w) 75 fa fd ["_law_script"] (zdI (K w.params) (Uv (K w.params) Yy))) (oi:importsNone q=hG) (ia:l.prog.given.tree=gi):
  FD q loose XP YP l.row.toRowW d [] (λf vs=>Fo f vs):=
 L2.zoe (n:=63) (k:=75) (x:="_law_script") (CX:=λw=>CXE l.prog w) hn ∅ ls #[rfl,∅,∅,rfl] hY hB (λw mg fa h=>F w mg fa h (hB w)) (λ_ _ _ _ _ ⟨_,_,_,_,_,z⟩=>z) oi ia
end Prf
end
open PySem.W
local macro_rules|`(tactic|walk_at "fl")=>`(tactic|exact Prf.zt2 (by k_is) (by k_is) (by k_is) (by k_is))|`(tactic|walk_at "ba")=>`(tactic|(intro _ _ _ _ _ _;repeat first|exact Prf.at0 rfl|refine Prf.at_ fun _=>?_))|`(tactic|walk_at "ml")=>`(tactic|exact Prf.zt3 (by k_is) (by k_is) (by k_is) (by k_is) (by k_is))
set_option maxRecDepth 100000 in
set_option maxHeartbeats 0 in
set_option tactic.hygienic true in
theorem PySem.Challenge.cw_lots_k56_whole_many_draws_folded_holds : PySem.Challenge.rw_lots_k56_whole_many_draws_folded.Holds := by
 w_on;o_law;k_head;(case hw=>w_witness2)
 k_fill
 refine Prf.zuY (l:=PySem.Challenge.rw_lots_k56_whole_many_draws_folded) rfl rfl (λw h Y=>⟨PySem.W.km_in_of Y,PySem.W.km_tabs_of Y⟩) ?B ?F ?I rfl
 case I=>kernel_rfl
 case B=>intro w;kernel_rfl
 case F=>
  intro w mg fa h hB KX G jK;apply Prf.zs8 hB jK;apply Prf.zuL KX G
  k_is
  constructor
  iterate 27 exact Prf.FL.to (by walk_at "fl") KX G
  iterate 21 exact Prf.ML.to (by walk_at "ml")
  iterate 28 exact Prf.FL.to (by walk_at "fl") KX G
  iterate 8 kernel_rfl
  iterate 28 k_is
  k_exc
  iterate 9 k_is
  k_exc
  iterate 9 k_is
  k_exc
  iterate 12 k_is
