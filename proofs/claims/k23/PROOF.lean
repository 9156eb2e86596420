import PyProof.Rows.All
import Wide.All
import OpenK.AllK
import Wide.FinOn
import Lean
import PyProof.EqAt
import PyProof.EqKinds
import PyProof.TupleCall
import PySem.Challenge.RW_lots_k23_no_program
set_option Elab.async false
set_option linter.all false
set_option tactic.hygienic false
set_option genSizeOf false
set_option maxRecDepth 100000
set_option compiler.extract_closed false
abbrev pR.{u}(a:Type u):=List a
abbrev pT.{u}(a:Type u):=Option a
abbrev qM:=PySem.Value
abbrev qN:=PySem.Shared
abbrev qY:=PySem.Addr
open Option renaming some->iJ,none->jr
open Bool renaming true->jD,false->nW
theorem lq1{a:Type}{l:pR a}(h:1=l.length):∃x,l=[x]:=by
 cases l with
 |nil=>cases h
 |cons x t=>cases t with
  |nil=>exact⟨x,rfl⟩
  |cons y t=>simp at h
theorem lq2{a:Type}{l:pR a}{n:Nat}(h:n+2=l.length):∃x y t,l=x::y::t/\n=t.length:=by
 cases l with
 |nil=>cases h
 |cons x t=>cases t with
  |nil=>simp at h
  |cons y t=>exact⟨x,y,t,rfl,by simpa using h⟩
theorem lq3{a:Type}{l:pR a}(h:2=l.length):∃x y,l=[x,y]:=by
 obtain⟨x,y,t,rfl,q⟩:=lq2 (n:=0) h;cases t with
 |nil=>exact⟨x,y,rfl⟩
 |cons=>cases q
local macro_rules | `(tactic| omega) => `(tactic| first | with_reducible assumption | lia | omega +splitDisjunctions)
open PySem.W renaming Frag->uk,mroIn->ux,nsIn->uC,findIn->uE,mg_of->uN,kitOne->v7,typeIn->y0,mg_none_of->y3,emptyDict->Ae,kitMeta->Am,excIn->Ar,keepIn->Av,instObj->Ay,isClsIn->AF,fnOf->AO,hideAll->AU,subIn->AW,exmOne->B4,kitAny->B5,clsIn->Bb,kitCls->Bk,plainGet->Br,callWith_K->BH,codeIn->BL,hasDictIn->BQ,specialIn->BR,isFn->C5,looks_findIn->C6,plainGet_of->Cb,lookIn->Cg,InstAt->Ci,methodObj->Cv,plainOver->Cw,kitx_list->Cy,takerIn->CM,makesIn->CN,takesIn->CO,OpenLaw->CQ,findObj->CU,cellsFrom_some->CZ,methodCall_KW->D5,hideAll_get->Di,of_hideAll->Dl,kitx_tuple->Dp,kitx_dict->Du,handedIn->DA,kIn_of->DR,WalkO->Eb,KitX->Eo
open List renaming length_map->um,getElem?_eq_getElem->uo,getElem?_eq_some_iff->uq,length_append->ur,length_cons->uw,getD_eq_getElem?_getD->uz,getElem?_map->uA,getElem?_append_left->uB,size_toArray->uD,length_singleton->uF,mem_cons_of_mem->uG,replicate->uI,mem_cons_self->uK,getElem?_append_right->uL,append_assoc->uM,map_append->uO,mem_cons->uU,map_cons->uV,mem_append->uW,mem_singleton->uX,take_succ_eq_append_getElem->w9,getElem?_eq_none->x5,mem_of_getElem?->x8,range->y2,all_eq_true->y6,set->y7,length_take->z4,mem_append_right->z5,append_nil->z6,take_length->z8,lookup_cons->A1,getElem?_set_ne->A2,cons_append->A5,find?_cons->A8,length_eq_zero_iff->Aa,getElem_map->Ac,map_map->Af,mem_map->Ag,getElem?_set->Ai,flatten_cons->Aj,length_set->Al,flatten_append->Ao,all_cons->Aq,getElem_mem->Au,length_replicate->Aw,drop_eq_getElem_cons->Ax,nodup_cons->Az,take_append_of_le_length->AG,drop_append_of_le_length->AH,getElem?_range->AI,length_drop->AJ,lookup->AK,mem_append_left->B1,mem_iff_getElem->B2,not_mem_nil->B8,replicate_succ->Ba,append->Bg,take_of_length_le->Bh,take_append_drop->Bo,map->Bt,drop_length->Bu,filterMap_cons->By,mem_map_of_mem->BD,take_succ_cons->BE,nil_append->BG,map_nil->BJ,map_replicate->BK,getElem?_replicate->BO,ext_getElem?->BV,getElem?_set_self->BW,length->BX,any_cons->C1,mem_of_mem_take->C9,mem_range->Cd,dropLast_concat_getLast->Cj,mem_filterMap->Cp,getElem_range->Cq,take_length_add_append->Cr,drop_length_add_append->Ct,length_range->Cz,all_eq_false->CB,getElem?_take_of_lt->CG,ext_getElem->CJ,mem_filter->CK,of_mem_zip->CP,foldl_cons->CV,length_nil->CW,all_append->CY,drop_eq_nil_of_le->D3,dropLast_eq_take->D7,mem_of_mem_drop->Dc,map_take->Dg,map_drop->Dh,drop_succ_cons->Dj,filter_append->Dr,take_add_one->Dv,find?_isSome->Dw,getElem_inj->Dz,filter_cons->DG,range_succ->DK,foldr_cons->DP,take_zero->DT,mapM_cons->DU,drop_drop->DX,drop_left->DY,drop_zero->E8,take_nil->Ec,all_map->Ep,any->Er,mem_set->Es,map_set->Et
open Nat renaming le_refl->uv,ne_of_lt->uR,lt_of_lt_of_le->uY,zero_le->uZ,le_trans->v5,lt_of_le_of_lt->y9,le_of_lt->z3,pow_le_pow_right->A0,lt_succ_self->A4,lt_irrefl->Ad,le_of_succ_le->Ak,lt_succ_of_lt->AY,le_succ->B3,sub_self->B9,le_of_eq->Bj,add_comm->Bn,succ_le_succ->Bv,add_assoc->C3,zero_add->CH,toDigits->CI,max_le->D9,ne_of_gt->Dm,lt_trans->Dn,le_max_right->DE,min_eq_right->DF,not_lt->DJ,le_max_left->DN,min_eq_left->DQ,one_le_pow->DV,add_le_add->DZ,max_assoc->Ed
open Or renaming inl->uy,inr->DI
open Option renaming map_eq_some_iff->uH,bind_some->uJ,bind_eq_some_iff->v8,isSome_iff_exists->B7,getD_some->Bs,isSome_map->BU,bind->Ck,map_some->CT,getD_none->DB,map_map->DW
open PySem.F renaming plainAttrs_list->uP,slot_list_append->uS,type_list_append->uT,plainAttrs_str->Ap,slot_str_join->Bl,type_str_join->Bm,args_tuple_add_2->BI,entry_tuple_add->BP,slot_tuple_add->BZ,slot_str_split->D0,type_str_split->D1
open Bool renaming false_ne_true->uQ,and_eq_true->v9,and_false->z7,false_and->Ah,true_and->As,eq_iff_iff->Bc,and_assoc->Bp,and_true->Bw,or_eq_true->BF,beq_eq_decide_eq->D4,true_bne->De,not_eq_true'->Dt,noConfusion->DC,false_bne->DS,or_false->E9,true_or->Eu
open List.cons renaming inj->x9,injEq->DL
open PyProof.Rows renaming slot_tuple_getitem->y4,callWith_type1->Bq,callWith_builtin1->C7
open Option.some renaming inj->y8,injEq->z9
open PySem renaming intBits_le_iff->A3,mem_of_lookup->An,intText?->BM,frameOf->Dd,Within->Dk,call->DH
open Int renaming mul_le_mul_of_nonneg_left->A6,toNat_natCast->A7,emod_nonneg->AA,emod_lt_of_pos->AQ,natCast_add->AV,mul_le_mul->B6,mul_le_mul_of_nonneg_right->Bf,mul_add->Bx,mul_assoc->C2,zero_add->C8,mul_comm->Ca,add_mul->D2,mul_nonneg->D8,add_assoc->Df,pow_succ->Dq,mul_one->Dy
open Ne renaming symm->A9
open False renaming elim->Ab
open HAppend renaming hAppend->AB
open Append renaming append->AX
open True renaming intro->Bd
open ForInStep renaming yield->Be
open Sum renaming inr->Bi,inl->CF
open Array renaming length_toList->Bz,all_eq_true_iff_forall_mem->C4,append_assoc->Cm,getElem?_toList->D6,toList->Ei
open PySem.Builtin.Str renaming strSliceIndices->C0,glued->Ew
open Prod.mk renaming injEq->Cu
open Classical renaming byContradiction->CD
open Sum.inr renaming inj->Dx
open List.range renaming loop->DM
open PySem.EqMixed renaming eq_bool_str->Ee,eq_str_bool->Ef,ne_bool_str->Eg,ne_str_bool->Eh,eq_int_str->Ej,eq_str_int->Ek,ne_int_str->El,ne_str_int->Em
open PySem.W.Looks renaming here->Ex,ld->EA
open List.Pairwise renaming nil->Ey,map->Ez
local macro_rules|`(∅)=>`(by decide)
local macro_rules|`(⋯)=>`(by omega)
local macro_rules|`(nofun)=>`(fun z=>by cases z)
local macro_rules|`(*...*)=>`(by decide+kernel)
structure PySem.W.Fast:Prop where(tw10106021786867438958 tw10133294541177671365 tw1014635850949018415 tw10179667979735906919 tw10231997747640471213 tw10308101746552533402 tw10331655514411966708 tw1033476382674249880 tw10343691476972159139 tw10359766963446778226 tw10477005616387202953 tw10549049759957087953 tw1055767480435853712 tw10558657995135677563 tw10564629801513555132 tw1056808502894600922 tw10568582546342304941 tw10591544346353824847 tw10591972250953343819 tw10596312307778852650 tw10617674844036967145 tw10625879080814484851 tw10633720073085890581 tw10643666921338577909 tw10697612500701406952 tw10714451443609818562 tw10715792275825705719 tw10783190976728766459 tw10786659849754538737 tw10819715585725901141 tw10824633843949443937 tw10922170704532925851 tw10941938559387986075 tw10951996209606604405 tw11010446860782247496 tw110874958370824230 tw11191368073093103145 tw11255736783614195099 tw11298100749822567760 tw11321199928721876482 tw11328253525594509711 tw11335543294430239491 tw11377461613421381187 tw11382292110993798839 tw1138577021865739452 tw11408710609920766683 tw11421989593398677556 tw11422691626895408975 tw11476474434586792451 tw11552420565639042031 tw11582499713100181130 tw11590399884549065651 tw1168378801968684321 tw11701851268877678052 tw11708521000667224386 tw11727562308623798731 tw11750312556007557094 tw11794499065116466568 tw11795377022162176741 tw11898466114331172408 tw12051244899610366292 tw12068064591579151506 tw12068725947797155539 tw12248971671251681396 tw1235682374054554992 tw12362346313812946668 tw12380032245911899931 tw12387702666358254020 tw12394730052789053575 tw12419610763478449933 tw12448983041040583763 tw12489730135266406482 tw12569063848145055132 tw12785987540277193841 tw12817134905473240991 tw1285573547173769375 tw12867129721600342604 tw12872118424057799171 tw12968685009300812010 tw13039891452410524427 tw13065232576354091738 tw13067958760588405171 tw13123651037562798401 tw13187345949685365315 tw13213581181835277103 tw13215100891513744177 tw13254357928044232295 tw13409452522168989049 tw13416312358642043445 tw13422614170398296863 tw13425440171186778836 tw13432444065207928079 tw13441343901340469985 tw13449879527056583558 tw13472827800430229009 tw1350835006282798140 tw13517911931523192787 tw13521804167514559737 tw13608065173940879007 tw13616326555605498826 tw13652546005467336480 tw13664926455813506934 tw13684880170972924591 tw13703030142095815144 tw13703625091505932986 tw13713012010444149000 tw1373116202950679374 tw13732641312905200857 tw13748935355750565553 tw13835599403884559544 tw13846878487994045287 tw13859652514315287697 tw13982370157801544919 tw14004926625773782426 tw14029196189463896762 tw14047229640151684029 tw14125329473701944345 tw14133582726717337757 tw14135836435427474874 tw1416406442740807504 tw14169107654312430422 tw14211917534708387856 tw14217388507427637340 tw14307924837701414271 tw14353745275457447271 tw14428054403385471231 tw1443235642004761441 tw14527564170410846276 tw14561923131215317309 tw14566876328237065359 tw14579929726672659723 tw14591504084425187265 tw14653489002394895217 tw14665006582292646286 tw14683148716838829699 tw1469660484927610463 tw14714101220703262412 tw14715985107853271229 tw14762873440613757948 tw14772227828436498340 tw14790933973541193061 tw14794229430041098553 tw14821978692447212443 tw14822219980602603042 tw14864514091717611097 tw14883970222411011292 tw14922489673706058486 tw149324927084242324 tw14959998304413361506 tw14985471961123310776 tw14996010169468704484 tw15025166757919681209 tw15097392927472070307 tw15141604269608818271 tw15161024958306552077 tw1521851635167293317 tw15334787055535531637 tw15370958093434446851 tw15375645065445878980 tw15494239544831841928 tw15540514357921237944 tw15553672352477924455 tw15563689287764327074 tw15574010834371992874 tw15627472188299754299 tw15630395320887808673 tw15672978933510099304 tw15701508583996572438 tw1576869725857240758 tw15808039199764654196 tw15816575100049042990 tw15858326092916660814 tw15982632383179029286 tw1598519155937529139 tw16003172139411299399 tw16029128709060351974 tw1603552405063499577 tw16135991903397861892 tw16173936516404301934 tw16216046918109311160 tw16244345642072315157 tw16291737728759523188 tw16306649266266889602 tw16309343966995810725 tw16328842498224087811 tw16342774173367566356 tw16352183369415668757 tw16360383776791109580 tw163905143249432852 tw16425282163977069789 tw16447186695101667750 tw16483223644875773232 tw16507366884524704669 tw16549870595568603796 tw16566562534460875342 tw16575903220089588995 tw16634017100510328980 tw16729080685418061654 tw16755827617312007817 tw16763461105141698895 tw16769277443919818315 tw16807374167672802465 tw1683319795995239897 tw16884110598798161007 tw16899990308873018217 tw16951731394389106572 tw16979471218289424279 tw16988230538272296148 tw17019761855649656416 tw17024423102821851789 tw17049682656653538498 tw1708906265188659234 tw17097776628992232586 tw1710576212741127940 tw17122209786718108946 tw17133280240716955881 tw17180368390733136252 tw17181847005237031194 tw17228111972235249435 tw17239857813259022423 tw17251345915164693103 tw1727009082563968212 tw17312392939447536539 tw17338044908489021184 tw1734488545483281849 tw17347656042191798920 tw17356092130090438650 tw17358798349854555920 tw17362707866172688740 tw17374133379699387512 tw17380790645654271122 tw17496304470336303669 tw17612086980192231778 tw17635155331523898060 tw1764192072213328763 tw1764270231391880158 tw17661430597093346029 tw17663508549831912494 tw17667271990770525526 tw17671981381699960017 tw17710723413648004061 tw17761896881503864751 tw17906843315600165778 tw17911770951570670739 tw17912128909097343588 tw17945413016501436937 tw17951290282654218650 tw17961444886036890682 tw17966102213276923776 tw17982117200777983199 tw1802458892751679018 tw18036532449196766459 tw18040777457920987448 tw18041666248970044034 tw18061058827669906633 tw18081117555144757315 tw18164216331377788205 tw18247351336896953735 tw18256318418552430490 tw18263482656621016995 tw18270498062575486105 tw18353194110344060695 tw18380485383356101787 tw1865325885495484672 tw1879807982928281617 tw1925504646462577064 tw1941795759695585771 tw1944880620663463980 tw1948165527508388431 tw1971575914145941670 tw1977053605832182701 tw1998659269166560808 tw2003743164818953701 tw2063579948069696968 tw2083185908072426869 tw2118200333711839701 tw213144689927046193 tw2135807149640414661 tw2138633739556393274 tw2233330360022348338 tw2244289563983278188 tw2278351788941477818 tw2290860994365753372 tw2348709037435542959 tw2417236643355617943 tw2440301042061813288 tw2526003391343208004 tw2584144492805006834 tw2597726807447537187 tw2718750008289342271 tw2731908502470528244 tw2747508583295342789 tw2760819208159620656 tw2765304478387362697 tw2776387091225544222 tw2796107272596698137 tw2896228365957901615 tw289930786248736491 tw3037727971381584075 tw3049867871969367951 tw3121099938341497416 tw3138728732509777359 tw3144232191791668131 tw3169674532060319314 tw3223474374259983233 tw3235927156656215167 tw3268764739218515490 tw3291830240290412473 tw330415987324678010 tw3351402231480533182 tw3366699584941202871 tw3401346750735923027 tw3456459633256755932 tw3570955932882206054 tw35935278483434 tw3610802256996460273 tw3674248878336417244 tw3704066774542073559 tw3711132284861051939 tw3755796127527995393 tw3762203137061085554 tw3770260233187994336 tw3821900790354246156 tw3898826321206606645 tw3938874043081902730 tw3983339623875441900 tw3995863977501547383 tw4014047813424171074 tw4040113053462505755 tw4041374805388829131 tw4060708995934995925 tw4115264113193848089 tw4142101097129907974 tw4145471192502360224 tw4148781978814256958 tw4229268830961988538 tw4269827659420070214 tw4278306434277905259 tw4280532121007093354 tw4290807684805745964 tw4468697067729150765 tw4495005917396837488 tw4521714145212343996 tw4554849512619165658 tw4562881669799104774 tw4569077998121034914 tw4578470525404097197 tw4579790374569180218 tw4741289396387893671 tw4808416341213297706 tw4854261684779619792 tw4892341225321184578 tw4941336844609708743 tw5039603475482811750 tw5065044179613572437 tw5081014905937411987 tw5082419238839364238 tw5112042577669694415 tw5123311599443990227 tw5137459622045940278 tw5161538530947422483 tw5192159632607659329 tw5196019038723180787 tw5253965840370698170 tw5386784121707162300 tw5435626005423022059 tw545373770548480974 tw5473413532831437922 tw5477588844999430827 tw548062760785504251 tw5503373800562437379 tw5536426903297520295 tw5536711877082739006 tw5538873690939223569 tw5552676075242649170 tw5555283263996398425 tw5558932826277452598 tw5613985890182791711 tw5614714459395462873 tw5674024626795664771 tw5721520018826399133 tw5768296719856779727 tw5812985159451914190 tw5830802371271491040 tw5835237604470977728 tw5871916206888048209 tw5966184491082458126 tw5990068375204747839 tw6054308921005041943 tw6102098639952060308 tw6131192501624256857 tw622919537894142387 tw6250419440311933018 tw6337038569003669843 tw636953332065814704 tw641285761209513837 tw6444247152997237028 tw6448380073490395037 tw6456987597546193755 tw6526621293487520241 tw6586393472510897546 tw6609393653534718913 tw6615424466242426125 tw6627490155399064052 tw6666007078793086988 tw6712164828063991314 tw6725890164329220040 tw6805974062578003272 tw695466357503530253 tw6988996910252524056 tw7121141677017092922 tw7131187326048985787 tw7147502493514744201 tw718812112620915837 tw7214193065085561498 tw7241963290488324935 tw7252699963051041023 tw729726750925188746 tw7328001819465636692 tw73307322616817207 tw7427097517463817806 tw7429700024578135603 tw7456590639399929159 tw7471135318198016928 tw7479950695273094119 tw7549774611625313371 tw7589446782108925914 tw7614029268100456404 tw7760835704457658446 tw7913860855603038640 tw7966366430781146880 tw7970255764492704718 tw7981734008492874581 tw7998631080263241002 tw8054062539624912126 tw8088835150032202413 tw8093638673959311076 tw8126451563345852804 tw821030150146661466 tw8300043195494157311 tw8300615702276009791 tw8322037648713584190 tw8366513344093039426 tw8389768059808584206 tw8418000136521168206 tw8441851000016506527 tw8460623480495442331 tw8515048827556153995 tw8552550664285178226 tw8731679045703477355 tw8781841501212744085 tw8822924492983111662 tw8838041014134919976 tw8867069759923312626 tw8982829653047969970 tw9003676337216768279 tw903749563316369097 tw9047857747131415418 tw9109376031352536868 tw9132985743362731481 tw9133574615347300974 tw9161558467623883538 tw9181063808567089982 tw9227627432345902412 tw9239010600772364213 tw9252362001142117842 tw9254915316618978900 tw9263038510058108986 tw9274527668702472242 tw9275626441532868476 tw9355204720480235587 tw9533643091837600150 tw9650720910546268644 tw9668954095347885728 tw968777418526306077 tw9713163912662025865 tw9771375100644029455 tw9789399786558146955 tw9806739058882921807 tw9810051135987154446 tw9903673822618448489 tw9917392012757915749 tw9987062383701002734 tw9995741125563269892 tw999598271535247414:True)
namespace L2
open PySem PySem.Spec PyProof.Rows
abbrev Key:=Sum Int Str
noncomputable def zde:Key->qM->Bool
 | .inl k,v=>Value.isInt k v
 | .inr x,v=>Value.isStrOf x v
noncomputable def zn2(w:World):Key->Int
 | .inl k=>hashInt k
 | .inr x=>hashStr w x
theorem xM:∀{k:Key} {v:qM},zde k v=jD->(∃i t,k=CF i/\v=Value.int i t)\/(∃x t,k=Bi x/\v=Value.str x t)
 | .inl i,v,h=>by
  obtain⟨t,e⟩:=Value.isInt_shape (k:=i) (v:=v) h;exact .inl ⟨i,t,rfl,e⟩
 | .inr x,v,h=>by
  obtain⟨t,e⟩:=Value.isStrOf_shape (x:=x) (v:=v) h;exact .inr ⟨x,t,rfl,e⟩
theorem zdf(i:Int)(t:Tok):zde (.inl i) (.int i t)=jD:=by simp[zde,Value.isInt]
theorem zdg(x:Str)(t:Tok):zde (.inr x) (.str x t)=jD:=by simp[zde,Value.isStrOf]
theorem zn3(a b:Int):decide ((CF a:Key)=CF b)=(a==b):=by
 by_cases e:a=b
 .subst e;simp
 .have h:¬(CF a:Key)=CF b:=λq=>e (Sum.inl.inj q);rw[decide_eq_false h];exact(beq_eq_false_iff_ne.mpr e).symm
theorem zn4(a b:Str):decide ((Bi a:Key)=Bi b)=decide (a=b):=by
 by_cases e:a=b
 .subst e;simp
 .have h:¬(Bi a:Key)=Bi b:=λq=>e (Dx q);rw[decide_eq_false h,decide_eq_false e]
theorem zn5(a:Int)(b:Str):decide ((CF a:Key)=Bi b)=nW:=decide_eq_false (λq=>nomatch q)
theorem zn6(a:Str)(b:Int):decide ((Bi a:Key)=CF b)=nW:=decide_eq_false (λq=>nomatch q)
noncomputable def vo(prog:Program)(w:World):PySem.KeyKind prog w Key where
 is:=zde
 hash:=zn2 w
 inj:=λv a b ha hb=>by
  rcases xM ha with⟨i,t,rfl,rfl⟩|⟨x,t,rfl,rfl⟩
  .rcases xM hb with⟨j,u,rfl,e⟩|⟨y,u,rfl,e⟩
   .injection e with e1 _;rw[e1]
   .exact nomatch e
  .rcases xM hb with⟨j,u,rfl,e⟩|⟨y,u,rfl,e⟩
   .exact nomatch e
   .injection e with e1 _;rw[e1]
 byValue:=λk v h=>by
  rcases xM h with⟨i,t,rfl,rfl⟩|⟨x,t,rfl,rfl⟩<;>rfl
 pyHash:=λhv h=>by
  rcases xM hv with⟨i,t,rfl,rfl⟩|⟨x,t,rfl,rfl⟩
  .exact wpAny_pyHash_int h
  .exact wpAny_pyHash_str h
 eqBool:=λhu hv h=>by
  rcases xM hu with⟨i,t,rfl,rfl⟩|⟨x,t,rfl,rfl⟩
  .rcases xM hv with⟨j,u,rfl,rfl⟩|⟨y,u,rfl,rfl⟩
   .rw[zn3] at h;exact wpAny_eqBool_int h
   .rw[zn5] at h;exact SeqAt.EqAt.int_str i t y u _ _ _ _ h
  .rcases xM hv with⟨j,u,rfl,rfl⟩|⟨y,u,rfl,rfl⟩
   .rw[zn6] at h;exact SeqAt.EqAt.str_int x t j u _ _ _ _ h
   .rw[zn4] at h;exact wpAny_eqBool_str h
 «strs» :=λk x t v h=>by
  rcases xM h with⟨i,u,rfl,e⟩|⟨y,u,rfl,e⟩
  .exact nomatch e
  .injection e with e1 _
   subst e1;cases v<;>rfl
theorem zeM(prog:Program)(w:World)(i:Int)(t:Tok):(vo prog w).is (.inl i) (.int i t)=jD:=zdf i t
theorem zeN(prog:Program)(w:World)(x:Str)(t:Tok):(vo prog w).is (.inr x) (.str x t)=jD:=zdg x t
inductive V where
 |non|bl (b:Bool)|int (i:Int)|str (x:Str)|byt (b:Array UInt8)|flt (b:UInt64)|ref (a:Addr)|ty (n:String)
 deriving DecidableEq
def yq:V->qM->Prop
 | .non,u=>u=Value.none
 | .bl b,u=>u=Value.bool b
 | .int i,u=>∃t,u=Value.int i t
 | .str x,u=>∃t,u=Value.str x t
 | .byt b,u=>∃t,u=Value.bytes b t
 | .flt b,u=>∃t,u=Value.float b t
 | .ref a,u=>u=Value.ref a
 | .ty n,u=>u=Value.type n
noncomputable abbrev yd:pR V->pR qM->Prop:=Paired yq
theorem yd.length(r:yd xs us):xs.length=us.length:=Paired.length r
theorem yd.get{xs:pR V}{us:pR qM}{i:Nat}{x:V}(h:yd xs us)(e:xs[i]? =iJ x):∃u,us[i]? =iJ u/\yq x u:=by
 induction h generalizing i with
 |nil=>simp at e
 |cons r t k=>cases i with
  |zero=>simp at e;subst e;exact⟨_,rfl,r⟩
  |succ i=>exact k e
theorem yd.set(r:yq x u){xs:pR V}{us:pR qM}(i:Nat)(h:yd xs us):yd (xs.set i x) (us.set i u):=by
 induction h generalizing i with
 |nil=>exact .nil
 |cons q t k=>cases i with
  |zero=>exact .cons r t
  |succ i=>exact .cons q (k i)
theorem yd.append{xs ys:pR V}{us ws:pR qM}(h:yd xs us)(s:yd ys ws):yd (xs++ys) (us++ws):=by
 induction h with
 |nil=>exact s
 |cons r t k=>exact .cons r k
theorem yd.take{xs:pR V}{us:pR qM}(n:Nat)(h:yd xs us):yd (xs.take n) (us.take n):=by
 induction h generalizing n with
 |nil=>cases n<;>exact .nil
 |cons r t k=>cases n with
  |zero=>exact .nil
  |succ i=>exact .cons r (k i)
theorem yd.drop{xs:pR V}{us:pR qM}(n:Nat)(h:yd xs us):yd (xs.drop n) (us.drop n):=by
 induction h generalizing n with
 |nil=>cases n<;>exact .nil
 |cons r t k=>cases n with
  |zero=>exact .cons r t
  |succ i=>exact k i
def UI:pT V->pT qM->Prop
 |some v,iJ u=>yq v u
 |none,jr=>True
 |_,_=>False
def KV{κ:Type}:pR (κ×V)->pR (κ×qM)->Prop:=Paired λ(p:κ×V) (q:κ×qM)=>p.1=q.1/\yq p.2 q.2
noncomputable def kV:Key->V
 | .inl i=> .int i
 | .inr x=> .str x
inductive NK where
 |int (i:Int)|str (x:Str)|tup (l:List NK)
noncomputable instance:DecidableEq NK:=λa b=>Classical.propDecidable (a=b)
mutual
noncomputable def zjh(w:World):NK->Int
 | .int i=>zn2 w (.inl i)
 | .str x=>zn2 w (.inr x)
 | .tup l=>reduceHash (Builtin.Tuple.tupleHashOf (zji w l))
noncomputable def zji(w:World):pR NK->pR Int
 |[]=>[]
 |k::r=>zjh w k::zji w r
end
mutual
noncomputable def zlN:NK->Nat
 | .int _=>0
 | .str _=>0
 | .tup l=>znn l+1
noncomputable def znn:pR NK->Nat
 |[]=>0
 |k::r=>max (zlN k) (znn r)
end
noncomputable def zn7(w:World)(x:NK×qY×qM):DictEntry:={hash:=zjh w x.1,key:= .ref x.2.1,val:=x.2.2}
inductive HO where
 |lst (xs:List V)
 |tup (xs:List V)
 |dK (aq:List (Key×V))|dT (aq:List (List Key×V))
 |dN (ks:List (NK×Addr×V))
 |set (S:Int->Bool) (n:Nat)
 |ins (C dx:Addr) (fs:List (Str×V))
 |own (x:Addr)
 |xd (fs:List (Str×V))
 |met (f x:Addr)
 |rng (lo hi:Int)
 |frz (o:Obj) (u:HO)
 |tbl (ps:Array Value)
 |ext (φ:Heap->Prop)
abbrev Hp:=qY->pT HO
noncomputable def upd(H:Hp)(a:qY)(o:HO):Hp:=λb=>if b=a then iJ o else H b
theorem yH{H:Hp}:upd H a o a=iJ o:=by unfold upd;rw[if_pos rfl]
theorem yi{H:Hp}(h:b≠a):upd H a o b=H b:=by unfold upd;rw[if_neg h]
theorem Zv{H:Hp}{a b:qY}{o:HO}(h:H a=iJ o)(h':H b=jr):a≠b:=by
 intro e;subst e;rw[h] at h';cases h'
def WG(h:Heap)(a:qY)(items:Array qM):Prop:=∃o,h.get? a=iJ o/\o.cls= .type "tuple"/\∃n,o.data= .seq items n/\o.dict=jr
theorem WG.tup(x:WG h a items):IsTup h a items:=by
 obtain⟨o,e,c,n,d,_⟩:=x;exact⟨o,e,c,n,d⟩
theorem WG.new(h:Heap)(items:Array qM):WG (h.push {cls:= .type "tuple",data:= .seq items}) h.objs.size items:=⟨_,Heap.get?_push_size _ rfl,rfl,_,rfl,rfl⟩
section
variable(P:Program)(w:World)
def xp(H:Hp)(h:Heap)(a:qY):HO->Prop
 | .lst xs=>xs.length<=sizeLine/\∃(ag:pR qM) (n:Nat),yd xs ag/\h.get? a=iJ {cls:= .type "list",data:= .seq ag.toArray n}
 | .tup xs=>xs.length<=sizeLine/\∃ag:pR qM,yd xs ag/\WG h a ag.toArray
 | .dK aq=>aq.length<=sizeLine/\(a==sysModules)=nW/\∃vs,KV aq vs/\h.DictOf (vo P w) a vs
 | .dT aq=>aq.length<=sizeLine/\(a==sysModules)=nW/\∃xs:pR (pR Key×qY×qM),
   Paired (λ(p:pR Key×V) (q:pR Key×qY×qM)=>p.1=q.1/\H q.2.1=iJ (.tup (p.1.map kV))/\yq p.2 q.2.2) aq xs/\
   ∃o es ep,h.get? a=iJ o/\o.ExactDict/\o.data= .dict es ep/\es.toList=xs.map (entryOfKey (tupleKind (vo P w)))/\(xs.map (·.1)).Nodup
 | .dN ks=>ks.length<=sizeLine/\(a==sysModules)=nW/\∃xs:pR (NK×qY×qM),Paired (λ(p:NK×qY×V) (q:NK×qY×qM)=>p.1=q.1/\p.2.1=q.2.1/\yq p.2.2 q.2.2) ks xs/\
   ∃o es ep,h.get? a=iJ o/\o.ExactDict/\o.data= .dict es ep/\es.toList=xs.map (zn7 w)/\(xs.map (·.1)).Nodup
 | .set S n=>h.SetOf (intKind P w) a S n
 | .ins C dx fs=>H dx=iJ (.own a)/\fs.length<=1000/\dx≠a/\h.get? a=iJ (Ay C dx)/\
   ∃mA,h.Ns1 dx mA/\(∀f,UI (fs.lookup f) (mA f))/\Dk mA (fs.map (·.1))
 | .own _=>∃o,h.get? a=iJ o
 | .xd fs=>∃mA,h.Ns1 a mA/\∀f,UI (fs.lookup f) (mA f)
 | .rng lo hi=>∃t u v,h.get? a=iJ {cls:= .type "range",data:= .fields #[.int lo t,.int hi u,.int 1 v]}
 | .frz o u=>h.get? a=iJ o/\xp H h a u
 | .tbl ps=>h.get? a=iJ {cls:= .none,data:= .fields ps}
 | .met f x=>h.get? a=iJ (Cv (.ref f) (.ref x))
 | .ext φ=>φ h/\(∃o,h.get? a=iJ o)/\∀h1 h2:Heap,φ h1->(∀o,h1.get? a=iJ o->h2.get? a=iJ o)->φ h2
def HOk(H:Hp)(h:Heap):Prop:=∀a o,H a=iJ o->xp P w H h a o
end
section
variable{P:Program}{H H':Hp}
theorem xp.lt(x:xp P w H h a o):a<h.objs.size:=by
 cases o with
 |lst xs=>obtain⟨_,_,_,_,e⟩:=x;exact Heap.lt_size e
 |tup xs=>obtain⟨_,_,_,p⟩:=x;exact p.tup.lt
 |dK aq=>obtain⟨_,_,_,_,o,_,_,e,_⟩:=x;exact Heap.lt_size e
 |dT aq=>obtain⟨_,_,_,_,o,_,_,e,_⟩:=x;exact Heap.lt_size e
 |dN ks=>obtain⟨_,_,_,_,o,_,_,e,_⟩:=x;exact Heap.lt_size e
 |set S n=>obtain⟨o,_,_,_,e,_⟩:=x;exact Heap.lt_size e
 |ins C dx fs=>obtain⟨_,_,_,e,_⟩:=x;exact Heap.lt_size e
 |own y=>obtain⟨_,e⟩:=x;exact Heap.lt_size e
 |xd fs=>obtain⟨_,⟨_,_,_,e,_⟩,_⟩:=x;exact Heap.lt_size e
 |rng lo hi=>obtain⟨_,_,_,e⟩:=x;exact Heap.lt_size e
 |frz ob u=>obtain⟨e,_⟩:=x;exact Heap.lt_size e
 |tbl ps=>exact Heap.lt_size (show h.get? a=iJ _ from x)
 |met f y=>exact Heap.lt_size (show h.get? a=iJ _ from x)
 |ext φ=>obtain⟨_,⟨_,e⟩,_⟩:=x;exact Heap.lt_size e
theorem Paired.mapP{α β:Type}{F G:α->β->Prop}{l₁:pR α}{l₂:pR β}(h:Paired F l₁ l₂)(f:∀a b,F a b->G a b):Paired G l₁ l₂:=by
 induction h with
 |nil=>exact .nil
 |cons r t i=>exact .cons (f _ _ r) i
theorem xp.stay(x:xp P w H h a o)(k:∀b u,(b=a\/H b=iJ (.own a))->h.get? b=iJ u->h'.get? b=iJ u)
  (ho:∀b,H b=iJ (.own a)->H' b=iJ (.own a)) (ht:∀b xs,H b=iJ (.tup xs)->H' b=iJ (.tup xs)):xp P w H' h' a o:=by
 induction o with
 |lst xs=>obtain⟨z,ag,n,r,e⟩:=x;exact⟨z,ag,n,r,k _ _ (.inl rfl) e⟩
 |tup xs=>obtain⟨z,ag,r,ob,e,c⟩:=x;exact⟨z,ag,r,ob,k _ _ (.inl rfl) e,c⟩
 |dK aq=>obtain⟨z,y,vs,r,ob,es,ep,e,c⟩:=x;exact⟨z,y,vs,r,ob,es,ep,k _ _ (.inl rfl) e,c⟩
 |dT aq=>
  obtain⟨z,y,xs,r,ob,es,ep,e,c⟩:=x;exact⟨z,y,xs,Paired.mapP r λp q z=>⟨z.1,ht _ _ z.2.1,z.2.2⟩,ob,es,ep,k _ _ (.inl rfl) e,c⟩
 |dN ks=>obtain⟨z,y,xs,r,ob,es,ep,e,c⟩:=x;exact⟨z,y,xs,r,ob,es,ep,k _ _ (.inl rfl) e,c⟩
 |set S n=>obtain⟨ob,es,ep,t,e,c⟩:=x;exact⟨ob,es,ep,t,k _ _ (.inl rfl) e,c⟩
 |ins C dx fs=>
  obtain⟨d,z,ne,e,mA,⟨od,es,ep,e2,c⟩,r⟩:=x;exact⟨ho _ d,z,ne,k _ _ (.inl rfl) e,mA,⟨od,es,ep,k _ _ (.inr d) e2,c⟩,r⟩
 |own y=>obtain⟨ob,e⟩:=x;exact⟨ob,k _ _ (.inl rfl) e⟩
 |xd fs=>obtain⟨mA,⟨od,es,ep,e,c⟩,r⟩:=x;exact⟨mA,⟨od,es,ep,k _ _ (.inl rfl) e,c⟩,r⟩
 |rng lo hi=>obtain⟨t,u,v,e⟩:=x;exact⟨t,u,v,k _ _ (.inl rfl) e⟩
 |frz ob u ih=>obtain⟨e,q⟩:=x;exact⟨k _ _ (.inl rfl) e,ih q⟩
 |tbl ps=>
  have e:h.get? a=iJ {cls:= .none,data:= .fields ps}:=x;show h'.get? a=iJ {cls:= .none,data:= .fields ps};exact k a _ (.inl rfl) e
 |met f y=>
  have e:h.get? a=iJ (Cv (.ref f) (.ref y)):=x;show h'.get? a=iJ (Cv (.ref f) (.ref y));exact k a _ (.inl rfl) e
 |ext φ=>obtain⟨p,⟨o,e⟩,st⟩:=x;exact⟨st _ _ p λo q=>k _ _ (.inl rfl) q,⟨o,k _ _ (.inl rfl) e⟩,st⟩
theorem HOk.lt(x:HOk P w H h)(e:H a=iJ o):a<h.objs.size:=(x a o e).lt
theorem HOk.fresh(x:HOk P w H h)(e:h.objs.size<=a):H a=jr:=by
 cases q:H a with
 |none=>rfl
 |some u=>exact absurd (uY (x.lt q) e) (Ad _)
theorem HOk.kept(x:HOk P w H h)(k:∀b u,h.get? b=iJ u->h'.get? b=iJ u):HOk P w H h':=λa o e=>
 (x a o e).stay (λb u _ q=>k b u q) (λ_ q=>q) λ_ _ q=>q
theorem HOk.laid(x:HOk P w H h)(k:∀b u,h.get? b=iJ u->h'.get? b=iJ u)(hp:h.objs.size<=a)(new:xp P w (upd H a o) h' a o):HOk P w (upd H a o) h':=λb u e=>by
 have hn:=x.fresh hp;by_cases hb:b=a
 .subst hb;rw[yH] at e;cases e;exact new
 .rw[yi hb] at e;exact(x b u e).stay (λc v _ q=>k c v q) (λc q=>by rw[yi (Zv q hn)];exact q) λc xs q=>by rw[yi (Zv q hn)];exact q
end
def Rd(H:Hp)(a:qY)(u:HO):Prop:=H a=iJ u\/∃o,H a=iJ (.frz o u)
theorem Rd.ok{P:Program}{H:Hp}(r:Rd H a u)(x:HOk P w H h):xp P w H h a u:=by
 rcases r with r|⟨o,r⟩
 .exact x a u r
 .obtain⟨_,q⟩:=x a _ r;exact q
def Mut:pT HO->Prop
 |some (.lst _)=>True
 |some (.dK _)=>True
 |some (.dT _)=>True
 |some (.dN _)=>True
 |some (.set _ _)=>True
 |some (.ins _ _ _)=>True
 |some (.ext _)=>True
 |_=>False
section
variable{P:Program}{H:Hp}
theorem HOk.write(ok:HOk P w H h)(mu:Mut (H x))(he:e=x\/H e=iJ (.own x))(k:∀b u,b≠e->h.get? b=iJ u->h'.get? b=iJ u)(m8:∃u,h'.get? e=iJ u)
  (new:xp P w (upd H x o') h' x o'):HOk P w (upd H x o') h':=λb u q=>by
 have mn:∀c y,H c=iJ (.own y)->c≠x:=λc y r z=>by subst z;rw[r] at mu;exact mu
 have o6:∀c xs,H c=iJ (.tup xs)->c≠x:=λc xs r z=>by subst z;rw[r] at mu;exact mu
 by_cases hb:b=x
 .subst hb;rw[yH] at q;cases q;exact new
 .rw[yi hb] at q;by_cases lN:b=e
  .have q':H b=iJ (.own x):=by
    rcases he with z|z
    .exact absurd (lN.trans z) hb
    .rw[lN];exact z
   rw[q] at q';cases q';obtain⟨v,hv⟩:=m8;exact⟨v,by rw[lN];exact hv⟩
  .refine (ok b u q).stay (λc v hc r=>k c v ?_ r) (λc r=>by rw[yi (mn c b r)];exact r) λc xs r=>by rw[yi (o6 c xs r)];exact r
   rcases hc with rfl|hc
   .exact lN
   .rintro rfl;rcases he with z|z
    .exact mn c b hc z
    .rw[hc] at z;cases z;exact hb rfl
end
structure Un(fs ex:pR qY)(H H':Hp)(h h':Heap):Prop where
 keep:∀b o,h.get? b=iJ o->H b=jr->b∉fs->b∉ex->h'.get? b=iJ o
 slot:∀b o,h.get? b=iJ o->H b=jr->b∈fs->b∉ex->∃sl,h'.get? b=iJ {o with slots:=sl}
 free:∀b o,h.get? b=iJ o->H b=jr->b∉ex->H' b=jr
 there:∀b o,h.get? b=iJ o->b∉ex->∃o',h'.get? b=iJ o'
 tups:∀b xs,H b=iJ (.tup xs)->H' b=iJ (.tup xs)
 frzs:∀b o u,H b=iJ (.frz o u)->H' b=iJ (.frz o u)
 tbls:∀b ps,H b=iJ (.tbl ps)->∃more,H' b=iJ (.tbl (ps++more))
section
variable{H H1 H2:Hp}
theorem Un.any(u:Un fs ex H H1 h h1)(q:h.get? b=iJ ob)(n:H b=jr)(hx:b∉ex):∃sl,h1.get? b=iJ {ob with slots:=sl}:=by
 by_cases hb:b∈fs
 .exact u.slot b ob q n hb hx
 .exact⟨ob.slots,u.keep b ob q n hb hx⟩
theorem Un.trans(a:Un fs ex H H1 h h1)(b:Un fs ex H1 H2 h1 h2):Un fs ex H H2 h h2 where
 keep:=λc ob q n hc hx=>b.keep c ob (a.keep c ob q n hc hx) (a.free c ob q n hx) hc hx
 slot:=λc ob q n hc hx=>by
  obtain⟨sl,e1⟩:=a.slot c ob q n hc hx;obtain⟨sl',e2⟩:=b.slot c _ e1 (a.free c ob q n hx) hc hx;exact⟨sl',e2⟩
 free:=λc ob q n hx=>by
  obtain⟨o',e1⟩:=a.there c ob q hx;exact b.free c o' e1 (a.free c ob q n hx) hx
 there:=λc ob q hx=>by
  obtain⟨o',e1⟩:=a.there c ob q hx;exact b.there c o' e1 hx
 tups:=λc xs q=>b.tups c xs (a.tups c xs q)
 frzs:=λc ob xs q=>b.frzs c ob xs (a.frzs c ob xs q)
 tbls:=λc ps q=>by
  obtain⟨m1,e1⟩:=a.tbls c ps q;obtain⟨m2,e2⟩:=b.tbls c _ e1;exact⟨m1++m2,by rw[e2,Cm]⟩
theorem Un.kept(k:∀b u,h.get? b=iJ u->h'.get? b=iJ u):Un fs ex H H h h':=
 ⟨λb ob q _ _ _=>k b ob q,λb ob q _ _ _=>⟨ob.slots,k b ob q⟩,λ_ _ _ n _=>n,λb ob q _=>⟨ob,k b ob q⟩,λ_ _ q=>q,λ_ _ _ q=>q,λ_ ps q=>⟨#[],by rw[q];simp⟩⟩
theorem Un.refl:Un fs ex H H h h:=Un.kept λ_ _ q=>q
theorem Un.laid(k:∀b u,h.get? b=iJ u->h'.get? b=iJ u)(hp:h.objs.size<=a)(hn:H a=jr):Un fs ex H (upd H a o) h h' where
 keep:=λb u q _ _ _=>k b u q
 slot:=λb u q _ _ _=>⟨u.slots,k b u q⟩
 free:=λb u q n _=>by rw[yi (uR (uY (Heap.lt_size q) hp))];exact n
 there:=λb u q _=>⟨u,k b u q⟩
 tups:=λb xs q=>by rw[yi (Zv q hn)];exact q
 frzs:=λb u xs q=>by rw[yi (Zv q hn)];exact q
 tbls:=λb ps q=>⟨#[],by rw[yi (Zv q hn),q];simp⟩
theorem Un.write(mu:Mut (H x))(he:e=x\/H e=iJ (.own x))(k:∀b u,b≠e->h.get? b=iJ u->h'.get? b=iJ u)(m8:∃u,h'.get? e=iJ u):Un fs ex H (upd H x o) h h':=by
 have hx:∀b,H b=jr->b≠x:=λb n z=>by subst z;rw[n] at mu;exact mu
 have hb:∀b,H b=jr->b≠e:=λb n z=>by
  subst z;rcases he with r|r
  .exact hx b n r
  .rw[n] at r;cases r
 have hm:∀b u,H b=iJ u->¬Mut (iJ u)->b≠x:=λb u q nm z=>by subst z;rw[q] at mu;exact nm mu
 refine⟨λb u q n _ _=>k b u (hb b n) q,λb u q n _ _=>⟨u.slots,k b u (hb b n) q⟩,λb u q n _=>by rw[yi (hx b n)];exact n,λb u q _=> ?_,
  λb xs q=>by rw[yi (hm b _ q λz=>z)];exact q,λb u xs q=>by rw[yi (hm b _ q λz=>z)];exact q,λb ps q=>⟨#[],by rw[yi (hm b _ q λz=>z),q];simp⟩⟩
 by_cases lN:b=e
 .subst lN;exact m8
 .exact⟨u,k b u lN q⟩
end
noncomputable def trk(h:Heap)(H:Hp):pR qY:=(y2 h.objs.size).filter λa=>(H a).isSome
noncomputable def zdN(h:Heap)(H:Hp):Heap:=AU h (trk h H)
theorem zio(h:Heap)(H:Hp):(zdN h H).objs.size=h.objs.size:=PySem.W.hideAll_size _ _
theorem zjj{H:Hp}(e:h.get? b=iJ o)(n:H b=jr):(zdN h H).get? b=iJ o:=
 Di _ e λhm=>by
  have q:(H b).isSome=jD:=(CK.mp hm).2;rw[n] at q;simp at q
theorem zlO{H:Hp}(e:(zdN h H).get? b=iJ o):h.get? b=iJ o/\H b=jr:=by
 have e':h.get? b=iJ o:=Dl (trk h H) e;refine⟨e',?_⟩;cases q:H b with
 |none=>rfl
 |some x=>
  have hm:b∈trk h H:=CK.mpr ⟨Cd.mpr (Heap.lt_size e'),by simp[q]⟩;have z:(zdN h H).get? b=jr:=PySem.W.hideAll_none (trk h H) hm;rw[z] at e;cases e
structure Mod(K:uk)(mg:Str->pT qM)(base:Heap):Prop where
 kin:K.In base
 glob:base.Ns mainGlobals mg
 blt:∃mb,base.Ns builtinsNs mb/\∀x:Str,x≠"__name__"->mb x=bootBuiltins x
 nolimit:base.NoLimit
structure Cx where
 prog:Program
 w:World
 K:uk
 mg:Str->pT qM
 base:Heap
 A:Around
 N:pR Str
 s₀:qN
 H₀:Hp
 env:Env
 outer:pR Env
 stack:pR Env
 ex:pR qY
 fn:Str->Bool
 calm:Bool
 pn:pR (qY×Obj)
 xe:qM->qN->Prop
noncomputable def frs(l:pR Env):pR qY:=l.filterMap (·.frame)
noncomputable abbrev Cx.fs(X:Cx):pR qY:=frs X.outer
def Vis(sc:Scope)(x:Str):Prop:=sc.names.lookup x=iJ .local\/sc.names.lookup x=iJ .cell\/sc.names.lookup x=iJ .free
def Loc(sc:Scope)(x:Str):Prop:=sc.names.lookup x=iJ .local\/sc.names.lookup x=iJ .cell
def zpN(env:Env)(h:Heap)(m:Str->pT qM)(x:Str)(u:qM):Prop:=
 (env.kindOf x=iJ .local/\m x=iJ u)\/((env.kindOf x=iJ .cell\/env.kindOf x=iJ .free)/\∃c,env.cells.lookup x=iJ c/\h.IsCell c (iJ u))
structure Cx.Ok(X:Cx):Prop where
 mod:Mod X.K X.mg X.base
 kind:X.env.scope.kind= .function
 glob:X.env.globals=mainGlobals
 blt:X.env.builtins=builtinsNs
 above:X.s₀.heap.objs.size<=X.env.locals
 inj:∀x y c,X.env.cells.lookup x=iJ c->X.env.cells.lookup y=iJ c->x=y
 has:∀x,(X.env.kindOf x=iJ .cell\/X.env.kindOf x=iJ .free)->∃c,X.env.cells.lookup x=iJ c
 cab:∀x c,X.fn x=jD->X.env.cells.lookup x=iJ c->X.s₀.heap.objs.size<=c
 hd:X.calm=jD->X.A.handled=jr
 frames:X.A.frames=iJ X.stack
 stk:X.stack=X.outer\/(X.stack=X.env::X.outer/\X.env.frame=iJ X.env.locals)
 exf:∀b∈X.ex,b≠X.env.locals/\∀x c,X.env.cells.lookup x=iJ c->c≠b
 bs:∀b o,X.base.get? b=iJ o->X.s₀.heap.get? b=iJ o/\X.H₀ b=jr
 bsz:X.base.objs.size<=X.s₀.heap.objs.size
 noex:∀b o,X.base.get? b=iJ o->b∉X.ex
 exfs:∀b∈X.ex,b∉X.fs
 funs:X.s₀.heap.FunFrames X.base X.outer
 frf:∀b∈X.fs,X.H₀ b=jr
structure Inv(X:Cx)(pins:pR (qY×Obj))(σ:pR (pT V))(H:Hp)(s:qN):Prop where
 ok:X.Ok
 os:s.os=X.s₀.os
 bare:AllBare s.gens
 base:Un X.fs X.ex X.H₀ H X.s₀.heap s.heap
 loc:∃m,s.heap.Ns X.env.locals m/\∀(i:Nat) (x:Str) (v:V),X.N[i]? =iJ x->σ[i]? =iJ (iJ v)->Vis X.env.scope x->∃u,yq v u/\zpN X.env s.heap m x u
 cell:∀x c,X.env.cells.lookup x=iJ c->∃v,s.heap.IsCell c v
 free:H X.env.locals=jr
 freeC:∀x c,X.env.cells.lookup x=iJ c->H c=jr
 pin:∀p∈X.pn++pins,s.heap.get? p.1=iJ p.2/\H p.1=jr/\p.1≠X.env.locals/\p.1∉X.fs/\∀v,p.2.data≠ .cell v
 hok:HOk X.prog X.w H s.heap
 len:σ.length=X.N.length
section
variable{X:Cx}{pins:pR (qY×Obj)}{σ:pR (pT V)}{H H':Hp}{s:qN}
theorem Cx.Ok.nofr(ok:X.Ok)(e:X.base.get? b=iJ o):b∉X.fs:=λhb=>by
 have:=(ok.funs.mem hb).1;rw[e] at this;cases this
theorem Inv.bs(I:Inv X pins σ H s):∀b o,X.base.get? b=iJ o->s.heap.get? b=iJ o/\H b=jr:=λb o e=>
 ⟨I.base.keep b o (I.ok.bs b o e).1 (I.ok.bs b o e).2 (I.ok.nofr e) (I.ok.noex b o e),I.base.free b o (I.ok.bs b o e).1 (I.ok.bs b o e).2 (I.ok.noex b o e)⟩
theorem Inv.bk(I:Inv X pins σ H s):∀b o,X.base.get? b=iJ o->s.heap.get? b=iJ o:=λb o e=>(I.bs b o e).1
theorem Inv.mod(I:Inv X pins σ H s):Mod X.K X.mg X.base:=I.ok.mod
theorem Inv.kIn(I:Inv X pins σ H s):X.K.In s.heap:=I.ok.mod.kin.keeps I.bk
theorem Inv.lt(I:Inv X pins σ H s):X.env.locals<s.heap.objs.size:=let ⟨_,hn,_⟩:=I.loc;hn.lt
theorem Inv.sz(I:Inv X pins σ H s):X.s₀.heap.objs.size<=s.heap.objs.size:=v5 I.ok.above (z3 I.lt)
theorem Inv.nofs(I:Inv X pins σ H s)(h:s.heap.objs.size<=a):a∉X.fs:=λhb=>by
 obtain⟨_,o,ho,_⟩:=I.ok.funs.mem hb;exact absurd (uY (Heap.lt_size ho) (v5 I.sz h)) (Ad _)
theorem Inv.cne(I:Inv X pins σ H s):∀x c,X.env.cells.lookup x=iJ c->c≠X.env.locals:=λx c e z=>by
 obtain⟨v,o,ho,hd⟩:=I.cell x c e;obtain⟨m,⟨o',es,ep,jw,pw,_⟩,_⟩:=I.loc;rw[z,jw] at ho;cases ho;rw[pw] at hd;cases hd
theorem Inv.funs(I:Inv X pins σ H s):s.heap.FunFrames X.base X.outer:=by
 have all:∀(l:pR Env),(∀b∈frs l,b∈X.fs)->X.s₀.heap.FunFrames X.base l->s.heap.FunFrames X.base l:=by
  intro l
  induction l with
  |nil=>intro _ _;trivial
  |cons env r ih=>
   intro hs hl;obtain⟨hk,⟨L,o,hf,hn,ho,hd⟩,hr⟩:=hl;have hL:L∈X.fs:=hs L (by unfold frs;rw[By,hf];exact uK);obtain⟨sl,e⟩:=I.base.slot L o ho (I.ok.frf L hL) hL λz=>I.ok.exfs L z hL;exact⟨hk,⟨L,_,hf,hn,e,hd⟩,ih (λb hb=>hs b (by unfold frs;rw[By,hf];exact uG _ hb)) hr⟩
 exact all X.outer (λ_ hb=>hb) I.ok.funs
theorem Inv.stack(I:Inv X pins σ H s):s.heap.FunFrames X.base X.stack:=by
 rcases I.ok.stk with e|⟨e,hf⟩
 .rw[e];exact I.funs
 .rw[e];obtain⟨m,hn,_⟩:=I.loc;refine .cons (by rw[I.ok.kind];decide) hf hn ?_ I.funs;exact Heap.get?_none_of_le (v5 I.ok.bsz I.ok.above)
theorem Inv.stkSub(I:Inv X pins σ H s):∀b∈frs X.stack,b∈X.env.locals::X.fs:=λb hb=>by
 rcases I.ok.stk with e|⟨e,hf⟩
 .rw[e] at hb;exact uG _ hb
 .rw[e] at hb;unfold frs at hb;rw[By,hf] at hb;exact hb
theorem Inv.stkFree(I:Inv X pins σ H s):∀b∈frs X.stack,H b=jr:=λb hb=>by
 rcases uU.mp (I.stkSub b hb) with e|hb
 .rw[e];exact I.free
 .obtain⟨_,o,ho,_⟩:=I.ok.funs.mem hb;exact I.base.free b o ho (I.ok.frf b hb) λz=>I.ok.exfs b z hb
theorem Inv.step{g':Array GenState}{t':Nat}{d':Drawn}{ch:pR qY}(I:Inv X pins σ H s)
  (kl:∀b∈ch,(b∈X.ex\/X.s₀.heap.objs.size<=b)/\b≠X.env.locals/\(∀x c,X.env.cells.lookup x=iJ c->c≠b)/\∀p∈X.pn++pins,p.1≠b)
  (keep:∀b o,b≠X.env.locals->b∉X.fs->b∉ch->s.heap.get? b=iJ o->H b=jr->h'.get? b=iJ o)
  (slot:∀b o,b≠X.env.locals->b∈X.fs->b∉ch->s.heap.get? b=iJ o->H b=jr->∃sl,h'.get? b=iJ {o with slots:=sl}) (free:∀b o,b∉ch->s.heap.get? b=iJ o->H b=jr->H' b=jr)
  (there:∀b o,b∉ch->s.heap.get? b=iJ o->∃o',h'.get? b=iJ o')
  (tups:∀b xs,H b=iJ (.tup xs)->H' b=iJ (.tup xs)) (frzs:∀b o u,H b=iJ (.frz o u)->H' b=iJ (.frz o u)) (tbls:∀b ps,H b=iJ (.tbl ps)->∃more,H' b=iJ (.tbl (ps++more)))
  (ns:∀m,s.heap.Ns X.env.locals m->h'.Ns X.env.locals m) (hok:HOk X.prog X.w H' h') (hg:AllBare g'):
  Inv X pins σ H' {s with heap:=h',gens:=g',drawn:=d',toks:=t'}:=by
 have pY:∀b o,X.s₀.heap.get? b=iJ o->b≠X.env.locals:=λb o e=>uR (uY (Heap.lt_size e) I.ok.above);have nB:∀b o,X.s₀.heap.get? b=iJ o->b∉X.ex->b∉ch:=λb o e hx hb=>by
  rcases(kl b hb).1 with z|z
  .exact hx z
  .exact absurd (uY (Heap.lt_size e) z) (Ad _)
 have cellK:∀x c,X.env.cells.lookup x=iJ c->∀v,s.heap.IsCell c v->h'.IsCell c v:=λx c e v ⟨o,ho,hd⟩=>by
  have mr:c∉ch:=λz=>(kl c z).2.2.1 x c e rfl;by_cases hc:c∈X.fs
  .obtain⟨sl,q⟩:=slot c o (I.cne x c e) hc mr ho (I.freeC x c e);exact⟨_,q,hd⟩
  .exact⟨o,keep c o (I.cne x c e) hc mr ho (I.freeC x c e),hd⟩
 refine⟨I.ok,I.os,hg,⟨λb o e n hb hx=> ?_,λb o e n hb hx=> ?_,λb o e n hx=> ?_,λb o e hx=> ?_,λb xs e=>tups b xs (I.base.tups b xs e),λb o xs e=>frzs b o xs (I.base.frzs b o xs e),λb ps e=> ?_⟩,?_,λx c e=> ?_,?_,λx c e=> ?_,λp hp=> ?_,hok,I.len⟩
 .exact keep b o (pY b o e) hb (nB b o e hx) (I.base.keep b o e n hb hx) (I.base.free b o e n hx)
 .obtain⟨sl,e1⟩:=I.base.slot b o e n hb hx;obtain⟨sl',e2⟩:=slot b _ (pY b o e) hb (nB b o e hx) e1 (I.base.free b o e n hx);exact⟨sl',e2⟩
 .obtain⟨o',e1⟩:=I.base.there b o e hx;exact free b o' (nB b o e hx) e1 (I.base.free b o e n hx)
 .obtain⟨o',e1⟩:=I.base.there b o e hx;exact there b o' (nB b o e hx) e1
 .obtain⟨m1,e1⟩:=I.base.tbls b ps e;obtain⟨m2,e2⟩:=tbls b _ e1;exact⟨m1++m2,by rw[e2,Cm]⟩
 .obtain⟨m,hn,hl⟩:=I.loc;refine⟨m,ns m hn,λi x v e1 e2 e3=> ?_⟩;obtain⟨u,r,l⟩:=hl i x v e1 e2 e3;refine⟨u,r,?_⟩;rcases l with l|⟨k,c,e,z⟩
  .exact .inl l
  .exact .inr ⟨k,c,e,cellK x c e _ z⟩
 .obtain⟨v,z⟩:=I.cell x c e;exact⟨v,cellK x c e v z⟩
 .obtain⟨m,⟨o,_,_,ho,_⟩,_⟩:=I.loc;exact free _ o (λz=>(kl _ z).2.1 rfl) ho I.free
 .obtain⟨v,o,ho,hd⟩:=I.cell x c e;exact free c o (λz=>(kl c z).2.2.1 x c e rfl) ho (I.freeC x c e)
 .obtain⟨e,n,ne,nf,d⟩:=I.pin p hp;have mr:p.1∉ch:=λz=>(kl p.1 z).2.2.2 p hp rfl;exact⟨keep p.1 p.2 ne nf mr e n,free p.1 p.2 mr e n,ne,nf,d⟩
theorem Inv.un(I:Inv X pins σ H s)(u:Un X.fs [] H H' s.heap h')(hok:HOk X.prog X.w H' h'):Inv X pins σ H' {s with heap:=h',toks:=t'}:=by
 obtain⟨m,⟨o,es,ep,ho,r⟩,_⟩:=id I.loc;obtain⟨sl,hL⟩:=u.any ho I.free (by simp)
 exact I.step (g':=s.gens) (d':=s.drawn) (ch:=[]) (λ_ z=>nomatch z) (λb o _ hb _ e n=>u.keep b o e n hb (by simp)) (λb o _ hb _ e n=>u.slot b o e n hb (by simp)) (λb o _ e n=>u.free b o e n (by simp)) (λb o _ e=>u.there b o e (by simp)) u.tups u.frzs u.tbls (λm' hm=>by
  obtain⟨o',es',ep',jw,r'⟩:=hm;rw[ho] at jw;cases jw
  exact⟨_,es',ep',hL,r'⟩) hok I.bare
theorem Inv.call(I:Inv X pins σ H s)(u:Un (frs X.stack) ch H H' s.heap h')(hok:HOk X.prog X.w H' h')(hg:AllBare g')
  (kl:∀b∈ch,(b∈X.ex\/X.s₀.heap.objs.size<=b)/\b≠X.env.locals/\(∀x c,X.env.cells.lookup x=iJ c->c≠b)/\∀p∈X.pn++pins,p.1≠b):
  Inv X pins σ H' {s with heap:=h',gens:=g',drawn:=d',toks:=t'}:=by
 obtain⟨m,⟨o,es,ep,ho,r⟩,_⟩:=id I.loc;obtain⟨sl,hL⟩:=u.any ho I.free λz=>(kl _ z).2.1 rfl
 exact I.step (ch:=ch) kl (λb o hL hb hc e n=>u.keep b o e n (λz=>(uU.mp (I.stkSub b z)).elim hL hb) hc) (λb o _ _ hc e n=>u.any e n hc) (λb o hc e n=>u.free b o e n hc) (λb o hc e=>u.there b o e hc) u.tups u.frzs u.tbls (λm' hm=>by
  obtain⟨o',es',ep',jw,r'⟩:=hm;rw[ho] at jw;cases jw
  exact⟨_,es',ep',hL,r'⟩) hok hg
theorem Inv.turned(I:Inv X pins σ H s)(k:∀b o,b≠it->s.heap.get? b=iJ o->h'.get? b=iJ o)(hn:H it=jr)(hL:it≠X.env.locals)
  (h1:it∈X.ex\/X.s₀.heap.objs.size<=it) (h2:∀x c,X.env.cells.lookup x=iJ c->c≠it) (h3:∀p∈X.pn++pins,p.1≠it):Inv X pins σ H {s with heap:=h',toks:=t'}:=by
 have pX:∀b u,H b=iJ u->b≠it:=λb u e z=>by rw[z,hn] at e;cases e
 refine I.step (g':=s.gens) (d':=s.drawn) (ch:=[it]) (λb hb=> ?_) (λb o _ _ hc e _=>k b o (λz=>hc (by simp[z])) e) (λb o _ _ hc e _=>⟨o.slots,k b o (λz=>hc (by simp[z])) e⟩) (λ_ _ _ _ n=>n)
  (λb o hc e=>⟨o,k b o (λz=>hc (by simp[z])) e⟩) (λ_ _ e=>e) (λ_ _ _ e=>e) (λb ps e=>⟨#[],by rw[e];simp⟩) (λm hm=> ?_) (λb u e=> ?_) I.bare
 .have e:b=it:=by simpa using hb
  subst e;exact⟨h1,hL,h2,h3⟩
 .obtain⟨o,es,ep,ho,r⟩:=hm;exact⟨o,es,ep,k _ o (A9 hL) ho,r⟩
 .refine (I.hok b u e).stay (λc v hc q=>k c v ?_ q) (λ_ q=>q) λ_ _ q=>q;rcases hc with z|z
  .rw[z];exact pX b u e
  .exact pX c _ z
theorem Inv.tok(I:Inv X pins σ H s)(t:Nat):Inv X pins σ H {s with toks:=t}:=I.un (h':=s.heap) (t':=t) Un.refl I.hok
theorem Inv.kept(I:Inv X pins σ H s)(k:∀b u,s.heap.get? b=iJ u->h'.get? b=iJ u):Inv X pins σ H {s with heap:=h',toks:=t'}:=I.un (Un.kept k) (I.hok.kept k)
theorem Inv.laid(I:Inv X pins σ H s)(k:∀b u,s.heap.get? b=iJ u->h'.get? b=iJ u)(hp:s.heap.objs.size<=a)(new:xp X.prog X.w (upd H a o) h' a o):
  Inv X pins σ (upd H a o) {s with heap:=h',toks:=t'}:=I.un (Un.laid k hp (I.hok.fresh hp)) (I.hok.laid k hp new)
theorem Inv.write(I:Inv X pins σ H s)(mu:Mut (H x))(he:e=x\/H e=iJ (.own x))(k:∀b u,b≠e->s.heap.get? b=iJ u->h'.get? b=iJ u)(m8:∃u,h'.get? e=iJ u)
  (new:xp X.prog X.w (upd H x o) h' x o):Inv X pins σ (upd H x o) {s with heap:=h',toks:=t'}:=I.un (Un.write mu he k m8) (I.hok.write mu he k m8 new)
theorem Inv.weak(I:Inv X pins σ H s)(hl:σ'.length=σ.length)(w:∀(i:Nat) v,σ'[i]? =iJ (iJ v)->σ[i]? =iJ (iJ v)):Inv X pins σ' H s:=
 ⟨I.ok,I.os,I.bare,I.base,let ⟨m,hn,mK⟩:=I.loc;⟨m,hn,λi x v e1 e2 e3=>mK i x v e1 (w i v e2) e3⟩,I.cell,I.free,I.freeC,I.pin,I.hok,hl.trans I.len⟩
theorem Inv.pins_of(I:Inv X pins σ H s)(h:∀p∈pins',s.heap.get? p.1=iJ p.2/\H p.1=jr/\p.1≠X.env.locals/\p.1∉X.fs/\∀v,p.2.data≠ .cell v):Inv X pins' σ H s:=
 ⟨I.ok,I.os,I.bare,I.base,I.loc,I.cell,I.free,I.freeC,λp hp=>(uW.mp hp).elim (λz=>I.pin p (B1 _ z)) (h p),I.hok,I.len⟩
theorem zbN{N:pR Str}(hN:N.Nodup){i j:Nat}{x:Str}(a:N[i]? =iJ x)(b:N[j]? =iJ x):i=j:=by
 obtain⟨h1,e1⟩:=uq.mp a;obtain⟨h2,e2⟩:=uq.mp b;exact(Dz hN).mp (e1.trans e2.symm)
theorem zdh{A:Around}{E:qM->qN->Prop}{Q:Unit->qN->Prop}(I:Inv X pins σ H s)(hN:X.N.Nodup)(hi:X.N[i]? =iJ x)(hx:Loc X.env.scope x)(r:yq v u)
  (h:∀s',Inv X pins (σ.set i (iJ v)) H s'->(∃a,Heap.SameBut a s.heap s'.heap/\(a=X.env.locals\/X.env.cells.lookup x=iJ a))->Q () s') (hf:X.fn x=jD\/X.env.scope.names.lookup x=iJ .local:=by first|exact .inl rfl|exact .inr rfl|assumption):wpAny M A (storeName X.env x u) Q E s:=by
 obtain⟨m,hn,hl⟩:=id I.loc;have pz:(X.env.scope.kind== .class||(X.env.scope.kind== .module&&X.env.locals !=X.env.globals))=nW:=by rw[I.ok.kind];rfl
 have hiσ:i<σ.length:=by rw[I.len];exact(uq.mp hi).1
 have cne:=I.cne;have tracked:∀{a:qY} {h':Heap},(∃o,s.heap.get? a=iJ o/\H a=jr)->Heap.SameBut a s.heap h'->HOk X.prog X.w H h':=λ{a h'} ha hs b ob e=>by
  obtain⟨_,_,kP⟩:=ha;refine(I.hok b ob e).stay (λc w' hc q=>(hs.2 c ?_).trans q) (λ_ q=>q) λ_ _ q=>q;rintro rfl;rcases hc with rfl|hc
  .rw[kP] at e;cases e
  .rw[kP] at hc;cases hc
 rcases hx with hk|hk
 .refine wpAny_storeName_local hk hn (λh' lY hs=> ?_) pz;obtain⟨oL,_,_,oU,_⟩:=id hn;refine h _ ⟨I.ok,I.os,I.bare,⟨λb o e n hb hx=> ?_,λb o e n hb hx=> ?_,I.base.free,λb o e hx=> ?_,I.base.tups,I.base.frzs,I.base.tbls⟩,⟨_,lY,λj y v' e1 e2 e3=> ?_⟩,λy c e=> ?_,I.free,I.freeC,λp hp=> ?_,tracked ⟨oL,oU,I.free⟩ hs,by simpa using I.len⟩ ⟨_,hs,.inl rfl⟩
  .exact (hs.2 b (uR (uY (Heap.lt_size e) I.ok.above))).trans (I.base.keep b o e n hb hx)
  .obtain⟨sl,e1⟩:=I.base.slot b o e n hb hx;exact⟨sl,(hs.2 b (uR (uY (Heap.lt_size e) I.ok.above))).trans e1⟩
  .obtain⟨o',e1⟩:=I.base.there b o e hx;exact⟨o',(hs.2 b (uR (uY (Heap.lt_size e) I.ok.above))).trans e1⟩
  .by_cases hj:j=i
   .subst hj;rw[hi] at e1;cases e1;rw[BW hiσ] at e2;cases e2;exact⟨u,r,.inl ⟨hk,by simp⟩⟩
   .rw[A2 (A9 hj)] at e2;obtain⟨u',r',q⟩:=hl j y v' e1 e2 e3;refine⟨u',r',?_⟩;rcases q with⟨k,e⟩|⟨k,c,e,z⟩
    .refine .inl ⟨k,?_⟩;have:y≠x:=λe=>hj (zbN hN e1 (e ▸ hi));simp[this,e]
    .exact .inr ⟨k,c,e,z.sameBut hs (cne y c e)⟩
  .obtain⟨w',z⟩:=I.cell y c e;exact⟨w',z.sameBut hs (cne y c e)⟩
  .obtain⟨e,n,ne,nf,d⟩:=I.pin p hp;exact⟨(hs.2 p.1 ne).trans e,n,ne,nf,d⟩
 .have ph:X.fn x=jD:=by
   rcases hf with z|z
   .exact z
   .rw[z] at hk;cases hk
  obtain⟨c,hc⟩:=I.ok.has x (.inl hk);obtain⟨w',z⟩:=I.cell x c hc;refine wpAny_storeName_cell I.ok.kind hk hc z (λh' pB hs=> ?_);obtain⟨oc,qv,oT⟩:=id z;refine h {s with heap:=h'} ⟨I.ok,I.os,I.bare,⟨λb o e n hb hx=> ?_,λb o e n hb hx=> ?_,I.base.free,λb o e hx=> ?_,I.base.tups,I.base.frzs,I.base.tbls⟩,⟨m,hn.sameBut hs (A9 (cne x c hc)),λj y v' e1 e2 e3=> ?_⟩,λy c' e=> ?_,I.free,I.freeC,λp hp=> ?_,tracked ⟨oc,qv,I.freeC x c hc⟩ hs,by simpa using I.len⟩ ⟨c,hs,.inr hc⟩
  .exact (hs.2 b (uR (uY (Heap.lt_size e) (I.ok.cab x c ph hc)))).trans (I.base.keep b o e n hb hx)
  .obtain⟨sl,e1⟩:=I.base.slot b o e n hb hx;exact⟨sl,(hs.2 b (uR (uY (Heap.lt_size e) (I.ok.cab x c ph hc)))).trans e1⟩
  .obtain⟨o',e1⟩:=I.base.there b o e hx;exact⟨o',(hs.2 b (uR (uY (Heap.lt_size e) (I.ok.cab x c ph hc)))).trans e1⟩
  .by_cases hj:j=i
   .subst hj;rw[hi] at e1;cases e1;rw[BW hiσ] at e2;cases e2;exact⟨u,r,.inr ⟨.inl hk,c,hc,pB⟩⟩
   .rw[A2 (A9 hj)] at e2;obtain⟨u',r',q⟩:=hl j y v' e1 e2 e3;refine⟨u',r',?_⟩;rcases q with q|⟨k,c',e,z'⟩
    .exact .inl q
    .refine .inr ⟨k,c',e,z'.sameBut hs ?_⟩;rintro rfl;exact hj (zbN hN e1 (I.ok.inj _ _ _ e hc ▸ hi))
  .by_cases pA:c'=c
   .subst pA;exact⟨_,pB⟩
   .obtain⟨w2,z2⟩:=I.cell y c' e;exact⟨w2,z2.sameBut hs pA⟩
  .obtain⟨e,n,ne,nf,d⟩:=I.pin p hp;refine⟨(hs.2 p.1 ?_).trans e,n,ne,nf,d⟩;intro q;rw[q,qv] at e;have q':oc=p.2:=y8 e;exact d w' (by rw[<-q'];exact oT)
theorem zbO{A:Around}{E:qM->qN->Prop}{Q:Unit->qN->Prop}(I:Inv X pins σ H s)(hN:X.N.Nodup)(hi:X.N[i]? =iJ x)(hx:Loc X.env.scope x)(r:yq v u)
  (h:∀s',Inv X pins (σ.set i (iJ v)) H s'->Q () s') (hf:X.fn x=jD\/X.env.scope.names.lookup x=iJ .local:=by first|exact .inl rfl|exact .inr rfl|assumption):wpAny M A (storeName X.env x u) Q E s:=
 zdh I hN hi hx r (λs' I' _=>h s' I') hf
theorem Inv.call'(I:Inv X pins σ H s)(ho:s'.os=s.os)(u:Un (frs X.stack) ch H H' s.heap s'.heap)(hok:HOk X.prog X.w H' s'.heap)(hg:AllBare s'.gens)
  (kl:∀b∈ch,(b∈X.ex\/X.s₀.heap.objs.size<=b)/\b≠X.env.locals/\(∀x c,X.env.cells.lookup x=iJ c->c≠b)/\∀p∈X.pn++pins,p.1≠b):Inv X pins σ H' s':=by
 obtain⟨h',g',d',t',o'⟩:=s';have e:o'=s.os:=ho;subst e;exact I.call (g':=g') (t':=t') (d':=d') u hok hg kl
end
abbrev XK:=qM->pT qY->Hp->Prop
abbrev St:=pR (pT V)
variable{prog:PySem.Program}{A:PySem.Around}{E:PySem.Value->PySem.Shared->Prop}{X:L2.Cx}{K:uk}{pins:pR (PySem.Addr×PySem.Obj)}{σ:L2.St}{H:L2.Hp}{s:PySem.Shared}{Q:PySem.Value->PySem.Shared->Prop}{mg:PySem.Str->pT PySem.Value}
abbrev VK:=V->Hp->Prop
abbrev TE:=St->Hp->VK->Prop
abbrev TT:=St->Hp->(Bool->Hp->Prop)->Prop
abbrev TA:=St->Hp->(pR V->Hp->Prop)->Prop
structure Tu where
 nx:St->Hp->Prop
 rt:VK
 bk:St->Hp->Prop:=λ_ _=>False
 ct:St->Hp->Prop:=λ_ _=>False
abbrev TS:=Tu->St->Hp->Prop
def EP(X:Cx)(pins:pR (qY×Obj))(σ:St)(Q:VK)(u:qM)(s':qN):Prop:=∃v H',Inv X pins σ H' s'/\yq v u/\Q v H'
def TP(X:Cx)(pins:pR (qY×Obj))(σ:St)(Q:Bool->Hp->Prop)(b:Bool)(s':qN):Prop:=∃H',Inv X pins σ H' s'/\Q b H'
def AP(X:Cx)(pins:pR (qY×Obj))(σ:St)(Q:pR V->Hp->Prop)(us:pR qM)(s':qN):Prop:=∃vs H',Inv X pins σ H' s'/\yd vs us/\Q vs H'
def SP(X:Cx)(pins:pR (qY×Obj))(D:Tu)(f:Flow)(s':qN):Prop:=
 match f with
 | .next=>∃σ' H',Inv X pins σ' H' s'/\D.nx σ' H'
 | .brk=>∃σ' H',Inv X pins σ' H' s'/\D.bk σ' H'
 | .cont=>∃σ' H',Inv X pins σ' H' s'/\D.ct σ' H'
 | .ret u=>∃v σ' H',Inv X pins σ' H' s'/\yq v u/\D.rt v H'
def PE(X:Cx)(e:Expr)(t:TE):Prop:=
 ∀(pins:pR (qY×Obj)) (s:qN) (σ:St) (H:Hp) (Q:VK),Inv X pins σ H s->t σ H Q->wpAny (model X.prog X.w) X.A (eval e X.env) (EP X pins σ Q) X.xe s
def PT(X:Cx)(e:Expr)(t:TT):Prop:=
 ∀(pins:pR (qY×Obj)) (s:qN) (σ:St) (H:Hp) (Q:Bool->Hp->Prop),Inv X pins σ H s->t σ H Q->wpAny (model X.prog X.w) X.A (isTrue e X.env (eval e X.env)) (TP X pins σ Q) X.xe s
def PW(X:Cx)(e:Expr)(t:TT):Prop:=
 ∀(whole:Sem qM) (pins:pR (qY×Obj)) (s:qN) (σ:St) (H:Hp) (Q:Bool->Hp->Prop),Inv X pins σ H s->t σ H Q->wpAny (model X.prog X.w) X.A (isTrue e X.env whole) (TP X pins σ Q) X.xe s
theorem PW.pt(h:PW X e t):PT X e t:=h _
def PA(X:Cx)(es:pR Expr)(t:TA):Prop:=
 ∀(pos:Pos) (pins:pR (qY×Obj)) (s:qN) (σ:St) (H:Hp) (Q:pR V->Hp->Prop),Inv X pins σ H s->t σ H Q->wpAny (model X.prog X.w) X.A (spliced (backTo pos (starEach es X.env))) (AP X pins σ Q) X.xe s
def PS(X:Cx)(st:Stmt)(t:TS):Prop:=
 ∀(pins:pR (qY×Obj)) (s:qN) (σ:St) (H:Hp) (D:Tu),Inv X pins σ H s->t D σ H->wpAny (model X.prog X.w) X.A (exec st X.env) (SP X pins D) X.xe s
def PSs(X:Cx)(st:pR Stmt)(t:TS):Prop:=
 ∀(pins:pR (qY×Obj)) (s:qN) (σ:St) (H:Hp) (D:Tu),Inv X pins σ H s->t D σ H->wpAny (model X.prog X.w) X.A (execs st X.env) (SP X pins D) X.xe s
theorem thn{α:Type}{t:Sem α}{Q Q':α->qN->Prop}{M:Model}(h:wpAny M A t Q E s)(hQ:∀a s,Q a s->Q' a s):wpAny M A t Q' E s:=wpAny_mono h hQ λ_ _ x=>x
section
theorem bin(ha:PE X a ta)(hb:PE X b tb){R:V->V->Hp->Prop}(I:Inv X pins σ H s)(h:ta σ H λx H1=>tb σ H1 λy H2=>R x y H2)
  {α:Type} {Q:α->qN->Prop} {f:qM->qM->Sem α}
  (hf:∀v u s2 x y H2,Inv X pins σ H2 s2->yq x v->yq y u->R x y H2->wpAny (model X.prog X.w) X.A (f v u) Q X.xe s2):
  wpAny (model X.prog X.w) X.A (eval a X.env) (λv s₁=>wpAny (model X.prog X.w) X.A (eval b X.env) (λu s₂=>wpAny (model X.prog X.w) X.A (f v u) Q X.xe s₂) X.xe s₁) X.xe s:=by
 refine thn (ha pins s σ H _ I h) ?_;rintro v s1 ⟨x,H1,I1,r1,q1⟩;refine thn (hb pins s1 σ H1 _ I1 q1) ?_;rintro u s2 ⟨y,H2,I2,r2,q2⟩;exact hf v u s2 x y H2 I2 r1 r2 q2
def zlP(i:Nat):TE:=λσ H Q=>∃v,σ[i]? =iJ (iJ v)/\Q v H
def tC(v:V):TE:=λ_ H Q=>Q v H
theorem zn8(hN:X.N[i]? =iJ x)(hv:Vis X.env.scope x)(hd:(x==("__debug__":Str))=nW:=by decide)(ip:(x==("__classdict__":Str))=nW:=by decide):PE X (.Name x pos) (zlP i):=by
 intro pins s σ H Q I h;obtain⟨v,e,h⟩:=h;obtain⟨m,hn,hl⟩:=I.loc;obtain⟨u,r,l⟩:=hl i x v hN e hv;have fin:EP X pins σ Q u s:=⟨v,H,I,r,h⟩;rcases l with⟨hk,hm⟩|⟨hk,c,hc,kQ⟩
 .exact wpAny_Name (wpAny_loadName_local I.ok.kind hk hn hm fin) hd
 .rcases hk with hk|hk
  .exact wpAny_Name (wpAny_loadName_cell I.ok.kind hk hc kQ fin) hd
  .exact wpAny_Name (wpAny_loadName_free I.ok.kind hk hc kQ fin ip) hd
theorem zc{i j pos}:PE X (.Constant (.int i) j pos) (tC (.int i)):=λ_ _ _ H _ I h=>wpAny_Constant_int ⟨.int i,H,I.tok _,⟨_,rfl⟩,h⟩
theorem XA{b j pos}:PE X (.Constant (.bool b) j pos) (tC (.bl b)):=λ_ _ _ H _ I h=>Constant_bool ⟨.bl b,H,I,rfl,h⟩
theorem zjk{j pos}:PE X (.Constant .none j pos) (tC .non):=λ_ _ _ H _ I h=>Constant_none ⟨.non,H,I,rfl,h⟩
theorem ze{x j pos}:PE X (.Constant (.str x) j pos) (tC (.str x)):=λ_ _ _ H _ I h=>Calls.Constant_str ⟨.str x,H,I.tok _,⟨_,rfl⟩,h⟩
def Gl(X:Cx)(x:Str):Prop:=X.env.kindOf x=iJ .globalImplicit
theorem Uv(I:Inv X pins σ H s)(hg:Gl X x)(hm:X.mg x=iJ u)(h:Q u s)
  (hd:(x==("__debug__":Str))=nW:=by decide):wpAny (model X.prog X.w) X.A (eval (.Name x pos) X.env) Q E s:=
 Calls.Name_function_global I.ok.kind hg (Calls.loadGlobal_global (by rw[I.ok.glob];exact I.mod.glob.keeps I.bk) hm h) hd
theorem UZ(I:Inv X pins σ H s)(hg:Gl X x)(hm:X.mg x=jr)(hv:bootBuiltins x=iJ u)(h:Q u s)
  (hn:x≠"__name__":=by decide) (hd:(x==("__debug__":Str))=nW:=by decide):wpAny (model X.prog X.w) X.A (eval (.Name x pos) X.env) Q E s:=by
 obtain⟨mb,h1,h2⟩:=I.mod.blt;exact Calls.Name_function_global I.ok.kind hg (Calls.loadGlobal_builtin (by rw[I.ok.glob];exact I.mod.glob.keeps I.bk) hm (by rw[I.ok.blt];exact h1.keeps I.bk) ((h2 x hn).trans hv) h) hd
theorem yE(hg:Gl X x)(hm:X.mg x=iJ u)(r:yq v u)(hd:(x==("__debug__":Str))=nW:=by decide):PE X (.Name x pos) (tC v):=
 λ_ _ _ H _ I h=>Uv I hg hm ⟨v,H,I,r,h⟩ hd
theorem zbx(hg:Gl X x)(hm:X.mg x=jr)(hv:bootBuiltins x=iJ u)(r:yq v u)(hn:x≠"__name__":=by decide)(hd:(x==("__debug__":Str))=nW:=by decide):PE X (.Name x pos) (tC v):=
 λ_ _ _ H _ I h=>UZ I hg hm hv ⟨v,H,I,r,h⟩ hn hd
def t2I(ta tb:TE)(k:Int->Int->Hp->Prop):St->Hp->Prop:=λσ H=>ta σ H λx H1=>tb σ H1 λy H2=>∃i j,x= .int i/\y= .int j/\k i j H2
def PC(X:Cx)(op:CmpOp)(a b:Expr)(t:TE):Prop:=
 ∀(pins:pR (qY×Obj)) (s:qN) (σ:St) (H:Hp) (Q:VK),Inv X pins σ H s->t σ H Q->
  wpAny (model X.prog X.w) X.A (eval a X.env) (λv s₁=>wpAny (model X.prog X.w) X.A (eval b X.env) (λu s₂=>wpAny (model X.prog X.w) X.A (compareOp op v u) (EP X pins σ Q) X.xe s₂) X.xe s₁) X.xe s
theorem zeO(b:Expr)(h:op≠ .In)(h2:op≠ .NotIn):behindInMarks op b=nW:=by
 have e1:(op==CmpOp.In)=nW:=by cases op<;>first|rfl|exact absurd rfl h
 have e2:(op==CmpOp.NotIn)=nW:=by cases op<;>first|rfl|exact absurd rfl h2
 cases b<;>simp[behindInMarks,e1,e2]
def zeP(p:Int->Int->Bool)(ta tb:TE):TE:=λσ H Q=>t2I ta tb (λi j H2=>Q (.bl (p i j)) H2) σ H
noncomputable abbrev tLt:TE->TE->TE:=zeP λi j=>decide (i<j)
noncomputable abbrev tLe:TE->TE->TE:=zeP λi j=>decide (i<=j)
noncomputable abbrev tGt:TE->TE->TE:=zeP λi j=>decide (j<i)
noncomputable abbrev tGe:TE->TE->TE:=zeP λi j=>decide (j<=i)
noncomputable abbrev zpO:TE->TE->TE:=zeP λi j=>decide (i=j)
noncomputable abbrev zpP:TE->TE->TE:=zeP λi j=> !decide (i=j)
theorem zbP{p:Int->Int->Bool}(ha:PE X a ta)(hb:PE X b tb)
  (rule:∀(i j:Int) (t u:Tok) (Q:qM->qN->Prop) (s:qN),Q (.bool (p i j)) s->wpAny (model X.prog X.w) X.A (compareOp op (.int i t) (.int j u)) Q X.xe s):PC X op a b (zeP p ta tb):=by
 intro pins s σ H Q I h;refine bin ha hb I h λv u s2 x y H2 I2 rx ry q=> ?_;obtain⟨i,j,rfl,rfl,q⟩:=q;obtain⟨t,rfl⟩:=rx;obtain⟨t',rfl⟩:=ry;exact rule i j t t' _ s2 ⟨.bl _,H2,I2,rfl,q⟩
theorem zdi(ha:PE X a ta)(hb:PE X b tb):PC X .Lt a b (tLt ta tb):=zbP ha hb λ_ _ _ _ _ _ h=>lt_int h
theorem zjl(ha:PE X a ta)(hb:PE X b tb):PC X .LtE a b (tLe ta tb):=zbP ha hb λ_ _ _ _ _ _ h=>le_int h
theorem ZX(ha:PE X a ta)(hb:PE X b tb):PC X .Gt a b (tGt ta tb):=zbP ha hb λ_ _ _ _ _ _ h=>gt_int h
theorem xt(ha:PE X a ta)(hb:PE X b tb):PC X .Eq a b (zpO ta tb):=zbP ha hb λ_ _ _ _ _ _ h=>eq_int (by rw[D4];exact h)
theorem zay(ha:PE X a ta)(hb:PE X b tb):PC X .NotEq a b (zpP ta tb):=zbP ha hb λ_ _ _ _ _ _ h=>ne_int (by rw[bne,D4];exact h)
def zpQ(ta:TE):TE:=λσ H Q=>ta σ H λx H1=>Q (.bl (decide (x= .non))) H1
def znp(ta:TE):TE:=λσ H Q=>ta σ H λx H1=>Q (.bl (!decide (x= .non))) H1
theorem yq.none_iff(r:yq x v):(v==Value.none)=decide (x= .non):=by
 cases x with
 |non=>cases r;rfl
 |bl _=>cases r;rfl
 |int _=>obtain⟨t,rfl⟩:=r;rfl
 |str _=>obtain⟨t,rfl⟩:=r;rfl
 |byt _=>obtain⟨t,rfl⟩:=r;rfl
 |flt _=>obtain⟨t,rfl⟩:=r;rfl
 |ref _=>cases r;rfl
 |ty _=>cases r;rfl
theorem zn9{j pos'}(ha:PE X a ta):PC X .Is a (.Constant .none j pos') (zpQ ta):=by
 intro pins s σ H Q I h;refine thn (ha pins s σ H _ I h) ?_;rintro v s1 ⟨x,H1,I1,r1,q1⟩;exact Constant_none (is_none_gen ⟨.bl _,H1,I1,by rw[r1.none_iff];rfl,q1⟩)
theorem zlQ{j pos'}(ha:PE X a ta):PC X .IsNot a (.Constant .none j pos') (znp ta):=by
 intro pins s σ H Q I h;refine thn (ha pins s σ H _ I h) ?_;rintro v s1 ⟨x,H1,I1,r1,q1⟩;exact Constant_none (isnot_none_gen ⟨.bl _,H1,I1,by rw[r1.none_iff];rfl,q1⟩)
def tB(t:TE):TT:=λσ H Q=>t σ H λx H1=>∃c,x= .bl c/\Q c H1
theorem Ta(h:PC X op a b t)(h1:behindInMarks op b=nW:=by first|exact zeO _ ∅ ∅|rfl):PE X (.Compare a [op] [b] pos) t:=λpins s σ H Q I hw=>wpAny_Compare1 (h pins s σ H Q I hw) h1
theorem zW(h:PC X op a b t)(h1:behindInMarks op b=nW:=by first|exact zeO _ ∅ ∅|rfl):PT X (.Compare a [op] [b] pos) (tB t):=by
 intro pins s σ H Q I hw;refine wpAny_isTrue_Compare1 (thn (h pins s σ H _ I hw) λv s1 h1=>thn h1 λu s2 h2=>thn h2 ?_) h1;rintro c s3 ⟨x,H1,I1,r1,q1⟩;obtain⟨d,rfl,q⟩:=q1;cases r1;exact wpAny_truthy_bool ⟨H1,I1,q⟩
theorem vG(h:PE X e t)(he:∀whole,isTrue e X.env whole=(do let v <-whole;standAt e.pos;holding [v] (truthy v)):=by intro _;rfl):PT X e (tB t):=by
 intro pins s σ H Q I hw;refine isTrue_plain (thn (h pins s σ H _ I hw) ?_) (he _);rintro v s1 ⟨x,H1,I1,r1,q1⟩;obtain⟨d,rfl,q⟩:=q1;cases r1;exact wpAny_truthy_bool ⟨H1,I1,q⟩
def zpR(t u:TT):TT:=λσ H Q=>t σ H λc H1=>if c=jD then u σ H1 Q else Q nW H1
def tOr(t u:TT):TT:=λσ H Q=>t σ H λc H1=>if c=jD then Q jD H1 else u σ H1 Q
def zpS(t:TT):TT:=λσ H Q=>t σ H λc H1=>Q (!c) H1
theorem vp(ha:PT X a tA):PW X (.BoolOp .And [a] pos) tA:=by
 intro wh pins s σ H Q I h;refine isTrue_and (thn (ha pins s σ H Q I h) λc s1 e=> ?_);cases c with
 |true=>exact isTrue_and_nil e
 |false=>exact e
theorem XS(ha:PT X a tA):PW X (.BoolOp .Or [a] pos) tA:=by
 intro wh pins s σ H Q I h;refine isTrue_or (thn (ha pins s σ H Q I h) λc s1 e=> ?_);cases c with
 |false=>exact isTrue_or_nil e
 |true=>exact e
theorem Yi(ha:PT X a tA)(hb:PW X (.BoolOp .And (b::rest) pos) tB'):PW X (.BoolOp .And (a::b::rest) pos) (zpR tA tB'):=by
 intro wh pins s σ H Q I h;refine isTrue_and (thn (ha pins s σ H _ I h) ?_);rintro c s1 ⟨H1,I1,q1⟩;cases c with
 |true=>exact hb wh pins s1 σ H1 Q I1 q1
 |false=>exact⟨H1,I1,q1⟩
theorem UO(ha:PT X a tA)(hb:PW X (.BoolOp .Or (b::rest) pos) tB'):PW X (.BoolOp .Or (a::b::rest) pos) (tOr tA tB'):=by
 intro wh pins s σ H Q I h;refine isTrue_or (thn (ha pins s σ H _ I h) ?_);rintro c s1 ⟨H1,I1,q1⟩;cases c with
 |true=>exact⟨H1,I1,q1⟩
 |false=>exact hb wh pins s1 σ H1 Q I1 q1
theorem vO(ha:PT X a tA):PT X (.UnaryOp .Not a pos) (zpS tA):=by
 intro pins s σ H Q I h;exact isTrue_not (ha pins s σ H (λc H1=>Q (!c) H1) I h)
def znq(ta tb:TE):TE:=λσ H Q=>ta σ H λx H1=>∃c,x= .bl c/\if c=jD then tb σ H1 Q else Q (.bl nW) H1
def zpT(ta tb:TE):TE:=λσ H Q=>ta σ H λx H1=>∃c,x= .bl c/\if c=jD then Q (.bl jD) H1 else tb σ H1 Q
def znr(ta:TE):TE:=λσ H Q=>ta σ H λx H1=>∃c,x= .bl c/\Q (.bl (!c)) H1
theorem zaA{op}(h:PE X a t):PE X (.BoolOp op [a] pos) t:=λpins s σ H Q I hw=>BoolOp_one (h pins s σ H Q I hw)
theorem zaB(ha:PE X a ta)(hb:PE X (.BoolOp .And (b::rest) pos) tb):PE X (.BoolOp .And (a::b::rest) pos) (znq ta tb):=by
 intro pins s σ H Q I h;refine BoolOp_and (thn (ha pins s σ H _ I h) ?_);rintro v s1 ⟨x,H1,I1,r1,q1⟩;obtain⟨c,rfl,q1⟩:=q1;cases r1;refine wpAny_truthy_bool ?_;cases c with
 |true=>exact hb pins s1 σ H1 Q I1 q1
 |false=>exact⟨.bl nW,H1,I1,rfl,q1⟩
theorem zpU(ha:PE X a ta)(hb:PE X (.BoolOp .Or (b::rest) pos) tb):PE X (.BoolOp .Or (a::b::rest) pos) (zpT ta tb):=by
 intro pins s σ H Q I h;refine BoolOp_or (thn (ha pins s σ H _ I h) ?_);rintro v s1 ⟨x,H1,I1,r1,q1⟩;obtain⟨c,rfl,q1⟩:=q1;cases r1;refine wpAny_truthy_bool ?_;cases c with
 |false=>exact hb pins s1 σ H1 Q I1 q1
 |true=>exact⟨.bl jD,H1,I1,rfl,q1⟩
theorem zjm(ha:PE X a ta):PE X (.UnaryOp .Not a pos) (znr ta):=by
 intro pins s σ H Q I h;refine UnaryOp_ (thn (ha pins s σ H _ I h) ?_);rintro v s1 ⟨x,H1,I1,r1,q1⟩;obtain⟨c,rfl,q1⟩:=q1;cases r1;exact not_of (wpAny_truthy_bool ⟨.bl (!c),H1,I1,rfl,q1⟩)
end
def SqL(K:uk)(H:Hp)(a:qY)(xs:pR V):Prop:=
 Rd H a (.lst xs)\/
  ∃(o:Obj) (ag:Array qM) (n:Nat),K.lookup a=iJ o/\o.cls= .type "list"/\o.dict=jr/\o.data= .seq ag n/\ag.size<=sizeLine/\yd xs ag.toList
def SqT(K:uk)(H:Hp)(a:qY)(xs:pR V):Prop:=
 Rd H a (.tup xs)\/
  ∃(o:Obj) (ag:Array qM) (n:Nat),K.lookup a=iJ o/\o.cls= .type "tuple"/\o.data= .seq ag n/\ag.size<=sizeLine/\yd xs ag.toList
def SqX(K:uk)(H:Hp)(a:qY)(xs:pR V):Prop:=
 Rd H a (.lst xs)\/∃(ag:Array qM) (n:Nat),K.lookup a=iJ {cls:= .type "list",data:= .seq ag n}/\ag.size<=sizeLine/\yd xs ag.toList
theorem SqX.sql{K:uk}{H:Hp}{a:qY}{xs:pR V}(h:SqX K H a xs):SqL K H a xs:=by
 rcases h with h|⟨ag,n,hk,hz,r⟩
 .exact .inl h
 .exact .inr ⟨_,ag,n,hk,rfl,rfl,rfl,hz,r⟩
theorem SqX.of{a:qY}{xs:pR V}(h:H a=iJ (.lst xs)):SqX K H a xs:= .inl (.inl h)
noncomputable def zq7:qM->pT V
 | .none=>iJ .non
 | .bool b=>iJ (.bl b)
 | .int i _=>iJ (.int i)
 | .str x _=>iJ (.str x)
 | .bytes b _=>iJ (.byt b)
 | .float b _=>iJ (.flt b)
 | .ref a=>iJ (.ref a)
 | .type n=>iJ (.ty n)
 |_=>jr
theorem yq.abs(r:yq x u):zq7 u=iJ x:=by
 cases x with
 |non=>cases r;rfl
 |bl _=>cases r;rfl
 |int _=>obtain⟨t,rfl⟩:=r;rfl
 |str _=>obtain⟨t,rfl⟩:=r;rfl
 |byt _=>obtain⟨t,rfl⟩:=r;rfl
 |flt _=>obtain⟨t,rfl⟩:=r;rfl
 |ref _=>cases r;rfl
 |ty _=>cases r;rfl
theorem yq.inj(r:yq x u)(q:yq y u):x=y:=y8 (r.abs.symm.trans q.abs)
theorem yd.inj{xs ys:pR V}{us:pR qM}(h:yd xs us)(g:yd ys us):xs=ys:=by
 induction h generalizing ys with
 |nil=>cases g;rfl
 |cons r t k=>cases g with|cons q u=>rw[r.inj q,k u]
section
theorem SqT.of(h:H a=iJ (.tup xs)):SqT K H a xs:= .inl (.inl h)
theorem Inv.list(I:Inv X pins σ H s)(h:SqL X.K H a xs):∃ag:pR qM,yd xs ag/\PlainL s.heap a ag.toArray/\xs.length<=sizeLine:=by
 rcases h with h|⟨o,ag,n,hk,hc,hd,hs,hz,r⟩
 .obtain⟨z,ag,n,r,e⟩:=h.ok I.hok;exact⟨ag,r,⟨_,n,e,rfl,rfl,rfl⟩,z⟩
 .refine⟨ag.toList,r,⟨o,n,I.kIn a o hk,hc,hd,by simpa using hs⟩,?_⟩;have e:=r.length;simp only[Bz] at e;omega
theorem Inv.tuple(I:Inv X pins σ H s)(h:SqT X.K H a xs):∃ag:pR qM,yd xs ag/\IsTup s.heap a ag.toArray/\xs.length<=sizeLine:=by
 rcases h with h|⟨o,ag,n,hk,hc,hs,hz,r⟩
 .obtain⟨z,ag,r,p⟩:=h.ok I.hok;exact⟨ag,r,p.tup,z⟩
 .refine⟨ag.toList,r,⟨o,I.kIn a o hk,hc,n,by simpa using hs⟩,?_⟩;have e:=r.length;simp only[Bz] at e;omega
theorem Inv.list_inj(I:Inv X pins σ H s)(h:SqL X.K H a xs)(h':SqL X.K H a ys):xs=ys:=by
 obtain⟨ag,r,⟨o,n,e,_,_,d⟩,_⟩:=I.list h;obtain⟨its',r',⟨o',n',e',_,_,d'⟩,_⟩:=I.list h';rw[e] at e';cases e';rw[d] at d';injection d' with d1 _
 have:ag=its':=by simpa using congrArg Ei d1
 subst this;exact r.inj r'
theorem Inv.tuple_inj(I:Inv X pins σ H s)(h:SqT X.K H a xs)(h':SqT X.K H a ys):xs=ys:=by
 obtain⟨ag,r,⟨o,e,_,n,d⟩,_⟩:=I.tuple h;obtain⟨its',r',⟨o',e',_,n',d'⟩,_⟩:=I.tuple h';rw[e] at e';cases e';rw[d] at d';injection d' with d1 _
 have:ag=its':=by simpa using congrArg Ei d1
 subst this;exact r.inj r'
end
noncomputable abbrev Cx.wish(X:Cx)(E:qM->qN->Prop):Cx:={X with xe:=E}
noncomputable abbrev Cx.nox(X:Cx):Cx:=X.wish λ_ _=>False
theorem Cx.Ok.wish(ok:X.Ok)(E:qM->qN->Prop):(X.wish E).Ok:=
 ⟨ok.mod,ok.kind,ok.glob,ok.blt,ok.above,ok.inj,ok.has,ok.cab,ok.hd,ok.frames,ok.stk,ok.exf,ok.bs,ok.bsz,ok.noex,ok.exfs,ok.funs,ok.frf⟩
theorem Cx.Ok.unwish(ok:(X.wish E).Ok):X.Ok:=
 ⟨ok.mod,ok.kind,ok.glob,ok.blt,ok.above,ok.inj,ok.has,ok.cab,ok.hd,ok.frames,ok.stk,ok.exf,ok.bs,ok.bsz,ok.noex,ok.exfs,ok.funs,ok.frf⟩
theorem Inv.wish(I:Inv X pins σ H s)(E:qM->qN->Prop):Inv (X.wish E) pins σ H s:=⟨I.ok.wish E,I.os,I.bare,I.base,I.loc,I.cell,I.free,I.freeC,I.pin,I.hok,I.len⟩
theorem Inv.unwish(I:Inv (X.wish E) pins σ H s):Inv X pins σ H s:=⟨I.ok.unwish,I.os,I.bare,I.base,I.loc,I.cell,I.free,I.freeC,I.pin,I.hok,I.len⟩
section
variable{st:Stmt}{rest:pR Stmt}{t u:TS}{e:Expr}{te:TE}{pos:Pos}
def zns:TS:=λD σ H=>D.nx σ H
def zpV(t u:TS):TS:=λD σ H=>t {D with nx:=u D} σ H
theorem zu:PSs X [] zns:=λ_ _ σ H _ I h=>wpAny_execs_nil ⟨σ,H,I,h⟩
theorem zjn(h1:PS X st t)(h2:PSs X rest u):PSs X (st::rest) (zpV t u):=by
 intro pins s σ H D I h;refine wpAny_execs_cons (thn (h1 pins s σ H {D with nx:=u D} I h) λf s1 q=> ?_);cases f with
 |next=>
  obtain⟨σ',H',I',q⟩:=q;exact h2 pins s1 σ' H' D I' q
 |ret v=>exact q
 |brk=>exact q
 |cont=>exact q
theorem zlR(h1:PS X st t):PSs X [st] t:=by
 intro pins s σ H D I h;refine wpAny_execs_cons (thn (h1 pins s σ H D I h) λf s1 q=> ?_);cases f with
 |next=>exact wpAny_execs_nil q
 |ret v=>exact q
 |brk=>exact q
 |cont=>exact q
theorem Inv.quiet(I:Inv X pins σ H s):interactive X.env=nW:=by simp[interactive,I.ok.kind]
def znt(te:TE):TS:=λD σ H=>te σ H λ_ H1=>D.nx σ H1
theorem yU(he:PE X e te)(hs:swapsWith e jr pos.line X.env=pure nW:=by rfl):PS X (.Expr e pos) (znt te):=by
 intro pins s σ H D I h;refine wpAny_Expr_any (thn (he pins s σ H _ I h) ?_) I.quiet hs;rintro v s1 ⟨x,H1,I1,r1,q1⟩;exact⟨σ,H1,I1,q1⟩
def zpW(te:TE):TS:=λD σ H=>te σ H D.rt
theorem zoa(he:PE X e te):PS X (.Return (iJ e) pos) (zpW te):=by
 intro pins s σ H D I h;refine wpAny_Return_some (thn (he pins s σ H _ I h) ?_);rintro v s1 ⟨x,H1,I1,r1,q1⟩;exact⟨x,σ,H1,I1,r1,q1⟩
def zpX(c:TT)(t u:TS):TS:=λD σ H=>c σ H λb H1=>if b=jD then t D σ H1 else u D σ H1
theorem zM(hc:PT X c tc)(ha:PSs X a t)(hb:PSs X b u):PS X (.If c a b pos) (zpX tc t u):=by
 intro pins s σ H D I h;refine wpAny_If (thn (hc pins s σ H _ I h) ?_);rintro d s1 ⟨H1,I1,q1⟩;cases d with
 |true=>exact ha pins s1 σ H1 D I1 q1
 |false=>exact hb pins s1 σ H1 D I1 q1
def zob:TS:=λ_ _ _=>False
theorem vf:PS X st zob:=λ_ _ _ _ _ _ h=>h.elim
end
abbrev TG:=V->St->Hp->(St->Hp->Prop)->Prop
abbrev TGs:=pR V->St->Hp->(St->Hp->Prop)->Prop
def PG(X:Cx)(target:Expr)(t:TG):Prop:=
 ∀(pins:pR (qY×Obj)) (s:qN) (σ:St) (H:Hp) (v:V) (u:qM) (Q:St->Hp->Prop),Inv X pins σ H s->yq v u->t v σ H Q->
  wpAny (model X.prog X.w) X.A (assign target X.env u) (λ_ s'=>∃σ' H',Inv X pins σ' H' s'/\Q σ' H') X.xe s
def PGs(X:Cx)(ts:pR Expr)(t:TGs):Prop:=
 ∀(pins:pR (qY×Obj)) (s:qN) (σ:St) (H:Hp) (vs:pR V) (us:pR qM) (Q:St->Hp->Prop),Inv X pins σ H s->yd vs us->t vs σ H Q->
  wpAny (model X.prog X.w) X.A (assignInOrder ((assignEach ts X.env).map (·.2)) us) (λ_ s'=>∃σ' H',Inv X pins σ' H' s'/\Q σ' H') X.xe s
abbrev zoc:=V->V->V->Hp->(Hp->Prop)->Prop
def zpY(X:Cx)(t:zoc):Prop:=
 ∀(pins:pR (qY×Obj)) (s:qN) (σ:St) (H:Hp) (o i v:V) (ov iv u:qM) (Q:Hp->Prop),Inv X pins σ H s->yq o ov->yq i iv->yq v u->t o i v H Q->
  wpAny (model X.prog X.w) X.A (setItem ov iv u) (λ_ s'=>∃H',Inv X pins σ H' s'/\Q H') X.xe s
abbrev TIp:=V->V->Hp->VK->Prop
section
variable{pos:Pos}
def zhe(i:Nat):TG:=λv σ H Q=>Q (σ.set i (iJ v)) H
theorem zO(hN:X.N.Nodup)(hi:X.N[i]? =iJ x)(hx:Loc X.env.scope x)(hf:X.fn x=jD\/X.env.scope.names.lookup x=iJ .local:=by first|exact .inl rfl|exact .inr rfl|assumption):PG X (.Name x pos) (zhe i):=by
 intro pins s σ H v u Q I r h;exact wpAny_assign_Name (zbO I hN hi hx r (λs' I'=>⟨_,H,I',h⟩) hf)
def zpZ:TGs:=λvs σ H Q=>vs=[]/\Q σ H
def znu(t:TG)(u:TGs):TGs:=λvs σ H Q=>∃v r,vs=v::r/\t v σ H λσ' H'=>u r σ' H' Q
theorem Yv:PGs X [] zpZ:=by
 intro pins s σ H vs us Q I r h;obtain⟨e,h⟩:=h;subst e;cases r;exact assignInOrder_nil ⟨σ,H,I,h⟩
theorem yV(h1:PG X e t)(h2:PGs X es u)
  (hs:(assignEach (e::es) X.env).map (·.2)=assign e X.env::(assignEach es X.env).map (·.2):=by rfl):PGs X (e::es) (znu t u):=by
 intro pins s σ H vs us Q I r h;obtain⟨v,vr,e1,h⟩:=h;subst e1;cases r with
 |cons r rr=>
  rw[hs];refine assignInOrder_cons (thn (h1 pins s σ H _ _ _ I r h) ?_);rintro _ s1 ⟨σ1,H1,I1,q1⟩;exact h2 pins s1 σ1 H1 _ _ Q I1 rr q1
def zod(K:uk)(n:Nat)(t:TGs):TG:=λv σ H Q=>∃a xs,v= .ref a/\SqT K H a xs/\xs.length=n/\t xs σ H Q
theorem zoe(hc:X.calm=jD)(h:PGs X es t)
  (hn:(assignEach es X.env).length=n:=by rfl) (gL:(assignEach es X.env).findIdx? (·.1)=jr:=by rfl):PG X (.Tuple es k pos) (zod X.K n t):=by
 intro pins s σ H v u Q I r hw;obtain⟨a,xs,e1,hq,hl,hw⟩:=hw;subst e1;cases r;obtain⟨ag,rv,ht,hz⟩:=I.tuple hq;refine assign_Tuple_tuple (I.ok.hd hc) ht (by simp[hn,<-hl,rv.length]) gL λh' hx=> ?_;have I1:Inv X pins σ H {s with heap:=h'}:=I.kept (t':=s.toks) λb o e=>hx b o (uR (Heap.lt_size e)) e;exact h pins _ σ H xs _ Q I1 (by simpa using rv) hw
def zp0(to ti:TE)(t:zoc):TG:=λv σ H Q=>to σ H λo H1=>ti σ H1 λi H2=>t o i v H2 λH3=>Q σ H3
theorem zjo(ho:PE X o to)(hi:PE X i ti)(hs:zpY X t)
  (ha:∀v,assign (.Subscript o i pos) X.env v=(do
   let ov <-holding [v] (eval o X.env)
   let iv <-holding [v,ov] (eval i X.env)
   standAt pos
   holding [v,ov,iv] (setItem ov iv v)
   release [v,ov,iv] []):=by intro _;rfl):PG X (.Subscript o i pos) (zp0 to ti t):=by
 intro pins s σ H v u Q I r h;rw[ha];refine wpAny_bind (wpAny_holding (thn (ho pins s σ H _ I h) ?_));rintro ov s1 ⟨x,H1,I1,r1,q1⟩;refine wpAny_bind (wpAny_holding (thn (hi pins s1 σ H1 _ I1 q1) ?_));rintro iv s2 ⟨y,H2,I2,r2,q2⟩;refine wpAny_bind (wpAny_standAt (wpAny_bind (wpAny_holding (thn (hs pins s2 σ H2 x y v ov iv u _ I2 r1 r2 r q2) ?_))));rintro _ s3 ⟨H3,I3,q3⟩;exact wpAny_release ⟨σ,H3,I3,q3⟩
def zof(te:TE)(g:TG):TS:=λD σ H=>te σ H λx H1=>g x σ H1 D.nx
theorem XT(he:PE X e te)(hg:PG X tg g)(hs:swapsWithSole [tg] e pos.line X.env=pure nW:=by rfl)(hw:swappedStores [tg] e X.env=pure jr:=by rfl)
  (h1:(assignEach [tg] X.env).map (·.2)=[assign tg X.env]:=by rfl):PS X (.Assign [tg] e pos) (zof te g):=by
 intro pins s σ H D I h;refine wpAny_Assign_stores (thn (he pins s σ H _ I h) ?_) hs hw;rintro v s1 ⟨x,H1,I1,r1,q1⟩;rw[h1];exact thn (hg pins s1 σ H1 x v _ I1 r1 q1) λ_ s2 q=>q
theorem zog(hN:X.N.Nodup)(hi:X.N[i]? =iJ x)(hx:Loc X.env.scope x)(he:PE X e te)(hs:swapsWith e (iJ (.Name x pos')) pos.line X.env=pure nW:=by rfl)(hf:X.fn x=jD\/X.env.scope.names.lookup x=iJ .local:=by first|exact .inl rfl|exact .inr rfl|assumption):
  PS X (.Assign [.Name x pos'] e pos) (zof te (zhe i)):=by
 intro pins s σ H D I h;refine wpAny_Assign_Name (thn (he pins s σ H _ I h) ?_) hs;rintro v s1 ⟨y,H1,I1,r1,q1⟩;exact zbO I1 hN hi hx r1 (λs2 I2=>⟨_,H1,I2,q1⟩) hf
def zjp(c:TT)(tb:TS):TS:=λD σ H=>∃W:Nat->St->Hp->Prop,(∃m,W m σ H)/\∀m σ H,W m σ H->
 c σ H λb H1=>if b=jD then ∃N:St->Hp->Prop,(∀σ' H',N σ' H'->∃m',m'<m/\W m' σ' H')/\tb {D with nx:=N,ct:=N,bk:=D.nx} σ H1 else D.nx σ H1
theorem YW(hp:PassesOwn (model X.prog X.w) X.A X.env X.xe)(hc:PT X c tc)(hb:PSs X body tb):PS X (.While c body [] pos) (zjp tc tb):=by
 intro pins s σ H D I h;obtain⟨W,⟨m0,w0⟩,turn⟩:=h;refine wpAny_While (codeAny_whileLoop (λn s'=>∃σ' H',Inv X pins σ' H' s'/\W n σ' H') ?_ m0 ⟨σ,H,I,w0⟩);rintro n s1 ⟨σ1,H1,I1,w1⟩;refine wpAny_passesOwn hp (thn (hc pins s1 σ1 H1 _ I1 (turn n σ1 H1 w1)) ?_);rintro b s2 ⟨H2,I2,q2⟩;cases b with
 |true=>
  obtain⟨N,hN,q2⟩:=q2;rw[if_pos rfl];refine wpAny_passesOwn hp (thn (hb pins s2 σ1 H2 _ I2 q2) λf s3 q3=> ?_);cases f with
  |next=>
   obtain⟨σ3,H3,I3,n3⟩:=q3;obtain⟨m',hm,w3⟩:=hN σ3 H3 n3;exact⟨m',hm,σ3,H3,I3,w3⟩
  |cont=>
   obtain⟨σ3,H3,I3,n3⟩:=q3;obtain⟨m',hm,w3⟩:=hN σ3 H3 n3;exact⟨m',hm,σ3,H3,I3,w3⟩
  |brk=>exact q3
  |ret v=>exact q3
 |false=>
  rw[if_neg uQ];exact wpAny_execs_nil ⟨σ1,H2,I2,q2⟩
end
structure It where
 go:Nat->Hp->Prop
 yld:Nat->Hp->V->Hp->Prop
 stop:Nat->Hp->Prop
def zeQ(X:Cx)(pins:pR (qY×Obj))(H:Hp)(b:qY):Prop:=
 H b=jr/\b≠X.env.locals/\b∉X.fs/\(b∈X.ex\/X.s₀.heap.objs.size<=b)/\(∀x c,X.env.cells.lookup x=iJ c->c≠b)/\∀p∈X.pn++pins,p.1≠b
theorem Inv.fpOk(I:Inv X pins σ H s)(hb:s.heap.objs.size<=b)(hn:H' b=jr):zeQ X pins H' b:=by
 refine⟨hn,Dm (uY I.lt hb),I.nofs hb,.inr (v5 I.sz hb),λx c e z=> ?_,λp hp z=> ?_⟩
 .obtain⟨v,q⟩:=I.cell x c e;exact absurd (uY q.lt (by rw[z];exact hb)) (Ad _)
 .exact absurd (uY (Heap.lt_size (I.pin p hp).1) (by rw[z];exact hb)) (Ad _)
structure zjq(P:Program)(w:World)(K:uk)(tg:Expr)(J:It)(fp:pR qY)(it:qY)(tn:Nat->Heap->Prop):Prop where
 mem:it∈fp
 obj:∀i h,tn i h->∀b∈fp,∃o,h.get? b=iJ o/\∀v,o.data≠ .cell v
 keep:∀i h h',tn i h->(∀b∈fp,∀o,h.get? b=iJ o->h'.get? b=iJ o)->tn i h'
 item:∀(X:Cx),X.prog=P->X.w=w->X.K=K->X.calm=jD->∀(i:Nat) (pins:pR (qY×Obj)) (s:qN) (σ:St) (H:Hp) (E:qM->qN->Prop),Inv X pins σ H s->(∀b∈fp,zeQ X pins H b)->tn i s.heap->J.go i H->
  wpAny (model P w) X.A (pyNext (.ref it)) (λr s1=>∃u,r=iJ u/\
   wpAny (model P w) X.A (letOwnedTupleGo tg (.ref it) u) (λ_ s2=>∃x H',Inv X pins σ H' s2/\yq x u/\J.yld i H x H'/\tn (i+1) s2.heap/\∀b∈fp,H' b=jr) E s1) E s
 done:∀(X:Cx),X.prog=P->X.w=w->X.K=K->X.calm=jD->∀(i:Nat) (pins:pR (qY×Obj)) (s:qN) (σ:St) (H:Hp) (E:qM->qN->Prop),Inv X pins σ H s->(∀b∈fp,zeQ X pins H b)->tn i s.heap->J.stop i H->
  wpAny (model P w) X.A (pyNext (.ref it)) (λr s1=>r=jr/\Inv X pins σ H s1) E s
 self:∀(A:Around) (i:Nat) (s:qN) (Q:qM->qN->Prop) (E:qM->qN->Prop),tn i s.heap->Q (.ref it) s->wpAny (model P w) A (pyIter (.ref it)) Q E s
abbrev TI:=St->Hp->(It->Hp->Prop)->Prop
def PIE(X:Cx)(pins:pR (qY×Obj))(σ:St)(tg:Expr)(R:It->Hp->Prop)(og:qM)(s2:qN):Prop:=
 ∃(it:qY) (fp:pR qY) (tn:Nat->Heap->Prop) (J:It) (H':Hp),og= .ref it/\Inv X pins σ H' s2/\zjq X.prog X.w X.K tg J fp it tn/\tn 0 s2.heap/\(∀b∈fp,zeQ X pins H' b)/\R J H'
def PI(X:Cx)(tg iter:Expr)(wi:TI):Prop:=
 ∀(pins:pR (qY×Obj)) (s:qN) (σ:St) (H:Hp) (R:It->Hp->Prop),Inv X pins σ H s->wi σ H R->
  wpAny (model X.prog X.w) X.A (eval iter X.env) (λv s1=>wpAny (model X.prog X.w) X.A (pyIter v) (PIE X pins σ tg R) X.xe s1) X.xe s
theorem zhf{Q:Unit->qN->Prop}(ho:s.heap.get? it=iJ o)(hc:o.cls= .type n)(hd:o.data= .fields vs)
    (hn:["enumerate","zip","dict_itemiterator","dict_reverseitemiterator","odict_iterator","itertools.zip_longest","itertools.pairwise"].contains n=nW) (hQ:Q () s):wpAny M A (letOwnedTupleGo tg (.ref it) u) Q E s:=by
  unfold letOwnedTupleGo;cases tg<;>first
    |exact wpAny_pure hQ
    | (cases u <;> first
        |exact wpAny_pure hQ
        | (refine wpAny_bind (wpAny_load ho ?_)
           rw[hc,hd];show wpAny M A (if (["enumerate","zip","dict_itemiterator","dict_reverseitemiterator","odict_iterator","itertools.zip_longest","itertools.pairwise"].contains n&&vs[0]? ==iJ (rawInt _))=jD then _ else _) Q E s;rw[if_neg (by intro h;rw[hn,Ah] at h;cases h)]
           exact wpAny_pure hQ))
noncomputable def Itl(K:uk)(a:qY):It:=
 ⟨λi H=>∃xs x,SqL K H a xs/\xs[i]? =iJ x,λi H x H'=>H'=H/\∀xs,SqL K H a xs->xs[i]? =iJ x,λi H=>∃xs,SqL K H a xs/\xs.length<=i⟩
noncomputable def Itt(K:uk)(a:qY):It:=
 ⟨λi H=>∃xs x,SqT K H a xs/\xs[i]? =iJ x,λi H x H'=>H'=H/\∀xs,SqT K H a xs->xs[i]? =iJ x,λi H=>∃xs,SqT K H a xs/\xs.length<=i⟩
noncomputable def Itr(lo:Int)(n:Nat):It:=⟨λi _=>i<n,λi H x H'=>H'=H/\x= .int (lo+i),λi _=>n<=i⟩
theorem zdj{P:Program}{w:World}{tg:Expr}(a it:qY):zjq P w K tg (Itl K a) [it] it (λi h=>h.IsListIter it a i) where
 mem:=by simp
 obj:=λi h st b hb=>by
  have e:b=it:=by simpa using hb
  subst e;obtain⟨o,e,c,d⟩:=st;exact⟨o,e,λv z=>by rw[d] at z;cases z⟩
 keep:=λi h h' st k=>st.at λo e=>k it (by simp) o e
 item:=by
  intro X hP hw hK hc i pins s σ H E I hf st hg;subst hP hw hK;obtain⟨xs,x,hq,hx⟩:=hg;obtain⟨ag,rv,p,hz⟩:=I.list hq;obtain⟨u,hu,ru⟩:=rv.get hx;obtain⟨f0,f1,f2,f3,f4,f5⟩:=hf it (by simp);refine wpAny_pyNext_list_item st p.isList (x:=u) (by simpa using hu) λh' st' sb=> ?_;have I1:Inv X pins σ H {s with heap:=h'}:=I.turned (t':=s.toks) (λb o hb e=>(sb.2 b hb).trans e) f0 f1 f3 f4 f5;obtain⟨o,e,c,d⟩:=id st';exact⟨u,rfl,zhf (s:={s with heap:=h'}) e c d ∅ ⟨x,H,I1,ru,⟨rfl,λys hy=>by rw[I.list_inj hy hq];exact hx⟩,st',λb hb=>(hf b hb).1⟩⟩
 done:=by
  intro X hP hw hK hc i pins s σ H E I hf st hg;subst hP hw hK;obtain⟨xs,hq,hx⟩:=hg;obtain⟨ag,rv,p,hz⟩:=I.list hq;obtain⟨f0,f1,f2,f3,f4,f5⟩:=hf it (by simp);have hl:=rv.length;exact wpAny_pyNext_list_end (I.ok.hd hc) st p.isList (by simp;omega) λh' eb=>⟨rfl,I.turned (t':=s.toks) (λb o hb e=>eb b o hb e) f0 f1 f3 f4 f5⟩
 self:=λ_ _ _ _ _ st h=>wpAny_pyIter_listiter st h
theorem zbQ{P:Program}{w:World}{tg:Expr}(a it:qY):zjq P w K tg (Itt K a) [it] it (λi h=>h.IsTupleIter it a i) where
 mem:=by simp
 obj:=λi h st b hb=>by
  have e:b=it:=by simpa using hb
  subst e;obtain⟨o,e,c,d⟩:=st;exact⟨o,e,λv z=>by rw[d] at z;cases z⟩
 keep:=λi h h' st k=>st.at λo e=>k it (by simp) o e
 item:=by
  intro X hP hw hK hc i pins s σ H E I hf st hg;subst hP hw hK;obtain⟨xs,x,hq,hx⟩:=hg;obtain⟨ag,rv,p,hz⟩:=I.tuple hq;obtain⟨u,hu,ru⟩:=rv.get hx;obtain⟨f0,f1,f2,f3,f4,f5⟩:=hf it (by simp);refine wpAny_pyNext_tuple_item st (show s.heap.IsTuple a ag.toArray from p) (x:=u) (by simpa using hu) λh' st' sb=> ?_;have I1:Inv X pins σ H {s with heap:=h'}:=I.turned (t':=s.toks) (λb o hb e=>(sb.2 b hb).trans e) f0 f1 f3 f4 f5;obtain⟨o,e,c,d⟩:=id st';exact⟨u,rfl,zhf (s:={s with heap:=h'}) e c d ∅ ⟨x,H,I1,ru,⟨rfl,λys hy=>by rw[I.tuple_inj hy hq];exact hx⟩,st',λb hb=>(hf b hb).1⟩⟩
 done:=by
  intro X hP hw hK hc i pins s σ H E I hf st hg;subst hP hw hK;obtain⟨xs,hq,hx⟩:=hg;obtain⟨ag,rv,p,hz⟩:=I.tuple hq;obtain⟨f0,f1,f2,f3,f4,f5⟩:=hf it (by simp);have hl:=rv.length;exact wpAny_pyNext_tuple_end (I.ok.hd hc) st (show s.heap.IsTuple a ag.toArray from p) (by simp;omega) λh' eb=>⟨rfl,I.turned (t':=s.toks) (λb o hb e=>eb b o hb e) f0 f1 f3 f4 f5⟩
 self:=λ_ _ _ _ _ st h=>wpAny_pyIter_tupleiter st h
theorem zgd{P:Program}(it:qY)(lo:Int)(n:Nat):zjq P w K tg (Itr lo n) [it] it (λi h=>IsRangeIter h it (lo+(i:Nat)*1) ((n:Int)-(i:Nat)) 1) where
 mem:=by simp
 obj:=λi h st b hb=>by
  have e:b=it:=by simpa using hb
  subst e
  exact⟨_,st,λv z=>by
   have z':Data.fields _=Data.cell v:=z
   cases z'⟩
 keep:=λi h h' st k=>k it (by simp) _ st
 item:=by
  intro X hP hw hK hc i pins s σ H E I hf st hg;subst hP hw hK;obtain⟨f0,f1,f2,f3,f4,f5⟩:=hf it (by simp);have W:=Walks.range (prog:=X.prog) (w:=X.w) (I.ok.hd hc) it lo 1 n;refine W.item i s _ _ hg st λv h' tk hv st' kk=> ?_;obtain⟨t,rfl⟩:=hv;have I1:Inv X pins σ H {s with heap:=h',toks:=tk}:=I.turned (λb o hb e=>kk b o (by simpa using hb) e) f0 f1 f3 f4 f5;refine⟨_,rfl,zhf (s:={s with heap:=h',toks:=tk}) (n:="range_iterator") st' rfl rfl ∅ ⟨.int (lo+i),H,I1,⟨t,?_⟩,⟨rfl,rfl⟩,st',λb hb=>(hf b hb).1⟩⟩;rw[Dy]
 done:=by
  intro X hP hw hK hc i pins s σ H E I hf st hg;subst hP hw hK;obtain⟨f0,f1,f2,f3,f4,f5⟩:=hf it (by simp);exact wpAny_pyNext_range_end (I.ok.hd hc) st (by have:n<=i:=hg;omega) λh' eb=>⟨rfl,I.turned (t':=s.toks) (λb o hb e=>eb b o hb e) f0 f1 f3 f4 f5⟩
 self:=λ_ _ _ _ _ st h=>wpAny_pyIter_rangeiter st h
section
def zjr(K:uk)(tl:TE):TI:=λσ H R=>tl σ H λx H1=>∃a,x= .ref a/\(∃xs,SqL K H1 a xs)/\R (Itl K a) H1
def zoh(K:uk)(tl:TE):TI:=λσ H R=>tl σ H λx H1=>∃a,x= .ref a/\(∃xs,SqT K H1 a xs)/\R (Itt K a) H1
theorem zlS(hl:PE X l tl):PI X tg l (zjr X.K tl):=by
 intro pins s σ H R I h;refine thn (hl pins s σ H _ I h) ?_;rintro v s1 ⟨x,H1,I1,r1,q1⟩;obtain⟨a,e,⟨xs,hq⟩,q⟩:=q1;subst e;cases r1;obtain⟨ag,rv,p,hz⟩:=I1.list hq;refine wpAny_pyIter_list p.isList ?_;refine⟨s1.heap.objs.size,[s1.heap.objs.size],_,_,H1,rfl,I1.kept (t':=s1.toks) λb o e=>Heap.get?_push_of_some _ e,zdj a _,⟨_,Heap.get?_push_size _ rfl,rfl,rfl⟩,λb hb=> ?_,q⟩;have e:b=s1.heap.objs.size:=by simpa using hb
 subst e;exact I1.fpOk (uv _) (I1.hok.fresh (uv _))
theorem zoi(hl:PE X l tl):PI X tg l (zoh X.K tl):=by
 intro pins s σ H R I h;refine thn (hl pins s σ H _ I h) ?_;rintro v s1 ⟨x,H1,I1,r1,q1⟩;obtain⟨a,e,⟨xs,hq⟩,q⟩:=q1;subst e;cases r1;obtain⟨ag,rv,p,hz⟩:=I1.tuple hq;refine wpAny_pyIter_tuple (show s1.heap.IsTuple a ag.toArray from p) ?_;refine⟨s1.heap.objs.size,[s1.heap.objs.size],_,_,H1,rfl,I1.kept (t':=s1.toks) λb o e=>Heap.get?_push_of_some _ e,zbQ a _,⟨_,Heap.get?_push_size _ rfl,rfl,rfl⟩,λb hb=> ?_,q⟩;have e:b=s1.heap.objs.size:=by simpa using hb
 subst e;exact I1.fpOk (uv _) (I1.hok.fresh (uv _))
theorem zjs{R:It->Hp->Prop}{lo hi:Int}{t u v:Tok}{tk:Nat}(I:Inv X pins σ H s)(h1: -(2^62)<=lo)(h2:lo<2^62)(h3: -(2^62)<=hi)(h4:hi<2^62)
  (q:R (Itr lo (hi-lo).toNat) H):wpAny (model X.prog X.w) X.A (pyIter (.ref s.heap.objs.size)) (PIE X pins σ tg R) E {s with heap:=s.heap.push {cls:= .type "range",data:= .fields #[.int lo t,.int hi u,.int 1 v]},toks:=tk}:=by
 refine wpAny_pyIter_range (IsRange.new ..) (small_one h1 h2 h3 h4) ?_;have I1:Inv X pins σ H {s with heap:=s.heap.push {cls:= .type "range",data:= .fields #[.int lo t,.int hi u,.int 1 v]},toks:=tk}:=I.kept λb o e=>Heap.get?_push_of_some _ e
 refine⟨(s.heap.push {cls:= .type "range",data:= .fields #[.int lo t,.int hi u,.int 1 v]}).objs.size,[(s.heap.push {cls:= .type "range",data:= .fields #[.int lo t,.int hi u,.int 1 v]}).objs.size],_,_,H,rfl,
  I1.kept (t':=tk) λb o e=>Heap.get?_push_of_some _ e,zgd _ lo (hi-lo).toNat,?_,λb hb=> ?_,q⟩
 .have e1:lo+((0:Nat):Int)*1=lo:=by simp
  have e2:(((hi-lo).toNat:Nat):Int)-((0:Nat):Int)=Builtin.Range.rangeSize lo hi 1:=by rw[rangeSize_one];split<;>omega
  show IsRangeIter _ _ (lo+((0:Nat):Int)*1) ((((hi-lo).toNat:Nat):Int)-((0:Nat):Int)) 1;rw[e1,e2];exact Heap.get?_push_size _ rfl
 .have e:b=(s.heap.push {cls:= .type "range",data:= .fields #[.int lo t,.int hi u,.int 1 v]}).objs.size:=by simpa using hb
  subst e;exact I1.fpOk (uv _) (I1.hok.fresh (uv _))
def znv(ta:TA):TI:=λσ H R=>ta σ H λvs H1=>∃j:Int,vs=[.int j]/\ -(2^62)<=j/\j<2^62/\R (Itr 0 j.toNat) H1
theorem YS(hg:Gl X "range")(hm:X.mg "range"=jr)(ha:PA X [a] ta)(hs:starEach [a] X.env=[(nW,eval a X.env)]:=by rfl):PI X tg (.Call (.Name "range" p) [a] [] pos) (znv ta):=by
 intro pins s σ H R I h;refine Call_ (UZ I hg hm boot_range (Bq (thn (ha pos pins s σ H _ I h) ?_) hs rfl));rintro us s1 ⟨vs,H1,I1,r1,q1⟩;obtain⟨j,e,q1,q2,q⟩:=q1;subst e;cases r1 with
 |cons r rr=>
  cases rr;obtain⟨t,rfl⟩:=r;exact call_range_1 (zjs I1 ⋯ ⋯ q1 q2 (by simpa using q))
def zp1(wi:TI)(g:TG)(tb:TS):TS:=λD σ H=>wi σ H λJ H1=>∃W:Nat->Nat->St->Hp->Prop,(∃m,W 0 m σ H1)/\∀i m σ H,W i m σ H->
 (J.stop i H/\D.nx σ H)\/(J.go i H/\∃N:St->Hp->Prop,(∀σ' H',N σ' H'->∃m',m'<m/\W (i+1) m' σ' H')/\∀x H',J.yld i H x H'->g x σ H' λσ2 H2=>tb {D with nx:=N,ct:=N,bk:=D.nx} σ2 H2)
noncomputable def zbR(fp:pR qY)(h:Heap):pR (qY×Obj):=fp.filterMap λb=>(h.get? b).map λo=>(b,o)
theorem WH(hb:b∈fp)(e:h.get? b=iJ o):(b,o)∈zbR fp h:=Cp.mpr ⟨b,hb,by rw[e];rfl⟩
theorem ziq(hp:p∈zbR fp h):p.1∈fp/\h.get? p.1=iJ p.2:=by
 obtain⟨b,hb,e⟩:=Cp.mp hp;cases q:h.get? b with
 |none=>rw[q] at e;cases e
 |some o=>
  rw[q] at e;have e':(b,o)=p:=y8 e;subst e';exact⟨hb,q⟩
theorem Inv.pinned(I:Inv X pins σ H s)(hf:∀b∈fp,zeQ X pins H b)(ho:∀b∈fp,∃o,s.heap.get? b=iJ o/\∀v,o.data≠ .cell v):Inv X (pins++zbR fp s.heap) σ H s:=
 I.pins_of λp hp=>(uW.mp hp).elim (λz=>I.pin p (z5 _ z)) λz=>by
  obtain⟨hb,e⟩:=ziq z;obtain⟨f0,f1,f2,_⟩:=hf p.1 hb;obtain⟨o,e',d⟩:=ho p.1 hb;rw[e] at e';cases e';exact⟨e,f0,f1,f2,d⟩
theorem Inv.unpinned(I:Inv X (pins++pl) σ H s):Inv X pins σ H s:=I.pins_of λp hp=>I.pin p (z5 _ (B1 _ hp))
theorem XU(hp:PassesOwn (model X.prog X.w) X.A X.env X.xe)(hc:X.calm=jD)(hi:PI X tg iter wi)(hg:PG X tg g)(hb:PSs X body tb)
  (hs:∀x,foldedSetIterable iter X.env x=pure x:=by intro _;rfl):PS X (.For tg iter body [] pos) (zp1 wi g tb):=by
 intro pins s σ H D I h;refine wpAny_For (thn (hi pins s σ H _ I h) λv s1 h1=>thn h1 λog s2 h2=> ?_) hs;obtain⟨it,fp,tn,J,H2,e,I2,T,dA,f2,W,⟨m0,w0⟩,turn⟩:=h2;subst e;have stat:∀{H':Hp},(∀b∈fp,H' b=jr)->∀b∈fp,zeQ X pins H' b:=λhn b hb=>⟨hn b hb,(f2 b hb).2⟩;refine codeAny_forLoop_any (λn s'=>∃i σ' H',Inv X pins σ' H' s'/\tn i s'.heap/\(∀b∈fp,H' b=jr)/\W i n σ' H') ?_ m0 ⟨0,σ,H2,I2,dA,λb hb=>(f2 b hb).1,w0⟩;rintro n s3 ⟨i,σ3,H3,I3,ko,nj,w3⟩;rcases turn i n σ3 H3 w3 with⟨stop,qn⟩|⟨go,N,hN,step⟩
 .refine wpAny_passesOwn hp (thn (T.done X rfl rfl rfl hc i pins s3 σ3 H3 X.xe I3 (stat nj) ko stop) λr s4 ⟨hr,I4⟩=> ?_);subst hr;exact wpAny_execs_nil ⟨σ3,H3,I4,qn⟩
 .refine wpAny_passesOwn hp (thn (T.item X rfl rfl rfl hc i pins s3 σ3 H3 X.xe I3 (stat nj) ko go) λr s4 ⟨u,hr,h4⟩=> ?_);subst hr;refine wpAny_passesOwn hp (thn h4 ?_);rintro _ s5 ⟨x,H5,I5,r5,y5,kZ,pL⟩;have I5':=I5.pinned (stat pL) (T.obj _ _ kZ);refine wpAny_passesOwn hp (thn (hg _ s5 σ3 H5 x u _ I5' r5 (step x H5 y5)) ?_);rintro _ s6 ⟨σ6,H6,I6,q6⟩;refine wpAny_passesOwn hp (thn (hb _ s6 σ6 H6 _ I6 q6) λf s7 q7=> ?_);have again:∀{σ7:St} {H7:Hp},Inv X (pins++zbR fp s5.heap) σ7 H7 s7->N σ7 H7->∃m,m<n/\∃i σ' H',Inv X pins σ' H' s7/\tn i s7.heap/\(∀b∈fp,H' b=jr)/\W i m σ' H':=λ{σ7 H7} I7 n7=>by
   obtain⟨m',hm,w7⟩:=hN σ7 H7 n7;refine⟨m',hm,i+1,σ7,H7,I7.unpinned,T.keep _ _ _ kZ λb hb o e=>(I7.pin (b,o) (z5 _ (z5 _ (WH hb e)))).1,λb hb=> ?_,w7⟩;obtain⟨o,e,d⟩:=T.obj _ _ kZ b hb;exact(I7.pin (b,o) (z5 _ (z5 _ (WH hb e)))).2.1
  cases f with
  |next=>obtain⟨σ7,H7,I7,n7⟩:=q7;exact again I7 n7
  |cont=>obtain⟨σ7,H7,I7,n7⟩:=q7;exact again I7 n7
  |brk=>obtain⟨σ7,H7,I7,q7⟩:=q7;exact⟨σ7,H7,I7.unpinned,q7⟩
  |ret v=>obtain⟨x7,σ7,H7,I7,r7,q7⟩:=q7;exact⟨x7,σ7,H7,I7.unpinned,r7,q7⟩
end
abbrev R2:=V->V->Hp->VK->Prop
def OpR(X:Cx)(f:qM->qM->Sem qM)(r:R2):Prop:=
 ∀(pins:pR (qY×Obj)) (s:qN) (σ:St) (H:Hp) (x y:V) (v u:qM) (Q:VK),Inv X pins σ H s->yq x v->yq y u->r x y H Q->
  wpAny (model X.prog X.w) X.A (f v u) (EP X pins σ Q) X.xe s
def UnR(X:Cx)(f:qM->Sem qM)(r:V->Hp->VK->Prop):Prop:=
 ∀(pins:pR (qY×Obj)) (s:qN) (σ:St) (H:Hp) (x:V) (v:qM) (Q:VK),Inv X pins σ H s->yq x v->r x H Q->
  wpAny (model X.prog X.w) X.A (f v) (EP X pins σ Q) X.xe s
def wX(X:Cx)(f:qM)(r:pR V->Hp->VK->Prop):Prop:=
 ∀(pins:pR (qY×Obj)) (s:qN) (σ:St) (H:Hp) (xs:pR V) (us:pR qM) (Q:VK),Inv X pins σ H s->yd xs us->r xs H Q->
  wpAny (model X.prog X.w) X.A (call f us) (EP X pins σ Q) X.xe s
def tOp(r:R2)(ta tb:TE):TE:=λσ H Q=>ta σ H λx H1=>tb σ H1 λy H2=>r x y H2 Q
def tUn(r:V->Hp->VK->Prop)(ta:TE):TE:=λσ H Q=>ta σ H λx H1=>r x H1 Q
def rI(C:Int->Int->Prop)(g:Int->Int->V):R2:=λx y H Q=>∃i j,x= .int i/\y= .int j/\C i j/\Q (g i j) H
def rI0(g:Int->Int->V):R2:=λx y H Q=>∃i j,x= .int i/\y= .int j/\Q (g i j) H
def rU(g:Int->V):V->Hp->VK->Prop:=λx H Q=>∃i,x= .int i/\Q (g i) H
section
theorem zoj(ha:PE X a ta)(hb:PE X b tb){R:V->V->Hp->Prop}(I:Inv X pins σ H s)
  (h:ta σ H λx H1=>tb σ H1 λy H2=>R x y H2) {f:qM->qM->Sem qM}
  (hf:∀v u s2 x y H2,Inv X pins σ H2 s2->yq x v->yq y u->R x y H2->wpAny (model X.prog X.w) X.A (f v u) Q X.xe s2):
  wpAny (model X.prog X.w) X.A (eval a X.env) (λv s₁=>wpAny (model X.prog X.w) X.A (eval b X.env) (λu s₂=>wpAny (model X.prog X.w) X.A (f v u) Q X.xe s₂) X.xe s₁) X.xe s:=by
 refine thn (ha pins s σ H _ I h) ?_;rintro v s1 ⟨x,H1,I1,r1,q1⟩;refine thn (hb pins s1 σ H1 _ I1 q1) ?_;rintro u s2 ⟨y,H2,I2,r2,q2⟩;exact hf v u s2 x y H2 I2 r1 r2 q2
theorem zq(ho:OpR X (binaryOp op) r)(ha:PE X a ta)(hb:PE X b tb):PE X (.BinOp a op b pos) (tOp r ta tb):=by
 intro pins s σ H Q I h;exact wpAny_BinOp (zoj ha hb I h λv u s2 x y H2 I2 rx ry q=>ho pins s2 σ H2 x y v u Q I2 rx ry q)
theorem znw{r:V->Hp->VK->Prop}(ho:UnR X (unaryOp op) r)(ha:PE X a ta):PE X (.UnaryOp op a pos) (tUn r ta):=by
 intro pins s σ H Q I h;refine UnaryOp_ (thn (ha pins s σ H _ I h) ?_);rintro v s1 ⟨x,H1,I1,r1,q1⟩;exact ho pins s1 σ H1 x v Q I1 r1 q1
theorem opI{f:qM->qM->Sem qM}{C:Int->Int->Prop}{g:Int->Int->Int}
  (rule:∀(i j:Int) (t u:Tok) (s:qN) (Q:qM->qN->Prop) (E:qM->qN->Prop),C i j->Q (.int (g i j) s.toks) {s with toks:=s.toks+1}->wpAny (model X.prog X.w) X.A (f (.int i t) (.int j u)) Q E s):
  OpR X f (rI C λi j=> .int (g i j)):=by
 intro pins s σ H x y v u Q I rx ry h;obtain⟨i,j,rfl,rfl,hc,q⟩:=h;obtain⟨t,rfl⟩:=rx;obtain⟨t',rfl⟩:=ry;exact rule i j t t' s _ _ hc ⟨.int (g i j),H,I.tok _,⟨_,rfl⟩,q⟩
theorem zp2{f:qM->qM->Sem qM}{g:Int->Int->Int}
  (rule:∀(i j:Int) (t u:Tok) (s:qN) (Q:qM->qN->Prop) (E:qM->qN->Prop),Q (.int (g i j) s.toks) {s with toks:=s.toks+1}->wpAny (model X.prog X.w) X.A (f (.int i t) (.int j u)) Q E s):
  OpR X f (rI0 λi j=> .int (g i j)):=by
 intro pins s σ H x y v u Q I rx ry h;obtain⟨i,j,rfl,rfl,q⟩:=h;obtain⟨t,rfl⟩:=rx;obtain⟨t',rfl⟩:=ry;exact rule i j t t' s _ _ ⟨.int (g i j),H,I.tok _,⟨_,rfl⟩,q⟩
theorem zq8{f:qM->qM->Sem qM}{g:Int->Int->Bool}
  (rule:∀(i j:Int) (t u:Tok) (s:qN) (Q:qM->qN->Prop) (E:qM->qN->Prop),Q (.bool (g i j)) s->wpAny (model X.prog X.w) X.A (f (.int i t) (.int j u)) Q E s):
  OpR X f (rI0 λi j=> .bl (g i j)):=by
 intro pins s σ H x y v u Q I rx ry h;obtain⟨i,j,rfl,rfl,q⟩:=h;obtain⟨t,rfl⟩:=rx;obtain⟨t',rfl⟩:=ry;exact rule i j t t' s _ _ ⟨.bl (g i j),H,I,rfl,q⟩
def zok(i j:Int):Prop:=0<=j/\j<=1000000/\i.natAbs<2^64
def zjt(i j:Int):Prop:=(-(2^64)<i/\i<2^64)\/(-(2^64)<j/\j<2^64)
theorem zjt.ok(h:zjt i j):IntMulOk i j:=by
 rcases h with⟨h1,h2⟩|⟨h1,h2⟩
 .exact .of_left (intBits_le_64 h1 h2)
 .exact .of_right (intBits_le_64 h1 h2)
theorem yv:OpR X (binaryOp .Add) (rI0 λi j=> .int (i+j)):=zp2 λ_ _ _ _ _ _ _ q=>add_int q
theorem Vz:OpR X (binaryOp .Sub) (rI0 λi j=> .int (i-j)):=zp2 λ_ _ _ _ _ _ _ q=>sub_int q
theorem zol:OpR X (binaryOp .Mult) (rI zjt λi j=> .int (i*j)):=opI λ_ _ _ _ _ _ _ hc q=>mul_int q hc.ok
theorem zaC:OpR X (binaryOp .Mod) (rI (λ_ j=>0<j) λi j=> .int (i % j)):=opI λi j _ _ _ _ _ hc q=>by
 have h1:(0:Int)<j:=hc;exact mod_int' ⋯ (by rw[Int.fmod_eq_emod_of_nonneg i ⋯];exact q)
theorem zju:OpR X (binaryOp .Pow) (rI zok λi j=> .int (i^j.toNat)):=opI λ_ _ _ _ _ _ _ hc q=>pow_int_small hc.1 hc.2.1 hc.2.2 q
theorem unI{f:qM->Sem qM}{g:Int->Int}
  (rule:∀(i:Int) (t:Tok) (s:qN) (Q:qM->qN->Prop) (E:qM->qN->Prop),Q (.int (g i) s.toks) {s with toks:=s.toks+1}->wpAny (model X.prog X.w) X.A (f (.int i t)) Q E s):
  UnR X f (rU λi=> .int (g i)):=by
 intro pins s σ H x v Q I rx h;obtain⟨i,rfl,q⟩:=h;obtain⟨t,rfl⟩:=rx;exact rule i t s _ _ ⟨.int (g i),H,I.tok _,⟨_,rfl⟩,q⟩
theorem zjv:UnR X (unaryOp .USub) (rU λi=> .int (-i)):=unI λ_ _ _ _ _ q=>neg_int q
end
noncomputable def zp3:V->V->Bool
 | .non,.non=>jD| .non,.int _=>jD| .int _,.non=>jD| .non,.bl _=>jD| .bl _,.non=>jD| .non,.str _=>jD| .str _,.non=>jD
 | .int _,.int _=>jD| .bl _,.bl _=>jD| .str _,.str _=>jD| .byt _,.byt _=>jD
 | .int _,.str _=>jD| .str _,.int _=>jD| .bl _,.str _=>jD| .str _,.bl _=>jD
 |_,_=>nW
def rEq:R2:=λx y H Q=>zp3 x y=jD/\Q (.bl (decide (x=y))) H
def rNe:R2:=λx y H Q=>zp3 x y=jD/\Q (.bl (!decide (x=y))) H
theorem zhg:decide (V.int i=V.int j)=(i==j):=by
 rw[Bc];simp
theorem zjw:decide (V.bl i=V.bl j)=(i==j):=by
 rw[Bc];simp
theorem zhh:decide (V.str i=V.str j)=(i==j):=by
 rw[Bc];simp
theorem zhi:decide (V.byt i=V.byt j)=(i.toList==j.toList):=by
 rw[Bc];cases i;cases j;simp
section
theorem yL{Q:VK}(I:Inv X pins σ H s)(q:Q (.bl k) H)(e:k=k'):EP X pins σ Q (.bool k') s:=by
 subst e;exact⟨.bl k,H,I,rfl,q⟩
theorem xc:OpR X (compareOp .Eq) rEq:=by
 intro pins s σ H x y v u Q I rx ry h;obtain⟨hs,q⟩:=h;cases x with
 |non=>
  cases rx;cases y with
  |non=>cases ry;exact PySem.EqNone.eq_none_none (yL I q (by simp))
  |bl j=>cases ry;exact PySem.EqNone.eq_none_bool (yL I q (by simp))
  |int j=>obtain⟨t',rfl⟩:=ry;exact PySem.EqNone.eq_none_int (yL I q (by simp))
  |str j=>obtain⟨t',rfl⟩:=ry;exact PySem.EqNone.eq_none_str (yL I q (by simp))
  |_=>exact absurd (show nW=jD from hs) uQ
 |bl i=>
  cases rx;cases y with
  |non=>cases ry;exact PySem.EqNone.eq_bool_none (yL I q (by simp))
  |bl j=>cases ry;exact eq_bool (yL I q zjw)
  |str j=>obtain⟨t',rfl⟩:=ry;exact Ee (yL I q (by simp))
  |_=>exact absurd (show nW=jD from hs) uQ
 |int i=>
  obtain⟨t,rfl⟩:=rx;cases y with
  |non=>cases ry;exact PySem.EqNone.eq_int_none (yL I q (by simp))
  |int j=>obtain⟨t',rfl⟩:=ry;exact eq_int (yL I q zhg)
  |str j=>obtain⟨t',rfl⟩:=ry;exact Ej (yL I q (by simp))
  |_=>exact absurd (show nW=jD from hs) uQ
 |str i=>
  obtain⟨t,rfl⟩:=rx;cases y with
  |non=>cases ry;exact PySem.EqNone.eq_str_none (yL I q (by simp))
  |bl j=>cases ry;exact Ef (yL I q (by simp))
  |int j=>obtain⟨t',rfl⟩:=ry;exact Ek (yL I q (by simp))
  |str j=>obtain⟨t',rfl⟩:=ry;exact eq_str (yL I q zhh)
  |_=>exact absurd (show nW=jD from hs) uQ
 |byt i=>
  obtain⟨t,rfl⟩:=rx;cases y with
  |byt j=>obtain⟨t',rfl⟩:=ry;exact PySem.W.eq_bytes (yL I q zhi)
  |_=>exact absurd (show nW=jD from hs) uQ
 |_=>cases y<;>exact absurd (show nW=jD from hs) uQ
theorem zjx:OpR X (compareOp .NotEq) rNe:=by
 intro pins s σ H x y v u Q I rx ry h;obtain⟨hs,q⟩:=h;cases x with
 |non=>
  cases rx;cases y with
  |non=>cases ry;exact PySem.EqNone.ne_none_none (yL I q (by simp))
  |bl j=>cases ry;exact PySem.EqNone.ne_none_bool (yL I q (by simp))
  |int j=>obtain⟨t',rfl⟩:=ry;exact PySem.EqNone.ne_none_int (yL I q (by simp))
  |str j=>obtain⟨t',rfl⟩:=ry;exact PySem.EqNone.ne_none_str (yL I q (by simp))
  |_=>exact absurd (show nW=jD from hs) uQ
 |bl i=>
  cases rx;cases y with
  |non=>cases ry;exact PySem.EqNone.ne_bool_none (yL I q (by simp))
  |bl j=>cases ry;exact ne_bool (yL I q (congrArg not zjw))
  |str j=>obtain⟨t',rfl⟩:=ry;exact Eg (yL I q (by simp))
  |_=>exact absurd (show nW=jD from hs) uQ
 |int i=>
  obtain⟨t,rfl⟩:=rx;cases y with
  |non=>cases ry;exact PySem.EqNone.ne_int_none (yL I q (by simp))
  |int j=>obtain⟨t',rfl⟩:=ry;exact ne_int (yL I q (congrArg not zhg))
  |str j=>obtain⟨t',rfl⟩:=ry;exact El (yL I q (by simp))
  |_=>exact absurd (show nW=jD from hs) uQ
 |str i=>
  obtain⟨t,rfl⟩:=rx;cases y with
  |non=>cases ry;exact PySem.EqNone.ne_str_none (yL I q (by simp))
  |bl j=>cases ry;exact Eh (yL I q (by simp))
  |int j=>obtain⟨t',rfl⟩:=ry;exact Em (yL I q (by simp))
  |str j=>obtain⟨t',rfl⟩:=ry;exact ne_str (yL I q (congrArg not zhh))
  |_=>exact absurd (show nW=jD from hs) uQ
 |byt i=>
  obtain⟨t,rfl⟩:=rx;cases y with
  |byt j=>obtain⟨t',rfl⟩:=ry;exact PySem.W.ne_bytes (yL I q (congrArg not zhi))
  |_=>exact absurd (show nW=jD from hs) uQ
 |_=>cases y<;>exact absurd (show nW=jD from hs) uQ
theorem za9:OpR X (compareOp .LtE) (rI0 λi j=> .bl (decide (i<=j))):=zq8 λ_ _ _ _ _ _ _ q=>le_int q
theorem zir:OpR X (compareOp .In) (λx y H Q=>∃i j,x= .str i/\y= .str j/\Q (.bl (!(Builtin.Str.occurrences j i 0 j.length 1).isEmpty)) H):=by
 intro pins s σ H x y v u Q I rx ry h;obtain⟨i,j,rfl,rfl,q⟩:=h;obtain⟨t,rfl⟩:=rx;obtain⟨t',rfl⟩:=ry;exact in_str (yL I q rfl)
theorem zby(ho:OpR X (compareOp op) r)(ha:PE X a ta)(hb:PE X b tb)(hm:behindInMarks op b=nW):PE X (.Compare a [op] [b] pos) (tOp r ta tb):=by
 intro pins s σ H Q I h;exact wpAny_Compare1 (zoj ha hb I h λv u s2 x y H2 I2 rx ry q=>ho pins s2 σ H2 x y v u Q I2 rx ry q) hm
def zjy(t:TE):TT:=λσ H Q=>t σ H λx H'=>∃k,x= .bl k/\Q k H'
theorem zU(ho:OpR X (compareOp op) r)(ha:PE X a ta)(hb:PE X b tb)(hm:behindInMarks op b=nW):PT X (.Compare a [op] [b] pos) (zjy (tOp r ta tb)):=by
 intro pins s σ H Q I h
 refine wpAny_isTrue_Compare1 (thn (ha pins s σ H _ I h) λv s1 ⟨x,H1,I1,r1,q1⟩=>thn (hb pins s1 σ H1 _ I1 q1) λu s2 ⟨y,H2,I2,r2,q2⟩=>
  thn (ho pins s2 σ H2 x y v u _ I2 r1 r2 q2) λc s3 ⟨z,H3,I3,r3,k,e,q3⟩=> ?_) hm
 subst e;cases r3;exact wpAny_truthy_bool ⟨H3,I3,q3⟩
def zge(r r':R2)(ta tb tc:TE):TE:=λσ H Q=>ta σ H λx H1=>tb σ H1 λy H2=>r x y H2 λz H3=>∃k,z= .bl k/\
 (if k=jD then tc σ H3 λw' H4=>r' y w' H4 Q else Q (.bl nW) H3)
theorem zeR(ho:OpR X (compareOp op) r)(jw:OpR X (compareOp op') r')(ha:PE X a ta)(hb:PE X b tb)(hc:PE X c tc)
  (hm:lastMarks [op,op'] [b,c]=nW:=by with_unfolding_all rfl):PE X (.Compare a [op,op'] [b,c] pos) (zge r r' ta tb tc):=by
 intro pins s σ H Q I h
 refine Compare_chain (thn (ha pins s σ H _ I h) λv s1 ⟨x,H1,I1,r1,q1⟩=>chain_link (thn (hb pins s1 σ H1 _ I1 q1) λu s2 ⟨y,H2,I2,r2,q2⟩=>
  thn (ho pins s2 σ H2 x y v u _ I2 r1 r2 q2) λd s3 ⟨z,H3,I3,r3,k,e,q3⟩=> ?_)) hm
 subst e;cases r3;refine wpAny_truthy_bool ?_;cases k with
 |false=>exact ite_ff ⟨.bl nW,H3,I3,rfl,q3⟩
 |true=>exact ite_tt (chain_last (thn (hc pins s3 σ H3 _ I3 q3) λw' s4 ⟨z',H4,I4,r4,q4⟩=>jw pins s4 σ H4 y z' u w' Q I4 r2 r4 q4))
theorem zeS(ho:OpR X (compareOp op) r)(jw:OpR X (compareOp op') r')(ha:PE X a ta)(hb:PE X b tb)(hc:PE X c tc)
  (hm:lastMarks [op,op'] [b,c]=nW:=by with_unfolding_all rfl):PT X (.Compare a [op,op'] [b,c] pos) (zjy (zge r r' ta tb tc)):=by
 intro pins s σ H Q I h
 refine isTrue_chain (thn (ha pins s σ H _ I h) λv s1 ⟨x,H1,I1,r1,q1⟩=>test_link (thn (hb pins s1 σ H1 _ I1 q1) λu s2 ⟨y,H2,I2,r2,q2⟩=>
  thn (ho pins s2 σ H2 x y v u _ I2 r1 r2 q2) λd s3 ⟨z,H3,I3,r3,k,e,q3⟩=> ?_)) hm
 subst e;cases r3;refine wpAny_truthy_bool ?_;cases k with
 |false=>
  obtain⟨k',e',q'⟩:=q3;cases e';exact ite_ff ⟨H3,I3,q'⟩
 |true=>
  refine ite_tt (test_last (thn (hc pins s3 σ H3 _ I3 q3) ?_));rintro w' s4 ⟨z',H4,I4,r4,q4⟩;refine thn (jw pins s4 σ H4 y z' u w' _ I4 r2 r4 q4) ?_;rintro d' s5 ⟨z2,H5,I5,r5,k2,e2,q5⟩;subst e2;cases r5;exact wpAny_truthy_bool ⟨H5,I5,q5⟩
theorem zaD:(sizeLine:Nat)<2^63:=by rw[sizeLine_eq];decide
theorem zr:OpR X (binaryOp .Add) (λx y H Q=>∃i j,x= .str i/\y= .str j/\i.length+j.length<=sizeLine/\Q (.str (i++j)) H):=by
 intro pins s σ H x y v u Q I rx ry h;obtain⟨i,j,rfl,rfl,hz,q⟩:=h;obtain⟨t,rfl⟩:=rx;obtain⟨t',rfl⟩:=ry;exact add_str (λt' tk=>⟨.str (i++j),H,I.tok _,⟨_,rfl⟩,q⟩) hz
theorem Wo(r:yd [x] us):∃u,us=[u]/\yq x u:=by
 cases r with
 |cons r1 r2=>cases r2;exact⟨_,rfl,r1⟩
theorem zeT(r:yd [x,y] us):∃u w',us=[u,w']/\yq x u/\yq y w':=by
 cases r with
 |cons r1 r2=>
  cases r2 with
  |cons r3 r4=>cases r4;exact⟨_,_,rfl,r1,r3⟩
theorem zaE(hc:X.calm=jD):wX X (.builtin "max") (λxs H Q=>∃i j,xs=[.int i,.int j]/\Q (.int (if j>i then j else i)) H):=by
 intro pins s σ H xs us Q I r h;obtain⟨i,j,rfl,q⟩:=h;obtain⟨u,w',rfl,⟨t,rfl⟩,⟨t',rfl⟩⟩:=zeT r;refine max_two_ints (I.ok.hd hc) λh' tk k=>⟨_,H,I.kept k,?_,q⟩;by_cases hj:j>i
 .rw[if_pos hj,if_pos hj];exact⟨_,rfl⟩
 .rw[if_neg hj,if_neg hj];exact⟨_,rfl⟩
theorem zis(hc:X.calm=jD):wX X (.builtin "min") (λxs H Q=>∃i j,xs=[.int i,.int j]/\Q (.int (if j<i then j else i)) H):=by
 intro pins s σ H xs us Q I r h;obtain⟨i,j,rfl,q⟩:=h;obtain⟨u,w',rfl,⟨t,rfl⟩,⟨t',rfl⟩⟩:=zeT r;refine min_two_ints (I.ok.hd hc) λh' tk k=>⟨_,H,I.kept k,?_,q⟩;by_cases hj:j<i
 .rw[if_pos hj,if_pos hj];exact⟨_,rfl⟩
 .rw[if_neg hj,if_neg hj];exact⟨_,rfl⟩
end
structure zgf(h:Heap)(x dx C:qY)(mA:Str->pT qM):Prop where
 obj:h.get? x=iJ (Ay C dx)
 ns:h.Ns1 dx mA
 ne:dx≠x
set_option tactic.hygienic true in
theorem zit{h:Heap}{dx:qY}{mA:Str->pT qM}(n:h.Ns1 dx mA):∃od,h.get? dx=iJ od/\∀name,Cg name od=iJ (mA name):=by
 obtain⟨o,es,ep,ho,hd,hk,_,hm⟩:=n;refine⟨o,ho,λname=> ?_⟩;have e:=hm name;unfold nsFind findBy at e;rw[<-Array.find?_toList] at e;unfold Cg;rw[hd];dsimp only;split
 .rename_i y q;rw[q] at e;exact congrArg iJ e
 .rename_i q;rw[q] at e;have a:es.toList.any (·.refKey)=nW:=by
   rw[List.any_eq_false];intro y hy;obtain⟨z,t,p6⟩:=hk y (Array.mem_toList_iff.mp hy);simp[DictEntry.refKey,p6]
  have a':¬es.toList.any (·.refKey)=jD:=by rw[a];exact uQ
  rw[if_neg a'];exact congrArg iJ e
theorem zgf.look{mA:Str->pT qM}(I:zgf h x dx C mA):∃od,Ci h x (Ay C dx) C (iJ od)/\∀name,Cg name od=iJ (mA name):=
 let ⟨od,ho,hl⟩:=zit I.ns
 ⟨od,⟨I.obj,rfl,rfl,ho⟩,hl⟩
section
variable{mA:Str->pT qM}
theorem zlT(X:K.In s.heap)(I:zgf s.heap x dx C mA)(hg:Br K C name=jD)(hh:BQ K C=jD)
  (ha:uE K (.ref C) name=iJ jr) (hv:mA name=iJ v) (rH:DA v=jD) (h:Q v {s with toks:=s.toks+1}):
  wpAny (model prog w) A (getAttr (.ref x) name expr) Q E s:=by
 obtain⟨od,J,hl⟩:=I.look;exact PySem.W.get_value X J (Cb hg).1 (PySem.W.findObj_own hh ha rfl (by rw[hl,hv])) rH h
theorem zjz{Q:qM×pR qM->qN->Prop}(X:K.In s.heap)(I:zgf s.heap x dx C mA)(hg:Br K C name=jD)
  (hf:uE K (.ref C) name=iJ (iJ (.ref f))) (ht:C5 K (.ref f)=jD) (hv:mA name=jr) (h:Q (.ref f,[.ref x]) s):
  wpAny (model prog w) A (getMethod (.ref x) name pl) Q E s:=by
 obtain⟨od,J,hl⟩:=I.look;exact PySem.W.method_fn X J (Cb hg).1 (Cb hg).2 hf (beq_iff_eq.mp ht) (by show(Cg name od).map (·.isSome)=iJ nW;rw[hl,hv];rfl) h
theorem zlU{Q:Unit->qN->Prop}(X:K.In s.heap)(I:zgf s.heap x dx C mA)
  (hs:uE K (.ref C) "__setattr__"=iJ (iJ (.builtin "object.__setattr__"))) (hp:Cw K C=jD) (ht:CM K C name=iJ jr) (hh:BQ K C=jD)
  (hw:Dk mA ns) (iW:ns.length<=sizeLine)
  (h:∀h',zgf h' x dx C (λy=>if y=name then iJ v else mA y)->Heap.SameBut dx s.heap h'->Q () {s with heap:=h',toks:=s.toks+2}):
  wpAny (model prog w) A (setAttr (.ref x) name v) Q E s:=by
 obtain⟨od,J,hl⟩:=I.look;refine PySem.W.set_plain X J hs (PySem.W.osa_open (s:={s with toks:=s.toks+1}) (r:=jr) X J hp ht λb=> ?_);obtain⟨cd,hc,pw⟩:=PySem.W.any_some hh;have hx:s.heap.get? x=iJ ⟨.ref C,iJ dx,.plain,#[]⟩:=I.obj;refine wpAny_bind (wpAny_pure (wpAny_bind (wpAny_bind (wpAny_loadPart hx (wpAny_bind (Ex (s:={s with toks:=s.toks+1}) (PySem.W.looks_clsIn X hc) ?_))))));rw[pw];refine wpAny_pure (a:=iJ dx) (wpAny_bind (wpAny_pure (wpAny_bind ?_)));refine wpAny_nsSet1 (s:={s with toks:=s.toks+1}) I.ns λh' jc ji=> ?_;obtain⟨oD,uf,uh,sf,sW,sX⟩:=jc.count (PySem.Within.cons name v hw);refine wpAny_bind (wpAny_lookBehind sf (by rw[sW];exact pastItsLine_dict (v5 sX (by rw[uw];omega))) ?_);exact wpAny_pure (h _ ⟨(ji.2 _ (A9 I.ne)).trans I.obj,jc,I.ne⟩ ji)
theorem zjA{R:Result->qN->Prop}(X:K.In s.heap)(hm:CN K C=jD)
  (hi:uE K (.ref C) "__init__"=iJ (iJ (.ref f))) (hf:y0 K (.ref f)=iJ (.type "function"))
  (h:codeAny (model prog w) (A.under (.builtin "type.__call__" ⟨.ref C::vs,kw⟩)) (.call (.ref f) ⟨.ref (s.heap.objs.size+1)::vs,kw⟩) (PySem.W.InitBack (s.heap.objs.size+1) R)
   {s with heap:=(s.heap.push Ae).push (Ay C s.heap.objs.size)}):
  codeAny (model prog w) A (.call (.ref C) ⟨vs,kw⟩) R s:=by
 obtain⟨hh,g,d,t,os⟩:=s;exact PySem.W.make_core (PySem.W.makes_of X hm) (C6 X hi) (λself=>PySem.W.bind_fn X self hf) (.inl rfl) h
end
noncomputable def XV(f:Str)(v:V):pR (Str×V)->pR (Str×V)
 |[]=>[(f,v)]
 |(g,x)::r=>if g=f then (g,v)::r else (g,x)::XV f v r
theorem zba(f g:Str)(v:V)(fs:pR (Str×V)):(XV f v fs).lookup g=if g=f then iJ v else fs.lookup g:=by
 induction fs with
 |nil=>
  show AK g [(f,v)]=_;by_cases h:g=f
  .have hb:(g==f)=jD:=beq_iff_eq.mpr h;simp only[AK,hb,if_pos h]
  .have hb:(g==f)=nW:=beq_eq_false_iff_ne.mpr h;simp only[AK,hb,if_neg h]
 |cons y r ih=>
  obtain⟨k,x⟩:=y;rw[show XV f v ((k,x)::r)=(if k=f then (k,v)::r else (k,x)::XV f v r) from rfl];by_cases hk:k=f
  .rw[if_pos hk];by_cases h:g=k
   .have hb:(g==k)=jD:=beq_iff_eq.mpr h;simp only[AK,hb,if_pos (h.trans hk)]
   .have hb:(g==k)=nW:=beq_eq_false_iff_ne.mpr h;simp only[AK,hb,if_neg (λe:g=f=>h (e.trans hk.symm))]
  .rw[if_neg hk];by_cases h:g=k
   .have hb:(g==k)=jD:=beq_iff_eq.mpr h;simp only[AK,hb,if_neg (λe:g=f=>hk (h.symm.trans e))]
   .have hb:(g==k)=nW:=beq_eq_false_iff_ne.mpr h;simp only[AK,hb];exact ih
theorem zaF(f:Str)(v:V)(fs:pR (Str×V)):f∈(XV f v fs).map (·.1)/\∀g,g∈fs.map (·.1)->g∈(XV f v fs).map (·.1):=by
 induction fs with
 |nil=>exact⟨by simp[XV],λg h=>by simp at h⟩
 |cons y r i=>
  obtain⟨k,x⟩:=y;rw[show XV f v ((k,x)::r)=(if k=f then (k,v)::r else (k,x)::XV f v r) from rfl];by_cases hk:k=f
  .rw[if_pos hk];subst hk;exact⟨by simp,λg h=>by simpa using h⟩
  .rw[if_neg hk];refine⟨?_,λg h=> ?_⟩
   .rw[uV];exact uG _ i.1
   .rw[uV] at h ⊢;rcases uU.mp h with e|e
    .exact uU.mpr (.inl e)
    .exact uG _ (i.2 g e)
theorem zbb(f:Str)(v:V)(fs:pR (Str×V)):(XV f v fs).length<=fs.length+1:=by
 induction fs with
 |nil=>simp[XV]
 |cons y r ih=>
  obtain⟨k,x⟩:=y;rw[show XV f v ((k,x)::r)=(if k=f then (k,v)::r else (k,x)::XV f v r) from rfl];by_cases hk:k=f
  .rw[if_pos hk,uw,uw];omega
  .rw[if_neg hk,uw,uw];omega
theorem UI.some_of(r:UI (iJ v) o):∃u,o=iJ u/\yq v u:=by
 cases o with
 |none=>exact(show False from r).elim
 |some u=>exact⟨u,rfl,r⟩
theorem UI.none_of(r:UI jr o):o=jr:=by
 cases o with
 |none=>rfl
 |some u=>exact(show False from r).elim
theorem ziu(r:yq v u):DA u=jD:=by
 cases v with
 |non=>cases (show u=Value.none from r);rfl
 |bl b=>cases (show u=Value.bool b from r);rfl
 |int i=>obtain⟨t,e⟩:=(show ∃t,u=Value.int i t from r);cases e;rfl
 |str x=>obtain⟨t,e⟩:=(show ∃t,u=Value.str x t from r);cases e;rfl
 |byt b=>obtain⟨t,e⟩:=(show ∃t,u=Value.bytes b t from r);cases e;rfl
 |flt b=>obtain⟨t,e⟩:=(show ∃t,u=Value.float b t from r);cases e;rfl
 |ref a=>cases (show u=Value.ref a from r);rfl
 |ty n=>cases (show u=Value.type n from r);rfl
section
variable{P:Program}
theorem zbz(hok:HOk P w H h)(e:H a=iJ (.ins C dx fs)):∃mA,zgf h a dx C mA/\(∀f,UI (fs.lookup f) (mA f))/\Dk mA (fs.map (·.1))/\fs.length<=1000/\H dx=iJ (.own a):=by
 obtain⟨d,z,ne,ob,mA,n,r,q⟩:=(show xp P w H h a (.ins C dx fs) from hok a _ e);exact⟨mA,⟨ob,n,ne⟩,r,q,z,d⟩
end
structure Cls(K:uk)(C:qY):Prop where
 pg:Br K C Str.empty=jD
 hd:BQ K C=jD
 po:Cw K C=jD
 sa:uE K (.ref C) "__setattr__"=iJ (iJ (.builtin "object.__setattr__"))
theorem Cls.get{C:qY}(c:Cls K C)(f:Str):Br K C f=jD:=c.pg
def Yj(K:uk)(C:qY)(f:Str):Prop:=uE K (.ref C) f=iJ jr
theorem Yj.taker{C:qY}{f:Str}(n:Yj K C f):CM K C f=iJ jr:=by
 unfold CM;rw[show uE K (.ref C) f=iJ jr from n];rfl
structure Con(K:uk)(C:qY)(f:Str)(v:V)(u:qM):Prop where
 at_:uE K (.ref C) f=iJ (iJ u)
 rel:yq v u
 get:BR K u "__get__"=iJ jr
 cp:PySem.W.copiedNames.contains f=nW
structure zlV(K:uk)(C:qY)(m:Str)(f:qY):Prop where
 at_:uE K (.ref C) m=iJ (iJ (.ref f))
 fn:C5 K (.ref f)=jD
 kp:Av K (.ref f)=jD
section
theorem zbS(I:Inv X pins σ H s)(e:H a=iJ (.ins C dx fs))(c:Cls X.K C)(n:Yj X.K C f)(l:fs.lookup f=iJ v)
  (h:∀u s',Inv X pins σ H s'->yq v u->Q u s'):wpAny (model X.prog X.w) A (getAttr (.ref a) f b) Q E s:=by
 obtain⟨mA,O,r,_,_,_⟩:=zbz I.hok e;obtain⟨u,hu,ru⟩:=UI.some_of (v:=v) (o:=mA f) (by rw[<-l];exact r f);exact zlT I.kIn O (c.get f) c.hd n hu (ziu ru) (h u _ (I.tok _) ru)
theorem zbT{Q:qM×pR qM->qN->Prop}(I:Inv X pins σ H s)(e:H a=iJ (.ins C dx fs))(c:Cls X.K C)(k:zlV X.K C m g)(l:fs.lookup m=jr)
  (h:Q (.ref g,[.ref a]) s):wpAny (model X.prog X.w) A (getMethod (.ref a) m pl) Q E s:=by
 obtain⟨mA,O,r,_,_,_⟩:=zbz I.hok e;have hn:mA m=jr:=UI.none_of (by rw[<-l];exact r m);exact zjz I.kIn O (c.get m) k.at_ k.fn hn h
theorem zbU{Q:Unit->qN->Prop}(I:Inv X pins σ H s)(e:H a=iJ (.ins C dx fs))(c:Cls X.K C)(n:Yj X.K C f)(hl:fs.length<1000)(ry:yq y u)
  (h:∀s',Inv X pins σ (upd H a (.ins C dx (XV f y fs))) s'->Q () s'):wpAny (model X.prog X.w) A (setAttr (.ref a) f u) Q E s:=by
 obtain⟨mA,O,r,wi,_,ho⟩:=zbz I.hok e;have hz:(fs.map (·.1)).length<=sizeLine:=by rw[um,sizeLine_eq];omega
 refine zlU I.kIn O c.sa c.po n.taker c.hd wi hz λh' O' sb=>h _ ?_;have hd:∃o,h'.get? dx=iJ o:=let ⟨o,_,_,e',_⟩:=O'.ns;⟨o,e'⟩;refine I.write (x:=a) (e:=dx) (by rw[e];exact Bd) (.inr ho) (λb q hb z=>(sb.2 b hb).trans z) hd ?_;refine⟨by rw[yi O.ne];exact ho,?_,O.ne,O'.obj,_,O'.ns,λg=> ?_,λg hg=> ?_⟩
 .have:=zbb f y fs;omega
 .show UI ((XV f y fs).lookup g) (if g=f then iJ u else mA g);rw[zba];by_cases q:g=f
  .rw[if_pos q,if_pos q];exact ry
  .rw[if_neg q,if_neg q];exact r g
 .by_cases q:g=f
  .rw[q];exact(zaF f y fs).1
  .refine (zaF f y fs).2 g (wi g λz=>hg ?_);show(if g=f then iJ u else mA g)=jr;rw[if_neg q];exact z
theorem Inv.made(I:Inv X pins σ H s):Inv X pins σ (upd (upd H s.heap.objs.size (.own (s.heap.objs.size+1))) (s.heap.objs.size+1) (.ins C s.heap.objs.size []))
  {s with heap:=(s.heap.push Ae).push (Ay C s.heap.objs.size)}:=by
 have e1:(s.heap.push Ae).get? s.heap.objs.size=iJ Ae:=Heap.get?_push_size s.heap rfl;have e2:((s.heap.push Ae).push (Ay C s.heap.objs.size)).get? (s.heap.objs.size+1)=iJ (Ay C s.heap.objs.size):=by
  have:=Heap.get?_push_size (s.heap.push Ae) (o:=Ay C s.heap.objs.size) rfl;rwa [Heap.size_push] at this
 have e3:(s.heap.push Ae).Ns s.heap.objs.size (λ_=>jr):=⟨Ae,#[],_,e1,rfl,(λe he=>absurd he (by simp)),λ_=>rfl⟩;have I1:=I.laid (a:=s.heap.objs.size) (o:= .own (s.heap.objs.size+1)) (h':=s.heap.push Ae) (t':=s.toks) (λb u q=>Heap.get?_push_of_some _ q) (uv _) ⟨_,e1⟩;refine I1.laid (a:=s.heap.objs.size+1) (o:= .ins C s.heap.objs.size []) (t':=s.toks) (λb u q=>Heap.get?_push_of_some _ q) (Bj (Heap.size_push _ _)) ?_;have ne:s.heap.objs.size≠s.heap.objs.size+1:=uR (A4 _);refine⟨by rw[yi ne,yH],uZ _,ne,e2,λ_=>jr,(Heap.Ns1.of_empty e3).at λo q=>Heap.get?_push_of_some _ q,λ_=>Bd,λy hy=>absurd rfl hy⟩
theorem zlW(hb:attributeBase e f env (eval e env)=eval e env)
  (h:wpAny (model prog w) A (eval e env) (λo s₁=>wpAny (model prog w) A (getAttr o f jD) Q E s₁) E s):wpAny (model prog w) A (eval (.Attribute e f pos) env) Q E s:=
 Attribute_any_ h (by rw[arm_eval_Attribute,hb])
end
def zp4(K:uk)(ta:TE)(f:Str):TE:=λσ H Q=>ta σ H λx H1=>∃a C dx fs v,x= .ref a/\H1 a=iJ (.ins C dx fs)/\Cls K C/\Yj K C f/\fs.lookup f=iJ v/\Q v H1
def zp5(K:uk)(ta tv:TE)(f:Str):TS:=λD σ H=>tv σ H λy H1=>ta σ H1 λx H2=>∃a C dx fs,x= .ref a/\H2 a=iJ (.ins C dx fs)/\Cls K C/\Yj K C f/\fs.length<1000/\
 D.nx σ (upd H2 a (.ins C dx (XV f y fs)))
def zp6(X:Cx)(op:Operator)(rd:V->V->Hp->VK->Prop):Prop:=
 ∀(pins:pR (qY×Obj)) (s:qN) (σ:St) (H:Hp) (x y:V) (u v:qM) (Q:VK),Inv X pins σ H s->yq x u->yq y v->rd x y H Q->wpAny (model X.prog X.w) X.A (inplaceOp op u v) (EP X pins σ Q) X.xe s
def zhj(K:uk)(ta tv:TE)(rd:V->V->Hp->VK->Prop)(f:Str):TS:=λD σ H=>ta σ H λx H1=>∃a C dx fs v,x= .ref a/\H1 a=iJ (.ins C dx fs)/\Cls K C/\Yj K C f/\fs.lookup f=iJ v/\
 tv σ H1 λy H2=>rd v y H2 λz H3=>∃dx' fs',H3 a=iJ (.ins C dx' fs')/\fs'.length<1000/\D.nx σ (upd H3 a (.ins C dx' (XV f z fs')))
section
theorem zaG(he:PE X e ta)(hb:attributeBase e f X.env (eval e X.env)=eval e X.env):PE X (.Attribute e f pos) (zp4 X.K ta f):=by
 intro pins s σ H Q I h;refine zlW hb (thn (he pins s σ H _ I h) ?_);rintro u s1 ⟨x,H1,I1,rx,a,C,dx,fs,v,ex,ea,c,n,l,q⟩;subst ex;obtain rfl:u=Value.ref a:=rx;exact zbS I1 ea c n l λu' s2 I2 ru=>⟨v,H1,I2,ru,q⟩
theorem zgg(ha:PE X o ta)(hv:PE X value tv)(hs:swapsWith value (iJ (.Attribute o f pos')) pos.line X.env=pure nW):PS X (.Assign [.Attribute o f pos'] value pos) (zp5 X.K ta tv f):=by
 intro pins s σ H D I h;refine plainObj_wpAny_Assign_Attribute (thn (hv pins s σ H _ I h) ?_) hs;rintro u s1 ⟨y,H1,I1,ry,q⟩;refine thn (ha pins s1 σ H1 _ I1 q) ?_;rintro ov s2 ⟨x,H2,I2,rx,a,C,dx,fs,ex,ea,c,n,l,q2⟩;subst ex;obtain rfl:ov=Value.ref a:=rx;exact zbU I2 ea c n l ry λs3 I3=>⟨σ,_,I3,q2⟩
theorem ziv{rd:V->V->Hp->VK->Prop}(ha:PE X o ta)(hv:PE X value tv)(iH:zp6 X op rd):PS X (.AugAssign (.Attribute o f kY) op value pos) (zhj X.K ta tv rd f):=by
 intro pins s σ H D I h;refine wpAny_AugAssign_AttributeAny (thn (ha pins s σ H _ I h) ?_);rintro ov s1 ⟨x,H1,I1,rx,a,C,dx,fs,v,ex,ea,c,n,l,q⟩;subst ex;obtain rfl:ov=Value.ref a:=rx;refine zbS I1 ea c n l λu s2 I2 ru=>thn (hv pins s2 σ H1 _ I2 q) ?_;rintro w3 s3 ⟨y,H2,I3,ry,q3⟩;refine thn (iH pins s3 σ H2 v y u w3 _ I3 ru ry q3) ?_;rintro w4 s4 ⟨z,H3,I4,rz,dx',fs',ea',l',q4⟩;exact zbU I4 ea' c n l' rz λs5 I5=>⟨σ,_,I5,q4⟩
def zp7:V->V->Hp->VK->Prop:=λx y H Q=>∃i j,x= .int i/\y= .int j/\Q (.int (i+j)) H
theorem zom:zp6 X .Add zp7:=by
 rintro pins s σ H x y u v Q I rx ry ⟨i,j,rfl,rfl,q⟩;obtain⟨t,rfl⟩:=(show ∃t,u=Value.int i t from rx);obtain⟨t',rfl⟩:=(show ∃t',v=Value.int j t' from ry);exact PyProof.Rows.iadd_int ⟨.int (i+j),H,I.tok _,⟨_,rfl⟩,q⟩
end
section
variable{c:qM}{b:Bool}
inductive zbk(K:uk)(H:Hp):V->Value->Prop where
 |non:zbk K H .non (.type "NoneType")
 |bl (x:Bool):zbk K H (.bl x) (.type "bool")
 |int (i:Int):zbk K H (.int i) (.type "int")
 |str (x:Str):zbk K H (.str x) (.type "str")
 |flt (x:UInt64):zbk K H (.flt x) (.type "float")
 |lst {a:Addr} {xs:List V} (e:H a=iJ (.lst xs)):zbk K H (.ref a) (.type "list")
 |frz {a:Addr} {o:Obj} {xs:List V} (e:H a=iJ (.frz o (.lst xs))):zbk K H (.ref a) (.type "list")
 |tup {a:Addr} {xs:List V} (e:H a=iJ (.tup xs)):zbk K H (.ref a) (.type "tuple")
 |dK {a:Addr} {aq:List (Key×V)} (e:H a=iJ (.dK aq)):zbk K H (.ref a) (.type "dict")
 |dT {a:Addr} {aq:List (List Key×V)} (e:H a=iJ (.dT aq)):zbk K H (.ref a) (.type "dict")
 |ins {a C dx:Addr} {fs:List (Str×V)} (e:H a=iJ (.ins C dx fs)) (cl:Cls K C) (ha:uE K (.ref C) "__class__"=iJ (iJ (.builtin "object.__class__")))
   (hn:BR K (.builtin "object.__class__") "__get__"=iJ (iJ (.builtin "getset_descriptor.__get__"))) (htk:CO K (.builtin "object.__class__")=iJ jD)
   (hm:ux K C (.type "object")=iJ jD):zbk K H (.ref a) (.ref C)
end
structure Zr(k:Nat)(A:Around):Prop where
 hd:A.handled=jr
 dp:A.depth+3*k+5<recursionLimit
 un:A.units+16*k+200<cLine
 gd:A.guards=iJ []
theorem Zr.mono(r:Zr k A)(h:j<=k):Zr j A:=⟨r.hd,by have:=r.dp;omega,by have:=r.un;omega,r.gd⟩
theorem Zr.deeper(r:Zr (k+1) A)(env:Env):Zr k (A.deeper env):=
 ⟨r.hd,by have:=r.dp;show A.depth+1+3*k+5<_;omega,by have:=r.un;show A.units+3+16*k+200<_;omega,r.gd⟩
theorem zgh:(A.under (.builtin "type.__call__" ⟨.ref C::us,kw⟩)).depth=A.depth+1:=by
 first|rfl|simp[Around.under,Code.weight,Code.isCreation,Code.isGuard,Code.isCaller,Code.frames,Code.isFrame,guardIds]
theorem zgi{C:qY}{us:pR qM}{kw:pR (Str×qM)}:(A.under (.builtin "type.__call__" ⟨.ref C::us,kw⟩)).units=A.units+1:=by
 first|rfl|simp[Around.under,Code.cUnits,Code.frames,Code.isFrame]
theorem Zr.make(r:Zr (k+1) A)(C:qY)(us:pR qM)(kw:pR (Str×qM)):Zr k (A.under (.builtin "type.__call__" ⟨.ref C::us,kw⟩)):=
 ⟨r.hd,by have:=r.dp;rw[zgh];omega,by have:=r.un;rw[zgi];omega,r.gd⟩
theorem Zr.depth(r:Zr k A):A.depth<recursionLimit:=by have:=r.dp;omega
theorem Zr.units(r:Zr k A):A.units+64<cLine:=by have:=r.un;omega
def zeU:TA:=λ_ H Q=>Q [] H
def UP(ta:TE)(tr:TA):TA:=λσ H Q=>ta σ H λx H1=>tr σ H1 λxs H2=>Q (x::xs) H2
section
variable{e:Expr}{es:pR Expr}{te:TE}{t:TA}{pos:Pos}
theorem zb:PA X [] zeU:=λ_ _ _ _ H Q I h=>Calls.spliced_nil ⟨[],H,I,.nil,h⟩
theorem yk(ha:PE X e te)(hr:PA X es t)(hs:starEach (e::es) X.env=(nW,eval e X.env)::starEach es X.env:=by rfl):PA X (e::es) (UP te t):=by
 intro pos pins s σ H Q I h;rw[hs];show wpAny _ _ (spliced ((nW,eval e X.env)::backTo pos (starEach es X.env))) _ _ s;refine Calls.spliced_cons (thn (ha pins s σ H _ I h) ?_);rintro u s1 ⟨x,H1,I1,r1,q1⟩;refine thn (hr pos pins s1 σ H1 _ I1 q1) ?_;rintro us s2 ⟨xs,H2,I2,r2,q2⟩;exact⟨x::xs,H2,I2,.cons r1 r2,q2⟩
def zon(t:TA):TE:=λσ H Q=>t σ H λxs H1=>xs.length<=sizeLine/\∀p,H1 p=jr->Q (.ref p) (upd H1 p (.tup xs))
def zp8(t:TA):TE:=λσ H Q=>t σ H λxs H1=>xs.length<=sizeLine/\∀p,H1 p=jr->Q (.ref p) (upd H1 p (.lst xs))
theorem zoo{x1}(h:PA X es t):PE X (.Tuple es x1 pos) (zon t):=by
 intro pins s σ H Q I hq;refine wpAny_Tuple_spliced (thn (h pos pins s σ H _ I hq) λus s1 ⟨xs,H1,I1,r,z,q⟩=>⟨by rw[<-r.length];exact z,?_⟩);have hf:H1 s1.heap.objs.size=jr:=I1.hok.fresh (uv _);refine⟨.ref s1.heap.objs.size,upd H1 s1.heap.objs.size (.tup xs),I1.laid (t':=s1.toks) (λb u e=>Heap.get?_push_of_some _ e) (uv _) ?_,rfl,q _ hf⟩;exact⟨z,us,r,⟨_,Heap.get?_push_size _ rfl,rfl,_,rfl,rfl⟩⟩
theorem zV(h:PA X es t):PE X (.List es pos) (zp8 t):=by
 intro pins s σ H Q I hq;refine wpAny_List_spliced (thn (h pos pins s σ H _ I hq) λus s1 ⟨xs,H1,I1,r,z,q⟩=>⟨by rw[<-r.length];exact z,?_⟩);have hf:H1 s1.heap.objs.size=jr:=I1.hok.fresh (uv _);refine⟨.ref s1.heap.objs.size,upd H1 s1.heap.objs.size (.lst xs),I1.laid (t':=s1.toks) (λb u e=>Heap.get?_push_of_some _ e) (uv _) ?_,rfl,q _ hf⟩;exact⟨z,us,0,r,Heap.get?_push_size _ rfl⟩
end
abbrev Sp:=pR V->Hp->VK->XK->Prop
abbrev CXT:=pR Env->Hp->qN->XK->qM->qN->Prop
structure zgj(P:Program)(w:World)(K:uk)(mg:Str->pT qM)(base:Heap)(A:Around)(outer:pR Env)(s:qN)(H:Hp):Prop where
 frames:A.frames=iJ outer
 mod:Mod K mg base
 bs:∀b o,base.get? b=iJ o->s.heap.get? b=iJ o/\H b=jr
 bsz:base.objs.size<=s.heap.objs.size
 funs:s.heap.FunFrames base outer
 frf:∀b∈frs outer,H b=jr
 hok:HOk P w H s.heap
 bare:AllBare s.gens
def CE(outer:pR Env)(P:Program)(w:World)(H:Hp)(s:qN)(Q:VK)(u:qM)(s':qN):Prop:=
 ∃v H',s'.os=s.os/\AllBare s'.gens/\Un (frs outer) [] H H' s.heap s'.heap/\HOk P w H' s'.heap/\yq v u/\Q v H'
def CR(CX:CXT)(outer:pR Env)(P:Program)(w:World)(H:Hp)(s:qN)(Q:VK)(E:XK)(r:Result)(s':qN):Prop:=
 match r with
 | .ok (.ret u)=>CE outer P w H s Q u s'
 | .ok _=>False
 | .error e=>CX outer H s E e s'
structure yh(P:Program)(w:World)(K:uk)(mg:Str->pT qM)(base:Heap)(CX:CXT)(k:Nat)(f:qY)(fd:FuncData)(ps:pR Str)(sp:Sp):Prop where
 len:∀vs H Q E,sp vs H Q E->vs.length=ps.length
 run:∀(A:Around) (outer:pR Env) (s:qN) (H:Hp) (args:Args) (us:pR qM) (vs:pR V) (Q:VK) (E:XK),Zr k A->zgj P w K mg base A outer s H->BindsTo s fd args (ps.zip us)->yd vs us->sp vs H Q E->
  codeAny (model P w) A (.call (.ref f) args) (CR CX outer P w H s Q E) s
theorem yh.imp{P:Program}{w:World}{base:Heap}{CX:CXT}{k:Nat}{f:qY}{fd:FuncData}{ps:pR Str}{sp sp':Sp}(F:yh P w K mg base CX k f fd ps sp)
  (h:∀vs H Q E,sp' vs H Q E->sp vs H Q E):yh P w K mg base CX k f fd ps sp':=
 ⟨λvs H Q E q=>F.len vs H Q E (h _ _ _ _ q),λA outer s H args us vs Q E hr he hb hv hs=>F.run A outer s H args us vs Q E hr he hb hv (h _ _ _ _ hs)⟩
theorem zgj.make{P:Program}(e:zgj P w K mg base A outer s H)(C:qY)(us:pR qM)(kw:pR (Str×qM)):
  zgj P w K mg base (A.under (.builtin "type.__call__" ⟨.ref C::us,kw⟩)) outer s H:=⟨by first|exact e.frames|(simpa [Around.under,Code.envs,Code.isFrame,pushEnvs] using e.frames),e.mod,e.bs,e.bsz,e.funs,e.frf,e.hok,e.bare⟩
section
theorem Inv.env0(I:Inv X pins σ H s):zgj X.prog X.w X.K X.mg X.base X.A X.stack s H:=
 ⟨I.ok.frames,I.ok.mod,I.bs,v5 I.ok.bsz I.sz,I.stack,I.stkFree,I.hok,I.bare⟩
theorem Inv.after{Q:VK}(I:Inv X pins σ H s)(h:CE X.stack X.prog X.w H s Q u s'):EP X pins σ Q u s':=by
 obtain⟨v,H',os,bare,un,hok,r,q⟩:=h;obtain⟨hh,g,d,t,os'⟩:=s';obtain rfl:os'=s.os:=os;exact⟨v,H',I.call (h':=hh) (g':=g) (d':=d) (t':=t) (ch:=[]) un hok bare (λb z=>absurd z (by simp)),r,q⟩
end
def znx(sp:Sp)(fW:pR V)(E:XK)(t:TA):TE:=λσ H Q=>t σ H λvs H1=>sp (vs++fW) H1 Q E
def zjB(C:qY)(m:Str)(sp:Sp)(fW:pR V)(E:XK)(ta:TE)(t:TA):TE:=λσ H Q=>ta σ H λx H1=>∃a dx fs,x= .ref a/\H1 a=iJ (.ins C dx fs)/\fs.lookup m=jr/\
 t σ H1 λvs H2=>sp (x::(vs++fW)) H2 Q E
def zny(C:qY)(sp:Sp)(fW:pR V)(E:XK)(t:TA):TE:=λσ H Q=>t σ H λvs H1=>∀x dx,H1 x=jr->H1 dx=jr->dx≠x->
 sp (.ref x::(vs++fW)) (upd (upd H1 dx (.own x)) x (.ins C dx [])) (λv H2=>v= .non/\Q (.ref x) H2) E
def Vt(K:uk)(fd:FuncData)(ps:pR Str)(ds:pR qM):Prop:=
 ∀(s:qN) (us:pR qM),K.In s.heap->(us++ds).length=ps.length->BindsTo s fd ⟨us,[]⟩ (ps.zip (us++ds))
theorem Vt.all{fd:FuncData}{ps:pR Str}(h:∀us:pR qM,us.length=ps.length->bindArgs fd ⟨us,[]⟩=pure (ps.zip us)):Vt K fd ps []:=λs us _ hl=>by
 rw[z6] at hl ⊢;exact .of_eq (h us hl)
def VA(CX:CXT)(X:Cx)(E:XK):Prop:=∀(pins:pR (qY×Obj)) (σ:St) (H:Hp) (s:qN) (e:qM) (s':qN),Inv X pins σ H s->CX X.stack H s E e s'->X.xe e s'
section
variable{E:XK}
theorem zgk{Q:VK}(F:yh X.prog X.w X.K X.mg X.base CX k f fd ps sp)(hr:Zr k X.A)(hb:Vt X.K fd ps ds)(hd:yd fW ds)(hx:VA CX X E)
  (I:Inv X pins σ H s) (r:yd vs us) (h:sp (vs++fW) H Q E):wpAny (model X.prog X.w) X.A (call (.ref f) us) (EP X pins σ Q) X.xe s:=by
 have r2:yd (vs++fW) (us++ds):=r.append hd;have hl:(us++ds).length=ps.length:=by rw[<-r2.length];exact F.len _ _ _ _ h
 refine wpAny_call (codeAny_mono (F.run X.A X.stack s H ⟨us,[]⟩ (us++ds) (vs++fW) Q E hr I.env0 (hb s us I.kIn hl) r2 h) λr s' hq=> ?_);cases r with
 |error e=>exact hx pins σ H s e s' I hq
 |ok fl=>
  cases fl with
  |ret u=>exact I.after hq
  |next=>exact Ab hq
  |brk=>exact Ab hq
  |cont=>exact Ab hq
theorem zlX(F:yh X.prog X.w X.K X.mg X.base CX k f fd ps sp)(hr:Zr k X.A)(hg:Gl X x)(hm:X.mg x=iJ (.ref f))(hk:Av X.K (.ref f)=jD)(hb:Vt X.K fd ps ds)(hd:yd fW ds)(hx:VA CX X E)
  (ha:PA X (e::es) t) (kD:(x==("__debug__":Str))=nW:=by decide) (he:starEach (e::es) X.env=(nW,eval e X.env)::starEach es X.env:=by rfl) (jv:(backTo pos (starEach es X.env)).any (·.1)=nW:=by rfl):
  PE X (.Call (.Name x p) (e::es) [] pos) (znx sp fW E t):=by
 intro pins s σ H Q I h;refine wpAny_Call_Name_kw (Uv I hg hm ?_ kD);refine BH (h₀:=X.base) I.ok.mod.kin hk (thn (ha pos pins s σ H _ I h) ?_) he jv;rintro us s1 ⟨vs,H1,I1,r,q⟩;refine⟨I1.kIn,?_⟩;exact zgk F hr hb hd hx I1 r q
theorem Tv(he:PE X o ta)(c:Cls X.K C)(hm:zlV X.K C m f)(F:yh X.prog X.w X.K X.mg X.base CX k f fd ps sp)(hr:Zr k X.A)(hb:Vt X.K fd ps ds)(hd:yd fW ds)(hx:VA CX X E)(ha:PA X (e::es) t)
  (gL:starEach (e::es) X.env=(nW,eval e X.env)::starEach es X.env:=by rfl) (jv:(backTo pos (starEach es X.env)).any (·.1)=nW:=by rfl)
  (ht:eval (.Call (.Attribute o m apos) (e::es) [] pos) X.env=(do
   let ov <-eval o X.env
   standAt apos.atName
   let (f,first) <-holding [ov] (getMethod ov m pl)
   callWith pos f first (backTo pos (starEach (e::es) X.env)) (backToKw pos (keywordEach [] X.env))):=by rfl):
  PE X (.Call (.Attribute o m apos) (e::es) [] pos) (zjB C m sp fW E ta t):=by
 intro pins s σ H Q I h;refine D5 (pl:=pl) (thn (he pins s σ H _ I h) ?_) ht;rintro u s1 ⟨x,H1,I1,rx,a,dx,fs,ex,ea,l,q⟩;subst ex;obtain rfl:u=Value.ref a:=rx;refine zbT I1 ea c hm l ?_;refine BH (first:=[.ref a]) (h₀:=X.base) I.ok.mod.kin hm.kp (thn (ha pos pins s1 σ H1 _ I1 q) ?_) gL jv;rintro us s2 ⟨vs,H2,I2,r,q2⟩;refine⟨I2.kIn,?_⟩;exact zgk (us:= .ref a::us) (vs:= .ref a::vs) F hr hb hd hx I2 (.cons rfl r) q2
theorem ZY(he:PE X o ta)(c:Cls X.K C)(hm:zlV X.K C m f)(F:yh X.prog X.w X.K X.mg X.base CX k f fd ps sp)(hr:Zr k X.A)(hb:Vt X.K fd ps ds)(hd:yd fW ds)(hx:VA CX X E)
  (ht:eval (.Call (.Attribute o m apos) [] [] pos) X.env=(do
   let ov <-eval o X.env
   standAt apos.atName
   let (f,first) <-holding [ov] (getMethod ov m pl)
   callWith pos f first (backTo pos (starEach [] X.env)) (backToKw pos (keywordEach [] X.env))):=by rfl):
  PE X (.Call (.Attribute o m apos) [] [] pos) (zjB C m sp fW E ta zeU):=by
 intro pins s σ H Q I h;refine D5 (pl:=pl) (thn (he pins s σ H _ I h) ?_) ht;rintro u s1 ⟨x,H1,I1,rx,a,dx,fs,ex,ea,l,q⟩;subst ex;obtain rfl:u=Value.ref a:=rx;refine zbT I1 ea c hm l ?_;exact PySem.W.callWith_K0 (first:=[.ref a]) I1.kIn hm.kp (zgk (us:=[.ref a]) (vs:=[.ref a]) F hr hb hd hx I1 (.cons rfl .nil) q)
structure Mk(K:uk)(C f:qY):Prop where
 makes:CN K C=jD
 init:uE K (.ref C) "__init__"=iJ (iJ (.ref f))
 fn:C5 K (.ref f)=jD
 kp:Av K (.ref C)=jD
theorem zjC{Q:VK}(M:Mk X.K C f)(F:yh X.prog X.w X.K X.mg X.base CX k f fd ps sp)(hr:Zr (k+1) X.A)(hb:Vt X.K fd ps ds)(hd:yd fW ds)
  (hx:VA CX X E) (I:Inv X pins σ H s) (r:yd vs us)
  (h:∀x dx,H x=jr->H dx=jr->dx≠x->sp (.ref x::(vs++fW)) (upd (upd H dx (.own x)) x (.ins C dx [])) (λv H2=>v= .non/\Q (.ref x) H2) E):
  wpAny (model X.prog X.w) X.A (call (.ref C) us) (EP X pins σ Q) X.xe s:=by
 have hq:=h (s.heap.objs.size+1) s.heap.objs.size (I.hok.fresh (B3 _)) (I.hok.fresh (uv _)) (uR (A4 _));have I2:=Inv.made (C:=C) I;have r2:yd (V.ref (s.heap.objs.size+1)::(vs++fW)) (Value.ref (s.heap.objs.size+1)::(us++ds)):= .cons rfl (r.append hd);have hl:(Value.ref (s.heap.objs.size+1)::us++ds).length=ps.length:=by
  have e:=r2.length;rw[F.len _ _ _ _ hq] at e;exact e.symm
 refine wpAny_call (zjA (f:=f) I.kIn M.makes M.init (beq_iff_eq.mp M.fn) (codeAny_mono (F.run _ X.stack _ _ ⟨Value.ref (s.heap.objs.size+1)::us,[]⟩ (Value.ref (s.heap.objs.size+1)::(us++ds)) _ _ E (hr.make C us [])
  (I2.env0.make C us []) (hb _ (Value.ref (s.heap.objs.size+1)::us) I2.kIn hl) r2 hq) λr s' lB=> ?_))
 cases r with
 |error e=>exact hx pins σ _ _ e s' I2 lB
 |ok fl=>
  cases fl with
  |ret u=>
   obtain⟨v,H',I3,rv,ev,q3⟩:=I2.after lB;subst ev;exact⟨rv,⟨V.ref (s.heap.objs.size+1),H',I3,rfl,q3⟩⟩
  |next=>exact Ab lB
  |brk=>exact Ab lB
  |cont=>exact Ab lB
theorem zlY(M:Mk X.K C f)(F:yh X.prog X.w X.K X.mg X.base CX k f fd ps sp)(hr:Zr (k+1) X.A)(hg:Gl X x)(hm:X.mg x=iJ (.ref C))(hb:Vt X.K fd ps ds)(hd:yd fW ds)(hx:VA CX X E)
  (ha:PA X (e::es) t) (kD:(x==("__debug__":Str))=nW:=by decide) (he:starEach (e::es) X.env=(nW,eval e X.env)::starEach es X.env:=by rfl) (jv:(backTo pos (starEach es X.env)).any (·.1)=nW:=by rfl):
  PE X (.Call (.Name x p) (e::es) [] pos) (zny C sp fW E t):=by
 intro pins s σ H Q I h;refine wpAny_Call_Name_kw (Uv I hg hm ?_ kD);refine BH (h₀:=X.base) I.ok.mod.kin M.kp (thn (ha pos pins s σ H _ I h) ?_) he jv;rintro us s1 ⟨vs,H1,I1,r,q⟩;refine⟨I1.kIn,?_⟩;exact zjC M F hr hb hd hx I1 r q
end
section
variable{CX:CXT}{k:Nat}{f C:qY}{fd:FuncData}{ps ks:pR Str}{sp:Sp}{E:XK}{x m:Str}{p pos apos r6:Pos}{e o:Expr}{es:pR Expr}{tO:pR Keyword}{te ta:TE}{t tk:TA}{nm:pT Str}
structure zq9(K:uk)(fd:FuncData)(ps ks:pR Str)(g:pR qM->pR qM->pR qM)(gV:pR V->pR V->pR V):Prop where
 to:∀(s:qN) (us ws:pR qM),K.In s.heap->(g us ws).length=ps.length->BindsTo s fd ⟨us,ks.zip ws⟩ (ps.zip (g us ws))
 rel:∀{vs:pR V} {us:pR qM} {zs:pR V} {ws:pR qM},yd vs us->yd zs ws->yd (gV vs zs) (g us ws)
variable{g:pR qM->pR qM->pR qM}{gV:pR V->pR V->pR V}
end
structure zC(N P:pR Str)(sc:Scope):Prop where
 kind:sc.kind= .function
 co:sc.isCoroutine=nW
 gen:sc.isGenerator=nW
 nd:N.Nodup
 pre:N.take P.length=P
 par:∀x∈P,sc.names.lookup x=iJ .local\/sc.names.lookup x=iJ .cell
 nofree:∀y∈sc.names,y.2≠ .free
theorem zdk{kindOf:Str->pT NameKind}{binds:pR (Str×qM)}{m:Str->pT qM}(h:∀v,(x,v)∉binds):bindL kindOf binds m x=m x:=by
 induction binds generalizing m with
 |nil=>rfl
 |cons y r i=>
  obtain⟨n,v⟩:=y;unfold bindL;rw[i λw hw=>h w (uG _ hw)];split
  .have:x≠n:=by rintro rfl;exact h v uK
   simp[this]
  .rfl
theorem zdl{kindOf:Str->pT NameKind}{binds:pR (Str×qM)}{m:Str->pT qM}(h:∀v,(x,v)∉binds):bindC kindOf binds m x=m x:=by
 induction binds generalizing m with
 |nil=>rfl
 |cons y r i=>
  obtain⟨n,v⟩:=y;unfold bindC;rw[i λw hw=>h w (uG _ hw)];split
  .rfl
  .have:x≠n:=by rintro rfl;exact h v uK
   simp[this]
theorem zdm{kindOf:Str->pT NameKind}:∀{P:pR Str} {vs:pR qM} {i:Nat} {m:Str->pT qM},P.Nodup->P[i]? =iJ x->vs[i]? =iJ v->kindOf x=iJ .local->
  bindL kindOf (P.zip vs) m x=iJ v
 |[],_,_,_,_,h,_,_=>by simp at h
 |_::_,[],_,_,_,_,h,_=>by simp at h
 |p::P,w::vs,0,m,nd,h1,h2,hk=>by
  simp at h1 h2;subst h1;subst h2;show bindL kindOf ((p,w)::P.zip vs) m p=_;unfold bindL;rw[zdk λv hv=>(Az.mp nd).1 (CP hv).1,if_pos hk];simp
 |p::P,w::vs,i+1,m,nd,h1,h2,hk=>by
  show bindL kindOf ((p,w)::P.zip vs) m x=_;unfold bindL;exact zdm (i:=i) (Az.mp nd).2 (by simpa using h1) (by simpa using h2) hk
theorem zdn{kindOf:Str->pT NameKind}:∀{P:pR Str} {vs:pR qM} {i:Nat} {m:Str->pT qM},P.Nodup->P[i]? =iJ x->vs[i]? =iJ v->kindOf x≠iJ .local->
  bindC kindOf (P.zip vs) m x=iJ v
 |[],_,_,_,_,h,_,_=>by simp at h
 |_::_,[],_,_,_,_,h,_=>by simp at h
 |p::P,w::vs,0,m,nd,h1,h2,hk=>by
  simp at h1 h2;subst h1;subst h2;show bindC kindOf ((p,w)::P.zip vs) m p=_;unfold bindC;rw[zdl λv hv=>(Az.mp nd).1 (CP hv).1,if_neg hk];simp
 |p::P,w::vs,i+1,m,nd,h1,h2,hk=>by
  show bindC kindOf ((p,w)::P.zip vs) m x=_;unfold bindC;exact zdn (i:=i) (Az.mp nd).2 (by simpa using h1) (by simpa using h2) hk
noncomputable def VB(N:pR Str)(vs:pR V):St:=vs.map iJ++uI (N.length-vs.length) jr
noncomputable def zaH(CX:CXT)(P:Program)(w:World)(K:uk)(mg:Str->pT qM)(base:Heap)(N:pR Str)(qual:Str)(scope:Scope)(f:qY)(cd:qM)(A:Around)(outer:pR Env)(s:qN)(H:Hp)(E:XK):Cx where
 prog:=P
 w:=w
 K:=K
 mg:=mg
 base:=base
 A:=A.deeper (envOfC qual scope s.heap.objs.size f cd)
 N:=N
 s₀:=s
 H₀:=H
 env:=envOfC qual scope s.heap.objs.size f cd
 outer:=outer
 stack:=envOfC qual scope s.heap.objs.size f cd::outer
 ex:=[]
 calm:=jD
 fn:=λ_=>jD
 pn:=[]
 xe:=λe s'=>wpAny (model P w) (A.deeper (envOfC qual scope s.heap.objs.size f cd)) (leaving (envOfC qual scope s.heap.objs.size f cd) e) (λ_ s''=>CX outer H s E e s'') (λe' s''=>CX outer H s E e' s'') s'
theorem zeV{sc:Scope}{n:Nat}{x:Str}(h:sc.names.lookup x=iJ .cell):∃c,(cellsFrom n sc.names []).lookup x=iJ c:=by
 have q:=CZ sc.names n [] (.inl h);exact B7.mp q
theorem ziw{CX:CXT}{P:Program}{w:World}{base:Heap}{N ps:pR Str}{qual:Str}{scope:Scope}{f:qY}{cd:qM}{outer:pR Env}{s1:qN}{E:XK}{us:pR qM}{vs:pR V}
  (S:zC N ps scope) (hd:A.handled=jr) (e0:zgj P w K mg base A outer s H) (hl:vs.length=ps.length) (r:yd vs us)
  (x:InCallC s s.heap.objs.size (bindL (envOfC qual scope s.heap.objs.size f cd).kindOf (ps.zip us) λ_=>jr) (cellsFrom (s.heap.objs.size+1) scope.names []) (bindC (envOfC qual scope s.heap.objs.size f cd).kindOf (ps.zip us) λ_=>jr) s1):
  Inv (zaH CX P w K mg base N qual scope f cd A outer s H E) [] (VB N vs) H s1:=by
 have jv:ps.length<=N.length:=by have:=congrArg BX S.pre;rw[z4] at this;omega
 obtain⟨h1,tk,rfl,hk⟩:=x.done;have mo:∀b:qY,b∉(zaH CX P w K mg base N qual scope f cd A outer s H E).ex:=λb z=>absurd (show b∈([]:pR qY) from z) (by simp)
 refine⟨⟨e0.mod,S.kind,rfl,rfl,uv _,λy z c h1 h2=> ?_,λy hy=> ?_,λy c _ h=> ?_,λ_=>hd,Around.frames_deeper e0.frames,.inr ⟨rfl,rfl⟩,λb z=>absurd z (mo b),e0.bs,e0.bsz,λb _ _=>mo b,λb z=>absurd z (mo b),e0.funs,e0.frf⟩,
  rfl,e0.bare,Un.kept hk,⟨_,x.toInCall.ns,λi y v h1 h2 h3=> ?_⟩,λy c h=>⟨_,x.cell y c h⟩,e0.hok.fresh (uv _),λy c h=> ?_,λp hp=>absurd (show p∈([]:pR (qY×Obj)) from hp) (by simp),e0.hok.kept hk,?_⟩
 .exact name_of_addr x.apart (An h1) (An h2)
 .have hy:scope.names.lookup y=iJ .cell\/scope.names.lookup y=iJ .free:=hy;rcases hy with hy|hy
  .exact zeV hy
  .exact absurd rfl (S.nofree _ (An hy))
 .exact z3 (x.above y c (An h))
 .have hi:i<vs.length:=by
   unfold VB at h2;by_cases hi:i<vs.length
   .exact hi
   .rw[uL (by simpa using hi)] at h2;rw[BO] at h2;split at h2<;>cases h2
  have ha:vs[i]? =iJ v:=by
   unfold VB at h2;rw[uB (by simpa using hi),uA] at h2;cases e:vs[i]? with
   |none=>rw[e] at h2;cases h2
   |some a=>rw[e] at h2;cases h2;rfl
  obtain⟨u,hu,rv⟩:=r.get ha;have hp:ps[i]? =iJ y:=by
   rw[<-S.pre,CG ⋯];exact h1
  have pZ:ps.Nodup:=by rw[<-S.pre];exact S.nd.sublist (List.take_sublist _ _)
  refine⟨u,rv,?_⟩;rcases S.par y (x8 hp) with k|k
  .exact .inl ⟨k,zdm pZ hp hu k⟩
  .obtain⟨c,e⟩:=zeV (n:=s.heap.objs.size+1) k;refine .inr ⟨.inl k,c,e,?_⟩;have q:=x.cell y c e;rw[zdn pZ hp hu (by show scope.names.lookup y≠_;rw[k];decide)] at q;exact q
 .exact e0.hok.fresh (z3 (x.above y c (An h)))
 .unfold VB;show _=N.length;rw[ur,um,Aw];omega
theorem zp9{P:Program}{dV kV doc pm aP ct oc:qM}{N ps:pR Str}(lk:K.lookup f=iJ ⟨oc,od,.func (AO name qual params body scope dV kV doc pm an aP ct),js⟩)(ip:BL K aP qual=jD)(S:zC N ps scope)
  (len:∀vs H Q E,sp vs H Q E->vs.length=ps.length)
  (jO:∀(A:Around) (outer:pR Env) (s:qN) (H:Hp) (vs:pR V) (Q:VK) (E:XK),Zr k (A.deeper (envOfC qual scope s.heap.objs.size f aP))->sp vs H Q E->
   ∃t,PSs (zaH CX P w K mg base N qual scope f aP A outer s H E) body t/\t {nx:=λ_ H'=>Q .non H',rt:=Q} (VB N vs) H):
  yh P w K mg base CX (k+1) f (AO name qual params body scope dV kV doc pm an aP ct) ps sp:=by
 refine⟨len,λA outer s H args us vs Q E hr e0 hb r j9=> ?_⟩;have hl:=len _ _ _ _ j9;have KX:K.In s.heap:=e0.mod.kin.keeps λb o e=>(e0.bs b o e).1;have lim:s.heap.NoLimit:=e0.mod.nolimit.keeps λb o e=>(e0.bs b o e).1;have mL:∀y∈ps.zip us,scope.names.lookup y.1=iJ .local\/(scope.names.lookup y.1=iJ .cell/\((cellsFrom (s.heap.objs.size+1) scope.names []).lookup y.1).isSome=jD):=λ⟨n,v⟩ hy=>by
  rcases S.par n (CP hy).1 with q|q
  .exact .inl q
  .exact .inr ⟨q,CZ _ _ _ (.inl q)⟩
 refine codeAny_call_function hr.depth (KX _ _ lk) rfl S.co S.gen rfl (PySem.W.codeRec_of KX ip) (hb _ _ _ _ ?_);refine wpAny_newFunctionEnv_cells S.kind mL λenv he s1 x=> ?_;subst he;refine⟨lim.keeps x.toInCall.keep,codeAny_func ?_⟩;obtain⟨t,ht,hq⟩:=jO A outer s H vs Q E (hr.deeper _) j9;have I:Inv (zaH CX P w K mg base N qual scope f aP A outer s H E) [] (VB N vs) H s1:=ziw S hr.hd e0 hl r x;refine wpAny_mono (ht [] s1 (VB N vs) H _ I hq) (λfl s' hs=> ?_) λe s' hs=>hs;have fin:∀{σ':St} {H':Hp} {v:V} {u:qM},Inv (zaH CX P w K mg base N qual scope f aP A outer s H E) [] σ' H' s'->yq v u->Q v H'->CE outer P w H s Q u s':=
  λ{σ' H' v u} J rv q=>⟨v,H',J.os,J.bare,J.base,J.hok,rv,q⟩
 cases fl with
 |ret u=>
  obtain⟨v,σ',H',J,rv,q⟩:=hs;exact fin J rv q
 |next=>
  obtain⟨σ',H',J,q⟩:=hs;exact fin (v:=V.non) (u:=Value.none) J rfl q
 |brk=>
  obtain⟨_,_,_,q⟩:=hs;exact Ab q
 |cont=>
  obtain⟨_,_,_,q⟩:=hs;exact Ab q
section
variable{x:Str}{p pos:Pos}{e:Expr}{es:pR Expr}{t:TA}{id T:String}{r:pR V->Hp->VK->Prop}
def tCB(r:pR V->Hp->VK->Prop)(t:TA):TE:=λσ H Q=>t σ H λvs H1=>r vs H1 Q
theorem zx(hc:wX X (.builtin id) r)(hg:Gl X x)(hm:X.mg x=jr)(hv:bootBuiltins x=iJ (.builtin id))(ha:PA X (e::es) t)(hn:x≠"__name__":=by decide)(kD:(x==("__debug__":Str))=nW:=by decide)
  (he:starEach (e::es) X.env=(nW,eval e X.env)::starEach es X.env:=by rfl) (jv:(backTo pos (starEach es X.env)).any (·.1)=nW:=by rfl):PE X (.Call (.Name x p) (e::es) [] pos) (tCB r t):=by
 intro pins s σ H Q I h;refine wpAny_Call_Name_kw (UZ I hg hm hv ?_ hn kD);refine C7 (thn (ha pos pins s σ H _ I h) ?_) he jv;rintro us s1 ⟨vs,H1,I1,r1,q1⟩;exact hc pins s1 σ H1 vs us Q I1 r1 q1
theorem yG(hc:wX X (.type T) r)(hg:Gl X x)(hm:X.mg x=jr)(hv:bootBuiltins x=iJ (.type T))(ha:PA X (e::es) t)(hn:x≠"__name__":=by decide)(kD:(x==("__debug__":Str))=nW:=by decide)
  (he:starEach (e::es) X.env=(nW,eval e X.env)::starEach es X.env:=by rfl) (jv:(backTo pos (starEach es X.env)).any (·.1)=nW:=by rfl):PE X (.Call (.Name x p) (e::es) [] pos) (tCB r t):=by
 intro pins s σ H Q I h;refine wpAny_Call_Name_kw (UZ I hg hm hv ?_ hn kD);refine Bq (thn (ha pos pins s σ H _ I h) ?_) he jv;rintro us s1 ⟨vs,H1,I1,r1,q1⟩;exact hc pins s1 σ H1 vs us Q I1 r1 q1
end
end L2
variable{prog:PySem.Program}{A:PySem.Around}{E:PySem.Value->PySem.Shared->Prop}{X:L2.Cx}{K:uk}{pins:pR (PySem.Addr×PySem.Obj)}{σ:L2.St}{H:L2.Hp}{s:PySem.Shared}{Q:PySem.Value->PySem.Shared->Prop}{mg:PySem.Str->pT PySem.Value}
namespace HT
open PySem PyProof.Rows
section
open PySem.SeqAt
open PySem.AutoSeq1 (wpAny_loadPart')
open PySem.MeetsSeq PySem.MeetsSeq2 PySem.MeetsSeq3
end
section
theorem zlZ(ht:IsTup s.heap t vs.toArray)(hb:IsTup s.heap b ws.toArray)(hv:vs≠[])
  (h1:ws=[]->Q (.ref t) s) (h2:ws≠[]->Q (.ref s.heap.objs.size) {s with heap:=s.heap.push {cls:= .type "tuple",data:= .seq (vs++ws).toArray}})
  (iW:vs.length+ws.length<=sizeLine):wpAny (model prog w) A (binaryOp .Add (.ref t) (.ref b)) Q E s:=by
 obtain⟨⟨cls,dd,data,sl⟩,ho,hc,n,hd⟩:=id ht;obtain⟨⟨pP,nT,data2,lT⟩,lF,jb,n2,hd2⟩:=id hb;simp only at hc hd jb hd2;subst hc hd jb hd2;have e:vs.toArray++ws.toArray=(vs++ws).toArray:=by simp
 by_cases hw:ws=[]
 .exact concat_meets ⟨_,ho,rfl⟩ ⟨_,lF,rfl⟩ noFill_tuple_add seq_tuple_add BZ BP (BI _ _)
   (tuple_addW1 t b vs.toArray ws.toArray n n2 dd nT sl lT (by simpa using hv) (by simp[hw])) ⟨ho,lF,h1 hw⟩
 .refine concat_meets ⟨_,ho,rfl⟩ ⟨_,lF,rfl⟩ noFill_tuple_add seq_tuple_add BZ BP (BI _ _)
   (tuple_addW2 t b vs.toArray ws.toArray n n2 dd nT sl lT (by simpa using hv) (by simpa using hw) (by rw[uD,uD];exact iW)) ⟨ho,lF,?_⟩
  rw[e];exact h2 hw
noncomputable def sIx(n d:Nat):pT Int->Nat
 |none=>d
 |some v=>if v<0 then (v+(n:Int)).toNat else min v.toNat n
theorem zbV(n d:Nat):sIx n d jr=d:=rfl
theorem zhk(n d k:Nat):sIx n d (iJ (k:Int))=min k n:=by
 show(if (k:Int)<0 then ((k:Int)+(n:Int)).toNat else min (k:Int).toNat n)=min k n;rw[if_neg ⋯,A7]
theorem zop(n d:Nat)(hd:d<=n)(o:pT Int):sIx n d o<=n:=by
 cases o with
 |none=>exact hd
 |some v=>
  show(if v<0 then (v+(n:Int)).toNat else min v.toNat n)<=n;by_cases hv:v<0
  .rw[if_pos hv];omega
  .rw[if_neg hv];exact Nat.min_le_right _ _
theorem zhl(v:Int)(n d:Nat):(if v<0 then max (v+(n:Int)) 0 else min v (n:Int))=((sIx n d (iJ v):Nat):Int):=by
 show(if v<0 then max (v+(n:Int)) 0 else min v (n:Int))=(((if v<0 then (v+(n:Int)).toNat else min v.toNat n):Nat):Int);by_cases hv:v<0
 .simp only[if_pos hv];omega
 .simp only[if_neg hv];omega
theorem zgl(lo hi:pT Int)(n:Nat):Builtin.Slice.sliceAdjust lo hi 1 (n:Int)=(((sIx n 0 lo:Nat):Int),((sIx n n hi:Nat):Int)):=by
 have h1:¬((1:Int)<0):=by omega
 unfold Builtin.Slice.sliceAdjust;simp only[h1,if_false];refine Prod.ext ?_ ?_
 .cases lo with
  |none=>rfl
  |some v=>exact zhl v n 0
 .cases hi with
  |none=>rfl
  |some v=>exact zhl v n n
theorem zgm(i j:Nat):Builtin.Slice.slicePlaces (i:Int) (j:Int) 1=j-i:=by
 unfold Builtin.Slice.slicePlaces;have h1:(1:Int)>0:=by omega
 simp only[h1,if_true,Int.ediv_one];split<;>omega
theorem YX{Q:pT Int->qN->Prop}(p:IsPart v o)(h:Q o s):wpAny (model prog w) A (Builtin.Slice.slicePartIndex v) Q E s:=by
 cases p with
 |none=>exact slicePart_none h
 |int i t=>exact slicePart_int h
theorem Wp{sl:qY}{vl vu:qM}{lo hi:pT Int}{n:Nat}{Q:Int×Int×Nat->qN->Prop}(hs:s.heap.IsSliceOf sl vl vu .none)(pl:IsPart vl lo)(pu:IsPart vu hi)
  (h:Q (((sIx n 0 lo:Nat):Int),1,sIx n n hi-sIx n 0 lo) s):wpAny (model prog w) A (Builtin.Slice.sliceApplied (.ref sl) (pure (n:Int))) Q E s:=by
 obtain⟨os,jB,lL,kj⟩:=id hs;unfold Builtin.Slice.sliceApplied Builtin.Slice.sliceFields;refine wpAny_bind (wpAny_bind (wpAny_field jB kj (x:=vl) rfl (wpAny_bind (wpAny_field jB kj (x:=vu) rfl (wpAny_bind (wpAny_field jB kj (x:= .none) rfl (wpAny_pure ?_)))))));refine wpAny_bind (slicePart_none ?_);show wpAny _ _ (if ((1:Int)==0)=jD then _ else _) _ _ s;rw[if_neg ∅];refine wpAny_bind (YX pl (wpAny_bind (YX pu (wpAny_bind (wpAny_pure ?_)))));show wpAny _ _ (match Builtin.Slice.sliceAdjust lo hi 1 (n:Int) with|(lo,hi)=>pure (lo,(1:Int),Builtin.Slice.slicePlaces lo hi 1)) _ _ s;rw[zgl lo hi n];show wpAny _ _ (pure (((sIx n 0 lo:Nat):Int),(1:Int),Builtin.Slice.slicePlaces ((sIx n 0 lo:Nat):Int) ((sIx n n hi:Nat):Int) 1)) _ _ s;rw[zgm];exact wpAny_pure h
theorem zjD(xs:Array qM)(i k:Nat):((y2 k).filterMap λ(m:Nat)=>xs[((i:Int)+(m:Int)*1).toNat]?).toArray=((xs.toList.drop i).take k).toArray:=by
 have e:(λ(m:Nat)=>xs[((i:Int)+(m:Int)*1).toNat]?)=λm=>xs[i+m]? :=by
  funext m;have:((i:Int)+(m:Int)*1).toNat=i+m:=by omega
  rw[this]
 rw[e];have:=pick_run xs i k;rw[List.filterMap_map] at this;have e2:((λx=>xs[x]?) ∘ λx=>i+x)=λm=>xs[i+m]? :=rfl;rw[e2] at this;rw[this]
theorem Tw{t sl:qY}{items:Array qM}{vl vu:qM}{lo hi:pT Int}(ht:IsTup s.heap t items)(hs:s.heap.IsSliceOf sl vl vu .none)(pl:IsPart vl lo)(pu:IsPart vu hi)
  (hw:¬(sIx items.size 0 lo=0/\sIx items.size items.size hi=items.size))
  (h:Q (.ref s.heap.objs.size) {s with heap:=s.heap.push {cls:= .type "tuple",data:= .seq ((items.toList.drop (sIx items.size 0 lo)).take (sIx items.size items.size hi-sIx items.size 0 lo)).toArray}})
  (iW:items.size<=sizeLine):wpAny (model prog w) A (getItem (.ref t) (.ref sl)) Q E s:=by
 have fU:sizeOk (.seq ((items.toList.drop (sIx items.size 0 lo)).take (sIx items.size items.size hi-sIx items.size 0 lo)).toArray):=by
  show((items.toList.drop (sIx items.size 0 lo)).take (sIx items.size items.size hi-sIx items.size 0 lo)).toArray.size<=sizeLine;rw[uD,z4,AJ,Bz];omega
 have hj:sIx items.size items.size hi<=items.size:=zop _ _ (uv _) hi;obtain⟨os,jB,lL,kj⟩:=id hs;have n8:s.TypeIs (.ref sl) "slice":=⟨os,jB,lL⟩;unfold getItem
 try with_reducible refine wpAny_holding ?_
 first|refine wpAny_bind (wpAny_pure ?_)|skip
 refine wpAny_bind (wpAny_sequenceKey ht.typeIs ∅ ?_)
 refine wpAny_bind (wpAny_callSpecial?_slot (name:=Str.ofString "__getitem__") ht.typeIs y4
  (wpAny_call_entry y4 ht.typeIs entry_tuple_getitem ?_ (args_tuple_getitem _ _)))
 show wpAny _ _ (Builtin.Tuple.tupleItemsOf (.ref t)>>=_) _ _ s;refine wpAny_bind (tupleItemsOf_ ht ?_);refine wpAny_bind (wpAny_typeOf n8 ?_);rw[if_pos ∅];refine wpAny_bind (Wp hs pl pu ?_);have si:¬((((sIx items.size 0 lo:Nat):Int)==0&&(1:Int)==1&&(sIx items.size items.size hi-sIx items.size 0 lo)==items.size)=jD):=by
  intro q;rw[v9,v9] at q;have q1:((sIx items.size 0 lo:Nat):Int)=0:=eq_of_beq q.1.1;have q2:sIx items.size items.size hi-sIx items.size 0 lo=items.size:=eq_of_beq q.2;exact hw ⟨⋯,⋯⟩
 show wpAny _ _ (if (((sIx items.size 0 lo:Nat):Int)==0&&(1:Int)==1&&(sIx items.size items.size hi-sIx items.size 0 lo)==items.size)=jD then _ else _) _ _ s;rw[if_neg si,zjD]
 first
  |exact wpAny_bind (m:=Builtin.Tuple.tupleExact _) (wpAny_newObj_type (wpAny_pure ⟨_,rfl,wpAny_pure h⟩) fU)
  |exact wpAny_bind (m:=Builtin.Tuple.tupleExact _) (wpAny_newObj_type (wpAny_bind (wpAny_pure (wpAny_pure ⟨_,rfl,wpAny_pure h⟩))) fU)
  |exact wpAny_bind (wpAny_bind (m:=Builtin.Tuple.tupleExact _) (wpAny_newObj_type (wpAny_pure (wpAny_pure ⟨_,rfl,wpAny_pure h⟩)) fU))
  |exact wpAny_bind (wpAny_bind (m:=Builtin.Tuple.tupleExact _) (wpAny_newObj_type (wpAny_pure ⟨_,rfl,wpAny_pure h⟩) fU))
end
end HT
namespace L2
open PySem PySem.Spec PyProof.Rows
abbrev TO:=St->Hp->(pT Int->Hp->Prop)->Prop
def PO(X:Cx)(e:pT Expr)(t:TO):Prop:=
 ∀(pins:pR (qY×Obj)) (s:qN) (σ:St) (H:Hp) (Q:pT Int->Hp->Prop),Inv X pins σ H s->t σ H Q->
  wpAny (model X.prog X.w) X.A (evalPart e X.env) (λu s'=>∃o H',Inv X pins σ H' s'/\IsPart u o/\Q o H') X.xe s
def zhm:TO:=λ_ H Q=>Q jr H
def znz(t:TE):TO:=λσ H Q=>t σ H λx H1=>∃i,x= .int i/\Q (iJ i) H1
section
variable{e:Expr}{te:TE}{lo hi:pT Expr}{tl th:TO}{pos p2:Pos}
theorem wM:PO X jr zhm:=by
 intro pins s σ H Q I h;rw[evalPart_none];exact wpAny_pure ⟨jr,H,I,.none,h⟩
theorem wN(h:PE X e te):PO X (iJ e) (znz te):=by
 intro pins s σ H Q I hw;rw[evalPart_some];refine thn (h pins s σ H _ I hw) ?_;rintro u s1 ⟨x,H1,I1,r1,q1⟩;obtain⟨i,rfl,q⟩:=q1;obtain⟨t,rfl⟩:=r1;exact⟨iJ i,H1,I1,.int i t,q⟩
def SlR(X:Cx)(r:V->pT Int->pT Int->Hp->VK->Prop):Prop:=
 ∀(pins:pR (qY×Obj)) (s:qN) (σ:St) (H:Hp) (x:V) (v vl vu:qM) (lo hi:pT Int) (sl:qY) (Q:VK),Inv X pins σ H s->yq x v->s.heap.IsSliceOf sl vl vu .none->IsPart vl lo->IsPart vu hi->r x lo hi H Q->
  ∃T id,typeLookup (.type T) "__getitem__"=pure (iJ (.builtin id))/\s.TypeIs v T/\wpAny (model X.prog X.w) X.A (getItem v (.ref sl)) (EP X pins σ Q) X.xe s
def tSl(r:V->pT Int->pT Int->Hp->VK->Prop)(te:TE)(tl th:TO):TE:=λσ H Q=>te σ H λx H1=>tl σ H1 λl H2=>th σ H2 λu H3=>r x l u H3 Q
theorem xW{r:V->pT Int->pT Int->Hp->VK->Prop}(hr:SlR X r)(he:PE X e te)(hl:PO X lo tl)(hu:PO X hi th):PE X (.Subscript e (.Slice lo hi jr p2) pos) (tSl r te tl th):=by
 intro pins s σ H Q I h;refine Subscript_ (thn (he pins s σ H _ I h) ?_);rintro v s1 ⟨x,H1,I1,r1,q1⟩;refine wpAny_Slice (thn (hl pins s1 σ H1 _ I1 q1) ?_);rintro vl s2 ⟨l,H2,I2,pl,q2⟩;refine thn (hu pins s2 σ H2 _ I2 q2) ?_;rintro vu s3 ⟨u,H3,I3,pu,q3⟩;rw[evalPart_none];refine wpAny_pure ?_;have I4:Inv X pins σ H3 {s3 with heap:=s3.heap.push {cls:= .type "slice",data:= .fields #[vl,vu,.none]}}:=I3.kept (t':=s3.toks) λb ob q=>Heap.get?_push_of_some _ q;obtain⟨T,id,hT,ht,hg⟩:=hr pins {s3 with heap:=s3.heap.push {cls:= .type "slice",data:= .fields #[vl,vu,.none]}} σ H3 x v vl vu l u s3.heap.objs.size Q I4 r1 (Heap.IsSliceOf.new ..) pl pu q3;show wpAny (model X.prog X.w) X.A (subscriptTail e (.Slice lo hi jr p2) v (.ref s3.heap.objs.size)) (EP X pins σ Q) X.xe {s3 with heap:=s3.heap.push {cls:= .type "slice",data:= .fields #[vl,vu,.none]}};exact tail_any (ops:=[.ref s3.heap.objs.size,v]) ht hT hg (by with_unfolding_all rfl)
noncomputable def zcH(xs:pR V)(lo hi:pT Int):pR V:=(xs.drop (HT.sIx xs.length 0 lo)).take (HT.sIx xs.length xs.length hi-HT.sIx xs.length 0 lo)
theorem zbc(xs:pR V)(lo hi:pT Int):(zcH xs lo hi).length<=xs.length:=by
 unfold zcH;rw[z4,AJ];omega
def zra(K:uk):V->pT Int->pT Int->Hp->VK->Prop:=λx lo hi H Q=>∃a xs,x= .ref a/\SqT K H a xs/\
 ¬(HT.sIx xs.length 0 lo=0/\HT.sIx xs.length xs.length hi=xs.length)/\∀p,H p=jr->Q (.ref p) (upd H p (.tup (zcH xs lo hi)))
theorem zoq:SlR X (zra X.K):=by
 intro pins s σ H x v vl vu lo hi sl Q I rx hs pl pu h;obtain⟨a,xs,rfl,hx,hw,q⟩:=h;cases rx;obtain⟨ag,r,ht,hz⟩:=I.tuple hx;have hlen:ag.toArray.size=xs.length:=by rw[uD];exact r.length.symm
 refine⟨"tuple",_,y4.lookup,ht.typeIs,?_⟩;refine HT.Tw ht hs pl pu (by rw[hlen];exact hw) ?_ (by rw[hlen];exact hz);rw[hlen];refine⟨.ref s.heap.objs.size,_,I.laid (t':=s.toks) (o:= .tup (zcH xs lo hi)) (λb ob q=>Heap.get?_push_of_some _ q) (uv _) ?_,rfl,q _ (I.hok.fresh (uv _))⟩;exact⟨v5 (zbc xs lo hi) hz,_,(r.drop (HT.sIx xs.length 0 lo)).take (HT.sIx xs.length xs.length hi-HT.sIx xs.length 0 lo),WG.new _ _⟩
def zqa(K:uk):R2:=λx y H Q=>∃a b xs ys,x= .ref a/\y= .ref b/\SqT K H a xs/\SqT K H b ys/\xs≠[]/\xs.length+ys.length<=sizeLine/\
 (ys=[]->Q (.ref a) H)/\(ys≠[]->∀p,H p=jr->Q (.ref p) (upd H p (.tup (xs++ys))))
theorem yd.nil_iff(r:yd xs us):us=[]↔xs=[]:=by
 cases r with
 |nil=>simp
 |cons _ _=>simp
theorem zl0:OpR X (binaryOp .Add) (zqa X.K):=by
 intro pins s σ H x y v u Q I rx ry h;obtain⟨a,b,xs,ys,rfl,rfl,ha,hb,hx,hz,q1,q2⟩:=h;cases rx;cases ry;obtain⟨ag,r1,p1,_⟩:=I.tuple ha;obtain⟨cE,r2,p2,_⟩:=I.tuple hb;refine HT.zlZ p1 p2 (λz=>hx (r1.nil_iff.mp z)) (λz=>⟨.ref a,H,I,rfl,q1 (r2.nil_iff.mp z)⟩) (λz=> ?_) (by rw[<-r1.length,<-r2.length];exact hz);refine⟨.ref s.heap.objs.size,_,I.laid (t':=s.toks) (o:= .tup (xs++ys)) (λb ob q=>Heap.get?_push_of_some _ q) (uv _) ?_,rfl,q2 (λw=>z (r2.nil_iff.mpr w)) _ (I.hok.fresh (uv _))⟩;exact⟨by rw[ur];exact hz,_,r1.append r2,WG.new _ _⟩
end
noncomputable def ixN(n:Nat)(i:Int):pT Nat:=if 0<=i then (if i<n then iJ i.toNat else jr) else if -(n:Int)<=i then iJ (i+n).toNat else jr
noncomputable def atI{α:Type}(xs:pR α)(i:Int):pT α:=(ixN xs.length i).bind λj=>xs[j]?
theorem zhn(h:ixN n i=iJ j):seqIndex? i n=iJ j/\j<n/\ -(n:Int)<=i/\i<n:=by
 unfold ixN at h;by_cases h0:0<=i
 .rw[if_pos h0] at h;by_cases h1:i<n
  .rw[if_pos h1] at h;have e:i.toNat=j:=y8 h;exact⟨by rw[seqIndex_of h0 h1,e],⋯,⋯,h1⟩
  .rw[if_neg h1] at h;cases h
 .rw[if_neg h0] at h;by_cases h1: -(n:Int)<=i
  .rw[if_pos h1] at h;have e:(i+n).toNat=j:=y8 h;exact⟨by rw[seqIndex_neg ⋯ h1,e],⋯,h1,⋯⟩
  .rw[if_neg h1] at h;cases h
theorem zdO{α:Type}{xs:pR α}{v:α}(h:atI xs i=iJ v):∃j,seqIndex? i xs.length=iJ j/\xs[j]? =iJ v/\j<xs.length/\ -(xs.length:Int)<=i/\i<xs.length:=by
 unfold atI at h;cases e:ixN xs.length i with
 |none=>rw[e] at h;cases h
 |some j=>
  rw[e] at h;obtain⟨h1,h2,h3,h4⟩:=zhn e;exact⟨j,h1,h,h2,h3,h4⟩
def zl1(b:Expr):Prop:=∀o i,subscripted b nW o i=operate [o,i] (getItem o i)
def IxR(X:Cx)(r:R2):Prop:=
 ∀(value slice:Expr) (pins:pR (qY×Obj)) (s:qN) (σ:St) (H:Hp) (x y:V) (v u:qM) (Q:VK),Inv X pins σ H s->yq x v->yq y u->r x y H Q->
  subscripted slice nW v u=operate [v,u] (getItem v u)->wpAny (model X.prog X.w) X.A (subscriptTail value slice v u) (EP X pins σ Q) X.xe s
def MtR(X:Cx)(id:String)(r:V->pR V->Hp->VK->Prop):Prop:=
 ∀(pins:pR (qY×Obj)) (s:qN) (σ:St) (H:Hp) (x:V) (xs:pR V) (v:qM) (us:pR qM) (Q:VK),Inv X pins σ H s->yq x v->yd xs us->r x xs H Q->
  wpAny (model X.prog X.w) X.A (call (.builtin id) (v::us)) (EP X pins σ Q) X.xe s
section
variable{a b:Expr}{ta tb:TE}{pos:Pos}
theorem zqb(hr:IxR X r)(ha:PE X a ta)(hb:PE X b tb)(hs:zl1 b):PE X (.Subscript a b pos) (tOp r ta tb):=by
 intro pins s σ H Q I h;exact Subscript_ (zoj ha hb I h λv u s2 x y H2 I2 rx ry q=>hr a b pins s2 σ H2 x y v u Q I2 rx ry q (hs _ _))
def zor(K:uk):R2:=λx y H Q=>∃p xs i v,x= .ref p/\y= .int i/\SqL K H p xs/\atI xs i=iJ v/\Q v H
def zos(K:uk):R2:=λx y H Q=>∃p xs i v,x= .ref p/\y= .int i/\SqT K H p xs/\atI xs i=iJ v/\Q v H
def zqc:R2:=λx y H Q=>∃z i c,x= .str z/\y= .int i/\z.length<=sizeLine/\atI z.cps.toList i=iJ c/\Q (.str ⟨#[c]⟩) H
theorem zl2:IxR X (zor X.K):=by
 intro value slice pins s σ H x y v u Q I rx ry h hs;obtain⟨p,xs,i,z,rfl,rfl,hq,he,q⟩:=h;cases rx;obtain⟨t,rfl⟩:=ry;obtain⟨ag,r,pl,hz⟩:=I.list hq;obtain⟨j,h1,h2,h3,h4,h5⟩:=zdO he;obtain⟨w,ew,rw'⟩:=r.get h2;have hl:=r.length;have hn:=zaD;have fin:EP X pins σ Q w s:=⟨z,H,I,rw',q⟩;by_cases h0:0<=i
 .have hj:i.toNat=j:=by
   rw[seqIndex_of h0 h5] at h1;exact y8 h1
  exact item_listR pl.isList h0 ⋯ (by rw[hj];simpa using ew) fin hs
 .have hj:(i+(ag.toArray.size:Int)).toNat=j:=by
   rw[seqIndex_neg ⋯ h4] at h1;rw[uD,<-hl];exact y8 h1
  exact subscriptTail_builtinR (x:=w) pl.isList.typeIs slot_list_getitem.lookup
   (wpAny_getItem_list_neg (Q:=λr s'=>r=w/\EP X pins σ Q r s') pl.isList ⋯ (by rw[uD]<;>omega) ⋯ (by rw[hj];simpa using ew) ⟨rfl,fin⟩) hs
theorem zot:IxR X (zos X.K):=by
 intro value slice pins s σ H x y v u Q I rx ry h hs;obtain⟨p,xs,i,z,rfl,rfl,hq,he,q⟩:=h;cases rx;obtain⟨t,rfl⟩:=ry;obtain⟨ag,r,pl,hz⟩:=I.tuple hq;obtain⟨j,h1,h2,h3,h4,h5⟩:=zdO he;obtain⟨w,ew,rw'⟩:=r.get h2;have hl:=r.length;have hn:=zaD;have fin:EP X pins σ Q w s:=⟨z,H,I,rw',q⟩;exact subscriptTail_builtinR (x:=w) pl.typeIs slot_tuple_getitem.lookup
  (getItem_tuple (j:=j) (Q:=λr s'=>r=w/\EP X pins σ Q r s') pl ⋯ ⋯ (by rw[uD,<-hl];exact h1) (by simpa using ew) ⟨rfl,fin⟩) hs
theorem zdP:IxR X zqc:=by
 intro value slice pins s σ H x y v u Q I rx ry h hs;obtain⟨z,i,c,rfl,rfl,hz,he,q⟩:=h;obtain⟨t,rfl⟩:=rx;obtain⟨t',rfl⟩:=ry;obtain⟨j,h1,h2,h3,h4,h5⟩:=zdO he;have hl:z.cps.toList.length=z.length:=by simp[Str.length]
 rw[hl] at h1 h4 h5;have hn:=zaD
 exact tail_any (typeIs_str s z t) slot_str_getitem.lookup (getItem_str (c:=c) (by
  have e1:decide (i< -(2^63:Int))=nW:=decide_eq_false ⋯;have e2:decide (i≥2^63)=nW:=decide_eq_false ⋯
  rw[e1,e2,E9]) (by rw[h1];simpa using h2) ⟨.str ⟨#[c]⟩,H,I.tok _,⟨_,rfl⟩,q⟩) hs
theorem zgn(ag:pR qM)(n j:Nat)(u:qM):Obj.mapSeq (·.setIfInBounds j u) {cls:= .type "list",data:= .seq ag.toArray n}={cls:= .type "list",data:= .seq (ag.set j u).toArray n}:=by
 simp[Obj.mapSeq]
theorem Inv.lst{pins:pR (qY×Obj)}{σ:St}{H:Hp}{s:qN}(I:Inv X pins σ H s)(h:H p=iJ (.lst xs)):
  ∃(ag:pR qM) (n:Nat),yd xs ag/\s.heap.get? p=iJ {cls:= .type "list",data:= .seq ag.toArray n}/\xs.length<=sizeLine:=by
 obtain⟨z,ag,n,r,e⟩:=I.hok p _ h;exact⟨ag,n,r,e,z⟩
theorem Inv.lstUpd{p:qY}{xs ys:pR V}{ag its':pR qM}{n n':Nat}{f:Obj->Obj}(I:Inv X pins σ H s)(h:H p=iJ (.lst xs))
  (ho:s.heap.get? p=iJ {cls:= .type "list",data:= .seq ag.toArray n}) (hf:f {cls:= .type "list",data:= .seq ag.toArray n}={cls:= .type "list",data:= .seq its'.toArray n'}) (r:yd ys its') (hz:ys.length<=sizeLine) (t:Nat):
  Inv X pins σ (upd H p (.lst ys)) {s with heap:=s.heap.update p f,toks:=t}:=by
 have e:(s.heap.update p f).get? p=iJ {cls:= .type "list",data:= .seq its'.toArray n'}:=by
  rw[Heap.get?_update_self f ho (by rw[hf]<;>rfl),hf]
 refine I.write (x:=p) (e:=p) (by rw[h];trivial) (.inl rfl) (λb u hb q=>(Heap.get?_update_other _ _ (A9 hb)).trans q) ⟨_,e⟩ ?_;exact⟨hz,its',n',r,e⟩
def znA:V->V->V->Hp->(Hp->Prop)->Prop:=λo i v H Q=>∃p xs k j,o= .ref p/\i= .int k/\H p=iJ (.lst xs)/\ixN xs.length k=iJ j/\Q (upd H p (.lst (xs.set j v)))
theorem zeW:zpY X znA:=by
 intro pins s σ H o i v ov iv u Q I ro ri rv h;obtain⟨p,xs,k,j,rfl,rfl,hp,hj,q⟩:=h;cases ro;obtain⟨t,rfl⟩:=ri;obtain⟨ag,n,r,ho,hz⟩:=I.lst hp;obtain⟨h1,h2,h3,h4⟩:=zhn hj;have hl:=r.length;have hn:=zaD;have I':Inv X pins σ (upd H p (.lst (xs.set j v))) {s with heap:=s.heap.update p (Obj.mapSeq (·.setIfInBounds j u))}:=
  I.lstUpd hp ho (zgn ag n j u) (r.set rv j) (by rw[Al];exact hz) s.toks
 by_cases h0:0<=k
 .have hk:k.toNat=j:=by
   rw[seqIndex_of h0 h4] at h1;exact y8 h1
  exact PySem.W.ki_setAt ho h0 ⋯ (by rw[uD,<-hl];exact h4) (by rw[hk];exact⟨_,I',q⟩)
 .have hk:(k+(ag.toArray.size:Int)).toNat=j:=by
   rw[seqIndex_neg ⋯ h3] at h1;rw[uD,<-hl];exact y8 h1
  exact PySem.W.ki_setBack ho ⋯ (by rw[uD,<-hl];exact h3) ⋯ (by rw[hk];exact⟨_,I',q⟩)
theorem zdQ(lo hi:pT Int)(n:Nat):(sliceBounds lo hi jr n).1=((HT.sIx n 0 lo:Nat):Int)/\(sliceBounds lo hi jr n).2.1=((HT.sIx n n hi:Nat):Int)/\(sliceBounds lo hi jr n).2.2=1:=by
 refine⟨?_,?_,rfl⟩
 .cases lo with
  |none=>simp[sliceBounds,HT.sIx]
  |some i=>
   simp only[sliceBounds,HT.sIx,DB,show(1:Int)>0 by decide,if_true];by_cases h:i<0
   .simp only[h,if_true]<;>omega
   .simp only[h,if_false]<;>omega
 .cases hi with
  |none=>simp[sliceBounds,HT.sIx]
  |some i=>
   simp only[sliceBounds,HT.sIx,DB,show(1:Int)>0 by decide,if_true];by_cases h:i<0
   .simp only[h,if_true]<;>omega
   .simp only[h,if_false]<;>omega
theorem zcI(ag:pR qM)(lo hi:pT Int):slicePick ag.toArray lo hi jr=((ag.drop (HT.sIx ag.length 0 lo)).take (HT.sIx ag.length ag.length hi-HT.sIx ag.length 0 lo)).toArray:=by
 obtain⟨h1,h2,h3⟩:=zdQ lo hi ag.toArray.size;unfold slicePick;rw[h1,h2,h3];simp only[sliceRange_one,pick_run,uD]<;>rfl
def zjE(K:uk):V->pT Int->pT Int->Hp->VK->Prop:=λx lo hi H Q=>∃a xs,x= .ref a/\SqL K H a xs/\∀p,H p=jr->Q (.ref p) (upd H p (.lst (zcH xs lo hi)))
theorem zl3:SlR X (zjE X.K):=by
 intro pins s σ H x v vl vu lo hi sl Q I rx hs pl pu h;obtain⟨a,xs,rfl,hx,q⟩:=h;cases rx;obtain⟨ag,r,ht,hz⟩:=I.list hx;have hlen:=r.length;refine⟨"list",_,slot_list_getitem.lookup,ht.isList.typeIs,?_⟩;refine wpAny_getItem_list_slice ht.isList hs pl pu .none (by simp) ?_ (by rw[uD]<;>omega);rw[zcI,<-hlen];refine⟨.ref s.heap.objs.size,_,I.laid (t':=s.toks) (o:= .lst (zcH xs lo hi)) (λb ob q=>Heap.get?_push_of_some _ q) (uv _) ?_,rfl,q _ (I.hok.fresh (uv _))⟩;exact⟨v5 (zbc xs lo hi) hz,_,0,(r.drop (HT.sIx xs.length 0 lo)).take (HT.sIx xs.length xs.length hi-HT.sIx xs.length 0 lo),Heap.get?_push_size _ rfl⟩
noncomputable def UQ:V->Bool
 | .non=>jD
 | .bl _=>jD
 | .int _=>jD
 | .str _=>jD
 |_=>nW
noncomputable def eqV:V->V->Bool
 | .non,.non=>jD
 | .bl a,.bl b=>a==b
 | .bl a,.int b=>(if a then 1 else 0)==b
 | .int a,.bl b=>a==(if b then 1 else 0)
 | .int a,.int b=>a==b
 | .str a,.str b=>a==b
 |_,_=>nW
theorem zou(ry:yq y u)(rx:yq x v)(fy:UQ y=jD)(fx:UQ x=jD):SeqAt.EqAt A s u v (eqV y x):=by
 cases y with
 |non=>
  cases ry;cases x with
  |non=>cases rx;exact SeqAt.EqAt.same _
  |bl b=>cases rx;exact SeqAt.EqAt.none_bool b
  |int b=>obtain⟨t,rfl⟩:=rx;exact SeqAt.EqAt.none_int b t
  |str b=>obtain⟨t,rfl⟩:=rx;exact SeqAt.EqAt.none_str b t
  |_=>exact absurd (show nW=jD from fx) uQ
 |bl a=>
  cases ry;cases x with
  |non=>cases rx;exact SeqAt.EqAt.bool_none a
  |bl b=>cases rx;exact SeqAt.EqAt.bool_bool a b
  |int b=>obtain⟨t,rfl⟩:=rx;exact SeqAt.EqAt.bool_int a b t
  |str b=>obtain⟨t,rfl⟩:=rx;exact SeqAt.EqAt.bool_str a b t
  |_=>exact absurd (show nW=jD from fx) uQ
 |int a=>
  obtain⟨t',rfl⟩:=ry;cases x with
  |non=>cases rx;exact SeqAt.EqAt.int_none a t'
  |bl b=>cases rx;exact SeqAt.EqAt.int_bool a t' b
  |int b=>obtain⟨t,rfl⟩:=rx;exact SeqAt.EqAt.int_int a t' b t
  |str b=>obtain⟨t,rfl⟩:=rx;exact SeqAt.EqAt.int_str a t' b t
  |_=>exact absurd (show nW=jD from fx) uQ
 |str a=>
  obtain⟨t',rfl⟩:=ry;cases x with
  |non=>cases rx;exact SeqAt.EqAt.str_none a t'
  |bl b=>cases rx;exact SeqAt.EqAt.str_bool a t' b
  |int b=>obtain⟨t,rfl⟩:=rx;exact SeqAt.EqAt.str_int a t' b t
  |str b=>obtain⟨t,rfl⟩:=rx;exact SeqAt.EqAt.str_str a t' b t
  |_=>exact absurd (show nW=jD from fx) uQ
 |_=>exact absurd (show nW=jD from fy) uQ
noncomputable def eqU(x:V)(u:qM):Bool:=match u with
 | .none=>eqV .non x
 | .bool b=>eqV (.bl b) x
 | .int i _=>eqV (.int i) x
 | .str z _=>eqV (.str z) x
 |_=>nW
theorem zjF(r:yq y u)(f:UQ y=jD):eqU x u=eqV y x:=by
 cases y with
 |non=>cases r;rfl
 |bl b=>cases r;rfl
 |int i=>obtain⟨t,rfl⟩:=r;rfl
 |str z=>obtain⟨t,rfl⟩:=r;rfl
 |_=>exact absurd (show nW=jD from f) uQ
theorem Tz{xs:pR V}{us:pR qM}(h:yd xs us)(f:xs.all UQ=jD):us.any (eqU x)=xs.any λy=>eqV y x:=by
 induction h with
 |nil=>rfl
 |cons r t k=>rw[Aq,v9] at f;rw[C1,C1,zjF r f.1,k f.2]
theorem VC(rx:yq x v)(fx:UQ x=jD){xs:pR V}{us:pR qM}(h:yd xs us)(f:xs.all UQ=jD):∀u∈us,SeqAt.EqAt A s u v (eqU x u):=by
 induction h with
 |nil=>intro u hu;cases hu
 |cons r t k=>
  intro u' hu;rw[Aq,v9] at f;rcases uU.mp hu with rfl|hu
  .rw[zjF r f.1];exact zou r rx f.1 fx
  .exact k f.2 u' hu
noncomputable def inV(x:V)(xs:pR V):Bool:=xs.any λy=>eqV y x
def rIn(K:uk)(neg:Bool):R2:=λx y H Q=>∃p xs,y= .ref p/\(SqL K H p xs\/SqT K H p xs)/\UQ x=jD/\xs.all UQ=jD/\Q (.bl (if neg then !inV x xs else inV x xs)) H
theorem zix:OpR X (compareOp .In) (rIn X.K nW):=by
 intro pins s σ H x y v u Q I rx ry h;obtain⟨p,xs,rfl,hq,fx,fs,q⟩:=h;cases ry;rcases hq with hq|hq
 .obtain⟨ag,r,pl,hz⟩:=I.list hq;refine SeqAt.in_listAt (eqU x) pl.isList (λw hw=>VC rx fx r fs w (by simpa using hw)) ⟨.bl _,H,I,rfl,?_⟩;rw[show ag.toArray.any (eqU x)=ag.any (eqU x) by simp,Tz r fs];exact q
 .obtain⟨ag,r,pl,hz⟩:=I.tuple hq;refine SeqAt.in_tupleAt (eqU x) pl (λw hw=>VC rx fx r fs w (by simpa using hw)) ⟨.bl _,H,I,rfl,?_⟩;rw[show ag.toArray.any (eqU x)=ag.any (eqU x) by simp,Tz r fs];exact q
theorem zdR:OpR X (compareOp .NotIn) (rIn X.K jD):=by
 intro pins s σ H x y v u Q I rx ry h;obtain⟨p,xs,rfl,hq,fx,fs,q⟩:=h;cases ry;rcases hq with hq|hq
 .obtain⟨ag,r,pl,hz⟩:=I.list hq;refine SeqAt.notIn_listAt (eqU x) pl.isList (λw hw=>VC rx fx r fs w (by simpa using hw)) ⟨.bl _,H,I,rfl,?_⟩;rw[show ag.toArray.any (eqU x)=ag.any (eqU x) by simp,Tz r fs];exact q
 .obtain⟨ag,r,pl,hz⟩:=I.tuple hq;refine SeqAt.notIn_tupleAt (eqU x) pl (λw hw=>VC rx fx r fs w (by simpa using hw)) ⟨.bl _,H,I,rfl,?_⟩;rw[show ag.toArray.any (eqU x)=ag.any (eqU x) by simp,Tz r fs];exact q
theorem zdS:wX X (.builtin "len") (λxs H Q=>∃p ys,xs=[.ref p]/\(SqL X.K H p ys\/SqT X.K H p ys)/\Q (.int ys.length) H):=by
 intro pins s σ H xs us Q I r h;obtain⟨p,ys,rfl,hq,q⟩:=h;obtain⟨u,rfl,rx⟩:=Wo r;cases rx;have hn:=zaD;rcases hq with hq|hq
 .obtain⟨ag,r',pl,hz⟩:=I.list hq;have hlen:=r'.length;exact Calls.call_len_list pl.isList (by simp only[uD]<;>omega) ⟨.int ys.length,H,I.tok _,⟨s.toks+1,by rw[uD,hlen]⟩,q⟩
 .obtain⟨ag,r',pl,hz⟩:=I.tuple hq;have hlen:=r'.length;exact len_tuple pl (by simp only[uD]<;>omega) ⟨.int ys.length,H,I.tok _,⟨s.toks+1,by rw[uD,hlen]⟩,q⟩
theorem Yw:wX X (.builtin "len") (λxs H Q=>∃z,xs=[.str z]/\z.length<=sizeLine/\Q (.int z.length) H):=by
 intro pins s σ H xs us Q I r h;obtain⟨z,rfl,hz,q⟩:=h;obtain⟨u,rfl,t,rfl⟩:=Wo r;have hn:=zaD;exact len_str ⋯ ⟨.int z.length,H,I.tok _,⟨_,rfl⟩,q⟩
theorem zdT:wX X (.type "list") (λxs H Q=>∃p ys,xs=[.ref p]/\(SqL X.K H p ys\/SqT X.K H p ys)/\∀l,H l=jr->Q (.ref l) (upd H l (.lst ys))):=by
 intro pins s σ H xs us Q I r h;obtain⟨p,ys,rfl,hq,q⟩:=h;obtain⟨u,rfl,rx⟩:=Wo r;cases rx;have fin:∀(ag:pR qM),yd ys ag->ys.length<=sizeLine->∀(h':Heap) (c':Nat),(∀b o',s.heap.get? b=iJ o'->h'.get? b=iJ o')->
   h'.get? s.heap.objs.size=iJ {cls:= .type "list",dict:=jr,data:= .seq ag.toArray c',slots:= #[]}->EP X pins σ Q (.ref s.heap.objs.size) {s with heap:=h'}:=λag r' hz h' c' kp e=>
  ⟨.ref s.heap.objs.size,_,I.laid (t':=s.toks) kp (uv _) (show xp X.prog X.w _ h' _ (.lst ys) from ⟨hz,ag,c',r',e⟩),rfl,q _ (I.hok.fresh (uv _))⟩
 rcases hq with hq|hq
 .obtain⟨ag,r',pl,hz⟩:=I.list hq;have hlen:=r'.length;obtain⟨o,ho,hc,n,hd⟩:=pl.isList;exact call_list_seq p (.inl rfl) ho hc hd (λh' c' kp e=>fin ag r' hz h' c' kp e) (by simp only[uD]<;>omega)
 .obtain⟨ag,r',pl,hz⟩:=I.tuple hq;have hlen:=r'.length;obtain⟨o,ho,hc,n,hd⟩:=pl;exact call_list_seq p (.inr rfl) ho hc hd (λh' c' kp e=>fin ag r' hz h' c' kp e) (by simp only[uD]<;>omega)
theorem zcJ:wX X (.type "tuple") (λxs H Q=>∃p ys,xs=[.ref p]/\((SqL X.K H p ys/\∀l,H l=jr->Q (.ref l) (upd H l (.tup ys)))\/(SqT X.K H p ys/\Q (.ref p) H))):=by
 intro pins s σ H xs us Q I r h;obtain⟨p,ys,rfl,h⟩:=h;obtain⟨u,rfl,rx⟩:=Wo r;cases rx;rcases h with⟨hq,q⟩|⟨hq,q⟩
 .obtain⟨ag,r',pl,hz⟩:=I.list hq;have hlen:=r'.length;refine call_tuple_list pl.isList (λh' kp=> ?_) (by simp only[uD]<;>omega);have I1:Inv X pins σ H {s with heap:=h'}:=I.kept (t':=s.toks) kp;have I2:Inv X pins σ (upd H h'.objs.size (.tup ys)) {s with heap:=h'.push {cls:= .type "tuple",data:= .seq ag.toArray}}:=
   I1.laid (t':=s.toks) (λb o e=>Heap.get?_push_of_some _ e) (uv _) (show xp X.prog X.w _ _ _ (.tup ys) from ⟨hz,ag,r',WG.new _ _⟩)
  exact⟨.ref h'.objs.size,_,I2,rfl,q _ (I1.hok.fresh (uv _))⟩
 .obtain⟨ag,r',pl,hz⟩:=I.tuple hq;exact call_tuple_same pl ⟨.ref p,H,I,rfl,q⟩
def tyV(K:uk)(T:String)(x:V)(H:Hp):Prop:=match x with
 | .str _=>T="str"
 | .int _=>T="int"
 | .ref p=>(T="list"/\∃xs,SqL K H p xs)\/(T="tuple"/\∃o,K.lookup p=iJ o/\o.cls= .type "tuple"/\o.dict=jr)\/
   (T="dict"/\((∃aq,Rd H p (.dK aq))\/∃aq,H p=iJ (.dT aq)))\/(T="set"/\∃S n,H p=iJ (.set S n))
 |_=>False
theorem zjG(I:Inv X pins σ H s)(r:yq x v)(ty:tyV X.K T x H):
  s.TypeIs v T/\∀a,v= .ref a->∃ob,s.heap.get? a=iJ ob/\ob.dict=jr:=by
 cases x with
 |str z=>
  obtain⟨t,rfl⟩:=r;cases (show T="str" from ty);exact⟨typeIs_str s z t,λ_ e=>nomatch e⟩
 |int i=>
  obtain⟨t,rfl⟩:=r;cases (show T="int" from ty);exact⟨typeIs_int s i t,λ_ e=>nomatch e⟩
 |ref p=>
  cases r;rcases ty with⟨rfl,xs,hq⟩|⟨rfl,o,hk,hc,hd⟩|⟨rfl,hk⟩|⟨rfl,S,n,hk⟩
  .obtain⟨ag,_,pl,_⟩:=I.list hq;refine⟨pl.isList.typeIs,λa e=> ?_⟩;cases e;obtain⟨o,n,e,c,hd,_⟩:=pl;exact⟨o,e,hd⟩
  .refine⟨⟨o,I.kIn p o hk,hc⟩,λa e=> ?_⟩;cases e;exact⟨o,I.kIn _ o hk,hd⟩
  .have z:∃o,s.heap.get? p=iJ o/\o.ExactDict:=by
    rcases hk with⟨aq,hk⟩|⟨aq,hk⟩
    .obtain⟨_,_,_,_,o,_,_,e,ex,_⟩:=hk.ok I.hok;exact⟨o,e,ex⟩
    .obtain⟨_,_,_,_,o,_,_,e,ex,_⟩:=I.hok p _ hk;exact⟨o,e,ex⟩
   obtain⟨o,e,ex⟩:=z;refine⟨⟨o,e,ex.1⟩,λa e2=> ?_⟩;cases e2;exact⟨o,e,ex.2.1⟩
  .obtain⟨o,_,_,_,e,ex,_⟩:=I.hok p _ hk;refine⟨⟨o,e,ex.1⟩,λa e2=> ?_⟩;cases e2;exact⟨o,e,ex.2.1⟩
 |_=>exact Ab ty
def zqd(K:uk)(T:String)(r:V->pR V->Hp->VK->Prop)(to:TE):TE:=λσ H Q=>to σ H λx H1=>tyV K T x H1/\r x [] H1 Q
def tBM(K:uk)(T:String)(r:V->pR V->Hp->VK->Prop)(to:TE)(t:TA):TE:=λσ H Q=>to σ H λx H1=>tyV K T x H1/\t σ H1 λxs H2=>r x xs H2 Q
variable{o e:Expr}{es:pR Expr}{to:TE}{t:TA}{name:Str}{apos d6:Pos}{T id:String}{r:V->pR V->Hp->VK->Prop}
theorem zov(pa:PlainAttrs T)(slot:Slot T name id)(oG:typeOf (.builtin id)=pure (.type "method_descriptor"))(hm:MtR X id r)(ho:PE X o to)
  (jP:attributeBase o name X.env (eval o X.env)=eval o X.env:=by rfl) (hline:(apos.endLine==d6.line)=jD:=by rfl):PE X (.Call (.Attribute o name apos) [] [] d6) (zqd X.K T r to):=by
 intro pins s σ H Q I h;refine wpAny_Call_method0_late jP hline (thn (ho pins s σ H _ I h) ?_);rintro v s1 ⟨x,H1,I1,r1,ty,q1⟩;obtain⟨h1,h2⟩:=zjG I1 r1 ty;exact⟨T,id,pa,slot,oG,h1,h2,Calls.callWith_builtin rfl (PySem.evalArgs_none (hm pins s1 σ H1 x [] v [] Q I1 r1 .nil q1))⟩
theorem wI(pa:PlainAttrs T)(slot:Slot T name id)(oG:typeOf (.builtin id)=pure (.type "method_descriptor"))(hm:MtR X id r)(ho:PE X o to)(ha:PA X (e::es) t)
  (jP:attributeBase o name X.env (eval o X.env)=eval o X.env:=by rfl)
  (pj:((backTo d6 (starEach (e::es) X.env)).all (λx=> !x.1)&&(backToKw d6 (keywordEach [] X.env)).all (λx=>x.1.isSome)
   &&decide ((e::es).length+([]:pR Keyword).length+(if ([]:pR Keyword).isEmpty then 0 else 1)<30))=jD:=by rfl)
  (hline:(apos.endLine==d6.line)=jD:=by rfl) (hs:starEach (e::es) X.env=(nW,eval e X.env)::starEach es X.env:=by rfl) (lD:(backTo d6 (starEach es X.env)).any (·.1)=nW:=by rfl):
  PE X (.Call (.Attribute o name apos) (e::es) [] d6) (tBM X.K T r to t):=by
 intro pins s σ H Q I h;refine wpAny_Call_method_late jP pj hline rfl (thn (ho pins s σ H _ I h) ?_);rintro v s1 ⟨x,H1,I1,r1,ty,q1⟩;obtain⟨h1,h2⟩:=zjG I1 r1 ty;refine⟨T,id,pa,slot,oG,h1,h2,?_⟩;have hA:=ha d6 pins s1 σ H1 _ I1 q1;rw[hs] at hA ⊢;refine Calls.callWith_builtin (by show(nW||(backTo d6 (starEach es X.env)).any (·.1))=nW;rw[lD]<;>rfl) (Calls.evalArgs_plain ?_);refine thn hA ?_;rintro us s2 ⟨vs,H2,I2,r2,q2⟩;exact hm pins s2 σ H2 x vs v us Q I2 r1 r2 q2
end
def MtM(X:Cx)(id:String)(r:V->pR V->Hp->VK->Prop):Prop:=
 ∀(pins:pR (qY×Obj)) (s:qN) (σ:St) (H:Hp) (x:V) (xs:pR V) (v:qM) (us:pR qM) (Q:VK),Inv X pins σ H s->yq x v->yd xs us->r x xs H Q->
  wpAny (model X.prog X.w) X.A (call (.builtin id) (v::us)) (EP X pins σ Q) X.xe s
theorem yd.one{x:V}{us:pR qM}(h:yd [x] us):∃u,us=[u]/\yq x u:=by cases h with|cons r t=>cases t;exact⟨_,rfl,r⟩
theorem yd.zero{us:pR qM}(h:yd [] us):us=[]:=by cases h;rfl
theorem yd.dropLast(h:yd xs us):yd xs.dropLast us.dropLast:=by
 induction h with
 |nil=>exact .nil
 |cons r t ih=>
  cases t with
  |nil=>exact .nil
  |cons q t'=>exact .cons r ih
theorem zgo{α:Type}(l:pR α):l.eraseIdx (l.length-1)=l.dropLast:=by
 induction l with
 |nil=>rfl
 |cons a r ih=>
  cases r with
  |nil=>rfl
  |cons b r=>
   have e:(a::b::r).length-1=((b::r).length-1)+1:=by
    have h1:(a::b::r).length=r.length+2:=rfl;have h2:(b::r).length=r.length+1:=rfl;omega
   rw[e,List.eraseIdx_cons_succ,ih]
   all_goals rfl
section
theorem Inv.lset{ag its':pR qM}{n:Nat}{f:Array qM->Array qM}{t':Nat}(I:Inv X pins σ H s)(hH:H l=iJ (.lst xs))
  (e:s.heap.get? l=iJ {cls:= .type "list",data:= .seq ag.toArray n}) (hf:f ag.toArray=its'.toArray) (hv:yd ys its') (hz:ys.length<=sizeLine):
  Inv X pins σ (upd H l (.lst ys)) {s with heap:=s.heap.update l (Obj.mapSeq f),toks:=t'}:=by
 have q:=PySem.IsL.update e f;rw[hf] at q;refine I.write (x:=l) (e:=l) (by rw[hH];exact trivial) (.inl rfl) (λb' u hb hu=>(Heap.get?_update_other s.heap (Obj.mapSeq f) (A9 hb)).trans hu) ⟨_,q⟩ ?_;exact⟨hz,its',_,hv,q⟩
theorem Inv.lnew(I:Inv X pins σ H s)(hv:yd ys ag)(hz:ys.length<=sizeLine):
  Inv X pins σ (upd H s.heap.objs.size (.lst ys)) {s with heap:=s.heap.push {cls:= .type "list",data:= .seq ag.toArray},toks:=t'}:=
 I.laid (λ_ _ q=>Heap.get?_push_of_some _ q) (uv _) ⟨hz,ag,0,hv,Heap.get?_push_size _ rfl⟩
theorem Inv.fresh(I:Inv X pins σ H s):H s.heap.objs.size=jr:=I.hok.fresh (uv _)
theorem Inv.lstM(I:Inv X pins σ H s)(hH:H l=iJ (.lst xs)):xs.length<=sizeLine/\∃(ag:pR qM) (n:Nat),yd xs ag/\xs.length=ag.length/\s.heap.get? l=iJ {cls:= .type "list",data:= .seq ag.toArray n}:=by
 obtain⟨z,ag,n,r,e⟩:=I.hok l _ hH;exact⟨z,ag,n,r,r.length,e⟩
theorem zjH(h:n<=sizeLine):Builtin.List.listTooLong n=nW:=by
 unfold Builtin.List.listTooLong;exact decide_eq_false ⋯
end
def zho:V->pR V->Hp->VK->Prop:=λx vs H Q=>∃l xs y,x= .ref l/\vs=[y]/\H l=iJ (.lst xs)/\xs.length<sizeLine/\Q .non (upd H l (.lst (xs++[y])))
theorem yN:MtM X "list.append" zho:=by
 intro pins s σ H x vs v us Q I rx rv h;obtain⟨l,xs,y,rfl,rfl,hH,hz,q⟩:=h;cases rx;obtain⟨u,rfl,ru⟩:=rv.one;obtain⟨z,ag,n,r,hl,e⟩:=I.lstM hH;refine call_meets F.slot_list_append ⟨_,e,rfl⟩ F.entry_list_append (F.args_list_append_2 _ _) (PySem.list_append l ag.toArray n u (by rw[uD];omega)) ⟨e,?_⟩;refine⟨.non,_,I.lset (its':=ag++[u]) hH e (by simp) (r.append (.cons ru .nil)) ?_,rfl,q⟩;rw[ur,uF];omega
def zqe:V->pR V->Hp->VK->Prop:=λx vs H Q=>∃l xs y,x= .ref l/\vs=[]/\H l=iJ (.lst xs)/\xs[xs.length-1]? =iJ y/\Q y (upd H l (.lst xs.dropLast))
theorem zow:MtM X "list.pop" zqe:=by
 intro pins s σ H x vs v us Q I rx rv h;obtain⟨l,xs,y,rfl,rfl,hH,hy,q⟩:=h;cases rx;have ly:=rv.zero;subst ly;obtain⟨z,ag,n,r,hl,e⟩:=I.lstM hH;obtain⟨u,hu,ru⟩:=r.get hy;have rD:ag.toArray[ag.toArray.size-1]? =iJ u:=by
  show ag.toArray[ag.length-1]? =iJ u;rw[<-D6,<-hl];exact hu
 refine call_meets F.slot_list_pop ⟨_,e,rfl⟩ F.entry_list_pop (F.args_list_pop_1 _) (MeetsSeq.list_pop_last l ag.toArray n u rD (by rw[uD];omega)) ⟨e,?_⟩;refine⟨y,_,I.lset (its':=ag.dropLast) hH e ?_ r.dropLast ?_,ru,q⟩
 .show ag.toArray.eraseIdxIfInBounds (ag.toArray.size-1)=ag.dropLast.toArray;rw[uD,List.eraseIdxIfInBounds_toArray,zgo]
 .rw[List.length_dropLast];omega
section
variable{w:World}
end
section
variable{κ:Type}[DecidableEq κ]
noncomputable def VD(aq:pR (κ×V))(k:κ):pT V:=(aq.find? λkv=>decide (kv.1=k)).map (·.2)
theorem zeX{p:κ×V}{r:pR (κ×V)}{k:κ}(e:p.1=k):VD (p::r) k=iJ p.2:=by simp[VD,A8,e]
theorem zeY{p:κ×V}{r:pR (κ×V)}{k:κ}(e:¬p.1=k):VD (p::r) k=VD r k:=by simp[VD,A8,e]
theorem UI.isSome_eq(r:UI o u):o.isSome=u.isSome:=by
 cases o with
 |none=>cases u with
  |none=>rfl
  |some _=>exact(show False from r).elim
 |some _=>cases u with
  |none=>exact(show False from r).elim
  |some _=>rfl
theorem KV.val(r:KV aq vs)(k:κ):UI (VD aq k) (valueAt vs k):=by
 unfold KV at r
 induction r with
 |nil=>exact Bd
 | @cons p q ps qs h t ih=>
  obtain⟨h1,h2⟩:=h;by_cases e:p.1=k
  .have e':q.1=k:=h1.symm.trans e;have b:valueAt (q::qs) k=iJ q.2:=by simp[valueAt,A8,e']
   rw[zeX e,b];exact h2
  .have e':¬q.1=k:=λz=>e (h1.trans z);have b:valueAt (q::qs) k=valueAt qs k:=by simp[valueAt,A8,e']
   rw[zeY e,b];exact ih
theorem KV.keys{aq:pR (κ×V)}{vs:pR (κ×qM)}(r:KV aq vs):aq.map (·.1)=vs.map (·.1):=by
 unfold KV at r
 induction r with
 |nil=>rfl
 |cons h t ih=>rw[uV,uV,ih,h.1]
end
theorem zhp{P:Program}(r:yq (kV k) u):(vo P w).is k u=jD:=by
 cases k with
 |inl i=>obtain⟨t,e⟩:=(show ∃t,u=Value.int i t from r);subst e;exact zeM P w i t
 |inr x=>obtain⟨t,e⟩:=(show ∃t,u=Value.str x t from r);subst e;exact zeN P w x t
theorem zdo{P:Program}:∀{ks:pR Key} {us:pR qM},yd (ks.map kV) us->ItemsAre (vo P w) ks us
 |[],_,r=>by rw[BJ] at r;cases r;exact .nil
 |k::ks,_,r=>by
  rw[uV] at r;cases r with
  |cons h t=>exact .cons (zhp h) (zdo t)
noncomputable abbrev KT(H:Hp):pR (pR Key×V)->pR (pR Key×qY×qM)->Prop:=Paired λp q=>p.1=q.1/\H q.2.1=iJ (.tup (p.1.map kV))/\yq p.2 q.2.2
theorem KT.val(r:KT H aq xs)(k:pR Key):UI (VD aq k) ((atKey xs k).map (·.2)):=by
 induction r with
 |nil=>exact Bd
 | @cons p q ps qs h t ih=>
  obtain⟨h1,_,h2⟩:=h;by_cases e:p.1=k
  .have e':q.1=k:=h1.symm.trans e;have b:atKey (q::qs) k=iJ q.2:=by simp[atKey,A8,e']
   rw[zeX e,b];exact h2
  .have e':¬q.1=k:=λz=>e (h1.trans z);have b:atKey (q::qs) k=atKey qs k:=by simp[atKey,A8,e']
   rw[zeY e,b];exact ih
section
variable{P:Program}
theorem znB(ok:HOk P w H h)(e:Rd H a u):xp P w H h a u:=e.ok ok
theorem zhq(ok:HOk P w H h)(e:Rd H a (.dK aq)):aq.length<=sizeLine/\(a==sysModules)=nW/\∃vs,KV aq vs/\h.DictOf (vo P w) a vs:=
 show xp P w H h a (.dK aq) from znB ok e
theorem zdU(ok:HOk P w H h)(e:H a=iJ (.tup (ks.map kV))):(tupleKind (vo P w)).is h ks a:=by
 obtain⟨_,ag,r,o,h1,h2,n,h3⟩:=(show xp P w H h a (.tup (ks.map kV)) from ok a _ e);exact⟨o,ag.toArray,n,h1,h2,h3.1,by simpa using zdo r⟩
theorem zhr(ok:HOk P w H h)(e:Rd H a (.dT aq)):aq.length<=sizeLine/\(a==sysModules)=nW/\
  ∃xs,KT H aq xs/\h.DictOfH (tupleKind (vo P w)) a xs:=by
 obtain⟨z,y,xs,r,o,es,ep,h1,h2,h3,h4,h5⟩:=(show xp P w H h a (.dT aq) from znB ok e);refine⟨z,y,xs,r,o,es,ep,h1,h2,h3,h4,λx hx=> ?_,h5⟩;have all:∀{l:pR (pR Key×V)} {m:pR (pR Key×qY×qM)},KT H l m->∀x∈m,(tupleKind (vo P w)).is h x.1 x.2.1:=by
  intro l m q
  induction q with
  |nil=>intro x hx;exact nomatch hx
  | @cons p q ps qs hq t ih=>
   intro x hx;rcases uU.mp hx with e|hx
   .subst e;exact zdU ok (by rw[<-hq.1];exact hq.2.1)
   .exact ih x hx
 exact all r x hx
end
def TB(H:Hp)(a:qY)(y:V)(r:pT V):Prop:=
 (∃aq k,Rd H a (.dK aq)/\y=kV k/\r=VD aq k)\/∃aq k b,Rd H a (.dT aq)/\y= .ref b/\H b=iJ (.tup (k.map kV))/\r=VD aq k
theorem TB.k{a:qY}{aq:pR (Key×V)}{k:Key}(e:H a=iJ (.dK aq)):TB H a (kV k) (VD aq k):= .inl ⟨aq,k,.inl e,rfl,rfl⟩
section
theorem Inv.big(I:Inv X pins σ H s):sysModules<s.heap.objs.size:=by
 have h:mainGlobals<s.heap.objs.size:=(I.mod.glob.keeps I.bk).lt;exact Dn ∅ h
theorem ziy(hu:A.units+1<cLine)(I:Inv X pins σ H s)(g:TB H a y (iJ v))(ry:yq y u)(h:∀w' s',Inv X pins σ H s'->yq v w'->Q w' s'):
  wpAny (model X.prog X.w) A (getItem (.ref a) u) Q E s:=by
 rcases g with⟨aq,k,e,ey,l⟩|⟨aq,k,b,e,ey,eb,l⟩
 .subst ey;obtain⟨z,hd,vs,rel,dd⟩:=zhq I.hok e;obtain⟨w',hw,rw'⟩:=UI.some_of (v:=v) (o:=valueAt vs k) (by rw[l];exact rel.val k);exact wpAny_getItem_of (zhp ry) dd.mapOf hw (h w' _ (I.tok _) rw')
 .subst ey;cases (show u=Value.ref b from ry);obtain⟨z,hd,xs,rel,dd⟩:=zhr I.hok e;obtain⟨w',hw,rw'⟩:=UI.some_of (v:=v) (o:=(atKey xs k).map (·.2)) (by rw[l];exact rel.val k);obtain⟨p,hp,ky⟩:=uH.mp hw;refine wpAny_getItem_heap (tupleKind_room_in1 hu) (zdU I.hok eb) dd hp ?_;rw[ky];exact h w' _ (I.tok _) rw'
theorem zrb(hu:A.units+1<cLine)(I:Inv X pins σ H s)(g:TB H a y o)(ry:yq y u)(h:∀s',Inv X pins σ H s'->Q (.bool o.isSome) s'):
  wpAny (model X.prog X.w) A (compareOp .In u (.ref a)) Q E s:=by
 rcases g with⟨aq,k,e,ey,l⟩|⟨aq,k,b,e,ey,eb,l⟩
 .subst ey;obtain⟨z,hd,vs,rel,dd⟩:=zhq I.hok e;refine wpAny_in_of (zhp ry) hd dd.mapOf ?_;rw[<-(rel.val k).isSome_eq,<-l];exact h _ (I.tok _)
 .subst ey;cases (show u=Value.ref b from ry);obtain⟨z,hd,xs,rel,dd⟩:=zhr I.hok e;refine wpAny_in_heap (tupleKind_room_in1 hu) (zdU I.hok eb) hd dd ?_;have q:=(rel.val k).isSome_eq;rw[BU] at q;rw[<-q,<-l];exact h _ (I.tok _)
theorem zl5(hu:A.units+1<cLine)(I:Inv X pins σ H s)(g:TB H a y o)(ry:yq y u)(h:∀s',Inv X pins σ H s'->Q (.bool (!o.isSome)) s'):
  wpAny (model X.prog X.w) A (compareOp .NotIn u (.ref a)) Q E s:=by
 rcases g with⟨aq,k,e,ey,l⟩|⟨aq,k,b,e,ey,eb,l⟩
 .subst ey;obtain⟨z,hd,vs,rel,dd⟩:=zhq I.hok e;refine wpAny_notIn_of (zhp ry) hd dd.mapOf ?_;rw[<-(rel.val k).isSome_eq,<-l];exact h _ (I.tok _)
 .subst ey;cases (show u=Value.ref b from ry);obtain⟨z,hd,xs,rel,dd⟩:=zhr I.hok e;refine wpAny_notIn_heap (tupleKind_room_in1 hu) (zdU I.hok eb) hd dd ?_;have q:=(rel.val k).isSome_eq;rw[BU] at q;rw[<-q,<-l];exact h _ (I.tok _)
end
section
variable{a:qY}{aq:pR (Key×V)}{k:Key}{u:qM}
end
def zqf(i:Expr):Prop:=∀ov iv,subscripted i nW ov iv=operate [ov,iv] (getItem ov iv)
theorem zl6{w:World}{env:Env}{value slice:Expr}{pos:Pos}{T id:String}
  (hl:typeLookup (.type T) "__getitem__"=pure (iJ (.builtin id))) (hs:zqf slice)
  (h:wpAny (model prog w) A (eval value env) (λo s₁=>wpAny (model prog w) A (eval slice env) (λi s₂=>s₂.TypeIs o T/\wpAny (model prog w) A (getItem o i) Q E s₂) E s₁) E s):
  wpAny (model prog w) A (eval (.Subscript value slice pos) env) Q E s:=by
 refine Subscript_ (wpAny_mono h (λo s₁ h₁=>wpAny_mono h₁ (λi s₂ h₂=> ?_) λ_ _ x=>x) λ_ _ x=>x);obtain⟨hT,h₂⟩:=h₂;unfold subscriptTail;refine wpAny_bind ?_;rw[getitemInPython_of_ne hT.not_modules];refine wpAny_bind (wpAny_specialOf hT hl ?_);have fin:wpAny (model prog w) A (subscripted slice nW o i) (λr s₃=>wpAny (model prog w) A (letTemporaryGo value o r>>=λ_=>pure r) Q E s₃) E s₂:=by
  rw[hs o i];exact wpAny_operating (wpAny_mono h₂ (λr s₃ h₃=>wpAny_bind (wpAny_letTemporaryGo (wpAny_pure h₃))) λ_ _ x=>x)
 first
  |exact wpAny_pure (wpAny_bind fin)
  |exact wpAny_bind (wpAny_pure (wpAny_bind fin))
  |exact wpAny_bind fin
theorem zeZ(I:Inv X pins σ H s)(g:TB H a y o):s.TypeIs (.ref a) "dict":=by
 rcases g with⟨aq,k,e,_,_⟩|⟨aq,k,b,e,_,_,_⟩
 .obtain⟨_,_,vs,_,dd⟩:=zhq I.hok e;exact dd.typeIs
 .obtain⟨_,_,xs,_,dd⟩:=zhr I.hok e;exact dd.typeIs
def znC(td ty:TE):TE:=λσ H Q=>td σ H λx H1=>ty σ H1 λy H2=>∃a v,x= .ref a/\TB H2 a y (iJ v)/\Q v H2
def zqg(ty td:TE):TE:=λσ H Q=>ty σ H λy H1=>td σ H1 λx H2=>∃a o,x= .ref a/\TB H2 a y o/\Q (.bl o.isSome) H2
def zhs(ty td:TE):TE:=λσ H Q=>ty σ H λy H1=>td σ H1 λx H2=>∃a o,x= .ref a/\TB H2 a y o/\Q (.bl (!o.isSome)) H2
section
theorem zl7(hu:X.A.units+1<cLine)(ho:PE X o td)(hi:PE X i ty)(hs:zqf i):PE X (.Subscript o i pos) (znC td ty):=by
 intro pins s σ H Q I h;refine zl6 PySem.F.slot_dict_getitem.lookup hs (thn (ho pins s σ H _ I h) ?_);rintro u s1 ⟨x,H1,I1,rx,q1⟩;refine thn (hi pins s1 σ H1 _ I1 q1) ?_;rintro iv s2 ⟨y,H2,I2,ry,a,v,ex,g,q2⟩;subst ex;obtain rfl:u=Value.ref a:=rx;exact⟨zeZ I2 g,ziy hu I2 g ry λw' s3 I3 rw'=>⟨v,H2,I3,rw',q2⟩⟩
theorem zox(hu:X.A.units+1<cLine)(hi:PE X i ty)(ho:PE X o td):PC X .In i o (zqg ty td):=by
 intro pins s σ H Q I h;refine thn (hi pins s σ H _ I h) ?_;rintro iv s1 ⟨y,H1,I1,ry,q1⟩;refine thn (ho pins s1 σ H1 _ I1 q1) ?_;rintro u s2 ⟨x,H2,I2,rx,a,ov,ex,g,q2⟩;subst ex;obtain rfl:u=Value.ref a:=rx;exact zrb hu I2 g ry λs3 I3=>⟨.bl ov.isSome,H2,I3,rfl,q2⟩
theorem ziz(hu:X.A.units+1<cLine)(hi:PE X i ty)(ho:PE X o td):PC X .NotIn i o (zhs ty td):=by
 intro pins s σ H Q I h;refine thn (hi pins s σ H _ I h) ?_;rintro iv s1 ⟨y,H1,I1,ry,q1⟩;refine thn (ho pins s1 σ H1 _ I1 q1) ?_;rintro u s2 ⟨x,H2,I2,rx,a,ov,ex,g,q2⟩;subst ex;obtain rfl:u=Value.ref a:=rx;exact zl5 hu I2 g ry λs3 I3=>⟨.bl (!ov.isSome),H2,I3,rfl,q2⟩
end
section
variable{pos:Pos}
end
noncomputable abbrev VV:pR (V×V)->pR (qM×qM)->Prop:=Paired λp q=>yq p.1 q.1/\yq p.2 q.2
structure M1(X:Cx)(o:Expr)(m:Str)(apos:Pos)(e:Expr)(d6:Pos):Prop where
 base:attributeBase o m X.env (eval o X.env)=eval o X.env
 few:((backTo d6 (starEach [e] X.env)).all (λx=> !x.1)&&(backToKw d6 (keywordEach [] X.env)).all (λx=>x.1.isSome)
  &&decide (([e]:pR Expr).length+([]:pR Keyword).length+(if ([]:pR Keyword).isEmpty then 0 else 1)<30))=jD
 line:(apos.endLine==d6.line)=jD
 trees:backTo d6 (starEach [e] X.env)=[(nW,eval e X.env)]
structure M2(X:Cx)(o:Expr)(m:Str)(apos:Pos)(e f:Expr)(d6:Pos):Prop where
 base:attributeBase o m X.env (eval o X.env)=eval o X.env
 few:((backTo d6 (starEach [e,f] X.env)).all (λx=> !x.1)&&(backToKw d6 (keywordEach [] X.env)).all (λx=>x.1.isSome)
  &&decide (([e,f]:pR Expr).length+([]:pR Keyword).length+(if ([]:pR Keyword).isEmpty then 0 else 1)<30))=jD
 line:(apos.endLine==d6.line)=jD
 trees:backTo d6 (starEach [e,f] X.env)=[(nW,eval e X.env),(nW,eval f X.env)]
section
variable{a:qY}{y d:V}{u r:qM}{o:pT V}
end
section
variable{o e f:Expr}{apos d6:Pos}{td ty tx:TE}
end
section
variable{a:qY}{aq:pR (Key×V)}
end
section
variable{a:qY}{y:V}{u:qM}
end
end L2
namespace Att
open PySem PySem.W PySem.Calls PyProof.Rows
theorem zbl{P:Params}:∀(ns:pR Int) (vs:pR qM),WellAll P h vs (ns.map WData.int)->IntsAre vs ns:=by
 intro ns
 induction ns with
 |nil=>
  intro vs w;rw[BJ] at w;cases w;exact .nil
 |cons n ns ih=>
  intro vs w;rw[uV] at w;cases w with
  |cons a b=>
   cases a;exact .cons _ _ (ih _ b)
theorem ziA{l:OpenLaw}{n:Nat}(hn:l.most=iJ n){P:Params}{h:Heap}{args:pR WData}{vals:pR qM}
  (kx:l.row.toRowW.claim.pre args=jD) (j7:WellAll P h vals args):
  ∃a vs ns,vals=[Value.ref a]/\args=[WData.list (ns.map WData.int)]/\h.get? a=iJ {cls:= .type "list",data:= .seq vs.toArray}/\IntsAre vs ns/\ns.length<=n:=by
 have rT:WShape.hasAll [] args [.list .int]=jD:=(pre_splitW kx).1;have hc:l.pre.holds [] {args:=args}=jD:=(pre_splitW kx).2;obtain⟨d,r,rfl,h1,h2⟩:=hasAllW_cons rT;obtain rfl:=hasAllW_nil h2;obtain⟨xs,rfl,h3⟩:=hasW_list h1;obtain⟨ns,rfl⟩:=items_int h3;have hlen:ns.length<=n:=by
  unfold OpenLaw.pre at hc;have h4:(WTm.not (.lt (.lit (.int (n:Int))) (.len (.arg 0)))).holds [] {args:=[.list (ns.map .int)]}=jD:=by
   have h4:=(holds_andW hc).1;rw[hn] at h4;exact h4
  have h5:=condW_of h4 (w_not (w_lt w_lit (w_len_list (w_arg rfl))));rw[um] at h5;refine Nat.le_of_not_lt λq=> ?_;have q':(n:Int)<((ns.length:Nat):Int):=by omega
  first
   |(rw[decide_eq_true q'] at h5;exact absurd h5 ∅)
   |(simp at h5;omega)
 cases j7 with
 |cons w1 w2=>
  cases w2;cases w1 with
  |list ho lP=>exact⟨_,_,ns,rfl,rfl,ho,zbl ns _ lP,hlen⟩
theorem ziB(l:OpenLaw)(args:pR WData):l.row.toRowW.claim.post args (.bool jD) args=jD:=
 postW_of (r:=l.row.toRowW) (X:=(jD==jD))
  (show WShape.has [] (.bool jD) .bool=jD by first|rfl|decide|simp[WShape.has,WShape.arms,WShape.armsAll])
  (show(WTm.eq .res (.lit (.bool jD))).value [] {args:=args,res:=iJ (.bool jD),after:=args}=iJ (.bool (jD==jD)) from w_eq_bool (w_res rfl) w_lit) rfl
theorem ze0{l:OpenLaw}{n:Nat}{q:Program}{loose:pR Str}{XP:(Str->pT qM)->Heap->Prop}{YP:World->Heap->Prop}{d:DefRec}
  (hn:l.most=iJ n) (mQ:d.params.defaults=[])
  (call:∀(w:World) (s₀ s₁:qN) (mg mb:Str->pT qM) (fa:qY) (o:Obj) (pm cd doc:qM) (a:qY) (vs:pR qM) (ns:pR Int),
   Ground q loose [] XP w s₀ mg mb s₁.heap->YP w s₁.heap->
   s₁.heap.get? fa=iJ o->o.data= .func (docDef d.name d.params d.body d.scope pm cd doc)->s₁.heap.CodeRec cd d.name->mg d.name=iJ (.ref fa)->
   s₁.heap.get? a=iJ {cls:= .type "list",data:= .seq vs.toArray}->IntsAre vs ns->ns.length<=n->s₁.gens= #[]->
   codeAny (model l.prog w) callerA (.call (.ref fa) ⟨[.ref a],[]⟩) (λr s'=>r= .ok (.ret (.bool jD))/\OldK s₁.heap s'.heap/\s'.os=s₁.os/\AllBare s'.gens) s₁):
  WalkO q loose XP YP l.row.toRowW d [] (λf vs=>DH f vs):=by
 intro w s₀ s₁ mg mb G Y fa o pm cd doc dV kV ho hd ip hD lH hg args vals as kx sx tU j7 tY;obtain rfl:dV= .none:=Dflts.none hD mQ;obtain rfl:kV= .none:=Dflts.noKw hD;obtain⟨a,vs,ns,rfl,rfl,lE,hints,hlen⟩:=ziA hn kx j7;refine enter_call (codeAny_mono (call w s₀ s₁ mg mb fa o pm cd doc a vs ns G Y ho (fd_plain hd) ip lH lE hints hlen hg) λr s' hq=> ?_);obtain⟨rfl,h2,h3,h4⟩:=hq;exact⟨.inl ⟨.bool jD,.bool jD,[],rfl,λ_=>rfl,.bool jD,ziB l _,λ_=>⟨Ey,λ_ hm=>(nomatch hm)⟩⟩,h2,h3,h4⟩
section
variable{w:World}{K:Frag}
end
end Att
namespace L2
open PySem PySem.Spec PyProof.Rows
theorem zdp{vs:pR qM}{ns:pR Int}(h:IntsAre vs ns):yd (ns.map V.int) vs:=by
 induction h with
 |nil=>exact .nil
 |cons n t h i=>exact .cons ⟨t,rfl⟩ i
def zl8(H:Hp):Prop:=∀b,H b=jr\/∃o xs,H b=iJ (.frz o (.lst xs))
theorem zjI{P:Program}{w:World}{mb:Str->pT qM}{CX:CXT}{k:Nat}{fa a:qY}{fd:FuncData}{x:Str}{sp:Sp}{s₁:qN}{vs:pR qM}{ns:pR Int}
  (KX:K.In s₁.heap) (gm:s₁.heap.Ns mainGlobals mg) (hb:s₁.heap.Ns builtinsNs mb) (pC:∀x:Str,x≠"__name__"->mb x=bootBuiltins x) (oZ:s₁.heap.NoLimit) (hg:s₁.gens= #[])
  (ha:s₁.heap.get? a=iJ {cls:= .type "list",data:= .seq vs.toArray}) (hi:IntsAre vs ns) (hl:ns.length<=sizeLine) (hr:Zr k callerA)
  (F:∀base:Heap,K.In base->base.Ns mainGlobals mg->yh P w K mg base CX k fa fd [x] sp) (mU:∀(s:qN) (u:qM),BindsTo s fd ⟨[u],[]⟩ [(x,u)])
  (j9:∀H:Hp,zl8 H->SqX K H a (ns.map V.int)->sp [.ref a] H (λv _=>v= .bl jD) λ_ _ _=>False)
  (pI:∀H e s',CX [] H s₁ (λ_ _ _=>False) e s'->False):
  codeAny (model P w) callerA (.call (.ref fa) ⟨[.ref a],[]⟩) (λr s'=>r= .ok (.ret (.bool jD))/\OldK s₁.heap s'.heap/\s'.os=s₁.os/\AllBare s'.gens) s₁:=by
 have rv:=zdp hi;have o9:=hi.length;have core:∀H:Hp,zl8 H->SqX K H a (ns.map V.int)->HOk P w H s₁.heap->(∀b,H b≠jr->b=a)->(H a≠jr->K.lookup a=jr)->
   codeAny (model P w) callerA (.call (.ref fa) ⟨[.ref a],[]⟩) (λr s'=>r= .ok (.ret (.bool jD))/\OldK s₁.heap s'.heap/\s'.os=s₁.os/\AllBare s'.gens) s₁:=by
  intro H hO hS hok hA hK;have jA:∀{b:qY} {o:Obj},s₁.heap.get? b=iJ o->H b=jr->(zdN s₁.heap H).get? b=iJ o:=λe n=>zjj e n;have mo:∀{b:qY} {o:Obj} {es:Array DictEntry} {ep:Nat},s₁.heap.get? b=iJ o->o.data= .dict es ep->H b=jr:=λ{b o es ep} e d=>by
   cases q:H b with
   |none=>rfl
   |some u=>
    have e':b=a:=hA b (by rw[q];simp);subst e';rw[ha] at e;cases e;have d':Data.seq vs.toArray _=Data.dict es ep:=d;cases d'
  have nz:∀{b:qY} {m:Str->pT qM},s₁.heap.Ns b m->(zdN s₁.heap H).Ns b m:=λ{b m} ⟨o,es,ep,e,d,r⟩=>⟨o,es,ep,jA e (mo e d),d,r⟩
  have qG:K.In (zdN s₁.heap H):=λb o e=>jA (KX b o e) (by
   cases q:H b with
   |none=>rfl
   |some u=>
    have e':b=a:=hA b (by rw[q];simp);subst e'
    rw[hK (by rw[q];simp)] at e;cases e)
  have hM:Mod K mg (zdN s₁.heap H):=⟨qG,nz gm,⟨mb,nz hb,pC⟩,let ⟨mc,h1,h2⟩:=oZ;⟨mc,nz h1,h2⟩⟩;have e0:zgj P w K mg (zdN s₁.heap H) callerA [] s₁ H:=⟨rfl,hM,λb o e=>zlO e,Bj (zio _ _),trivial,λb hb=>absurd (show b∈([]:pR qY) from hb) (by simp),hok,.of_eq hg⟩;refine codeAny_mono ((F _ qG (nz gm)).run callerA [] s₁ H ⟨[.ref a],[]⟩ [.ref a] [.ref a] _ _ hr e0 (mU s₁ (.ref a)) (.cons rfl .nil) (j9 H hO hS)) λr s' h=> ?_;cases r with
  |error e=>exact(pI H e s' h).elim
  |ok fl=>
   cases fl with
   |next=>exact Ab h
   |brk=>exact Ab h
   |cont=>exact Ab h
   |ret u=>
    obtain⟨v,H',os,bare,un,oS,r',q⟩:=h;have q':v= .bl jD:=q;subst q';obtain rfl:u=Value.bool jD:=r';refine⟨rfl,OldK.of_keep λb o e=> ?_,os,bare⟩;cases q:H b with
    |none=>exact un.keep b o e q (by intro z;exact absurd (show b∈([]:pR qY) from z) (by simp)) (by simp)
    |some u=>
     rcases hO b with z|⟨ob,xs,z⟩
     .rw[q] at z;cases z
     .have z2:=un.frzs b ob _ z;obtain⟨e1,_⟩:=hok b _ z;obtain⟨e2,_⟩:=oS b _ z2;rw[e] at e1;cases e1;exact e2
 cases hk:K.lookup a with
 |some o=>
  have e:=KX a o hk;rw[ha] at e;cases e;refine core (λ_=>jr) (λ_=> .inl rfl) (.inr ⟨vs.toArray,_,hk,by rw[uD,o9];exact hl,by simpa using rv⟩) (λb u z=>by have z':(jr:pT HO)=iJ u:=z;cases z') (λb z=>absurd rfl z) λz=>absurd rfl z
 |none=>
  refine core (λb=>if b=a then iJ (.frz {cls:= .type "list",data:= .seq vs.toArray} (.lst (ns.map V.int))) else jr) (λb=> ?_) (.inl (.inr ⟨{cls:= .type "list",data:= .seq vs.toArray},if_pos rfl⟩)) (λb u z=> ?_) (λb z=> ?_) λ_=>hk
  .by_cases hb:b=a
   .exact .inr ⟨_,_,if_pos hb⟩
   .exact .inl (if_neg hb)
  .by_cases hb:b=a
   .have z':=(if_pos hb).symm.trans z;cases z';subst hb;exact⟨ha,by rw[um];exact hl,vs,_,rv,ha⟩
   .have z':=(if_neg hb).symm.trans z;cases z'
  .by_cases hb:b=a
   .exact hb
   .exact absurd (if_neg hb) z
noncomputable abbrev KOf{K:uk}{h:Heap}(_:K.In h):uk:=K
theorem zl9{l:CQ}{n k:Nat}{q:Program}{loose:pR Str}{XP:(Str->pT qM)->Heap->Prop}{YP:World->Heap->Prop}{d:DefRec}{K:Params->uk}{CX:World->CXT}{sp:World->Sp}{x:Str}
  (hn:l.most=iJ n) (jc:n<=sizeLine) (mQ:d.params.defaults=[]) (hr:Zr k callerA)
  (hY:∀(w:World) (h:Heap),YP w h->(K w.params).In h)
  (F:∀(w:World) (mg:Str->pT qM) (fa:qY) (h:Heap),(K w.params).In h->h.Ns mainGlobals mg->mg d.name=iJ (.ref fa)->
   ∃fd:FuncData,(∀(s:qN) (u:qM),BindsTo s fd ⟨[u],[]⟩ [(x,u)])/\
    ∀base:Heap,(K w.params).In base->base.Ns mainGlobals mg->yh l.prog w (K w.params) mg base (CX w) k fa fd [x] (sp w))
  (j9:∀(w:World) (H:Hp) (a:qY) (ns:pR Int),ns.length<=n->zl8 H->SqX (K w.params) H a (ns.map V.int)->sp w [.ref a] H (λv _=>v= .bl jD) λ_ _ _=>False)
  (pI:∀(w:World) (H:Hp) (s:qN) (e:qM) (s':qN),CX w [] H s (λ_ _ _=>False) e s'->False):
  Eb q loose XP YP l.row.toRowW d [] (λf vs=>DH f vs):=by
 refine Att.ze0 hn mQ λw s₀ s₁ mg mb fa o pm cd doc a vs ns G Y ho hd ip lH lE hints hlen hg=> ?_;have KX:=hY w _ Y;obtain⟨fd,hb,hF⟩:=F w mg fa _ KX G.T.g lH;exact zjI KX G.T.g G.T.b G.T.builtins G.T.nolimit hg lE hints (v5 hlen jc) hr hF hb (λH hO hS=>j9 w H a ns hlen hO hS) λH e s'=>pI w H s₁ e s'
end L2
namespace L2
open PySem PySem.Spec PyProof.Rows
noncomputable def zbA(s:Stmt)(j:Nat):Stmt:=match s with
 | .ClassDef _ _ _ body _ _ _ _ _ _ _=>body.getD j (.Pass ⟨0,0,0,0⟩)
 |_=> .Pass ⟨0,0,0,0⟩
noncomputable def WI(s:Stmt):Arguments:=match s with
 | .FunctionDef _ a _ _ _ _ _ _ _ _=>a
 |_=>{posonlyargs:=[],args:=[],vararg:=jr,kwonlyargs:=[],kw_defaults:=[],kwarg:=jr,defaults:=[]}
noncomputable def XB(s:Stmt):pR Stmt:=match s with
 | .FunctionDef _ _ b _ _ _ _ _ _ _=>b
 |_=>[]
noncomputable def zg(s:Stmt):Scope:=match s with
 | .FunctionDef _ _ _ _ _ _ sc _ _ _=>sc
 |_=>{kind:= .function,names:=[],isGenerator:=nW,isCoroutine:=nW}
noncomputable abbrev CX0:CXT:=λ_ _ _ _ _ _=>False
noncomputable abbrev E0:XK:=λ_ _ _=>False
structure Fun(K:uk)(x qual:Str)(st:Stmt)(f:qY)(fd:FuncData):Prop where
 ex:∃(oc:qM) (od:pT qY) (kV doc pm:qM) (an:pT qY) (aP ct:qM) (js:Array (pT qM)),
  fd=AO x qual (WI st) (XB st) (zg st) .none kV doc pm an aP ct/\K.lookup f=iJ ⟨oc,od,.func fd,js⟩/\BL K aP qual=jD
 kp:Av K (.ref f)=jD
section
variable{P:Program}
theorem Fun.binds{x qual:Str}{st:Stmt}{f:qY}{fd:FuncData}{ps:pR Str}(F:Fun K x qual st f fd)
  (h:∀(kV doc pm:qM) (an:pT qY) (aP ct:qM) (us:pR qM),us.length=ps.length->bindArgs (AO x qual (WI st) (XB st) (zg st) .none kV doc pm an aP ct) ⟨us,[]⟩=pure (ps.zip us)):Vt K fd ps []:=by
 obtain⟨oc,od,kV,doc,pm,an,aP,ct,js,rfl,lk,ip⟩:=F.ex;exact .all (h kV doc pm an aP ct)
theorem zjJ{x qual:Str}{st:Stmt}{f:qY}{oc:qM}{od an:pT qY}{js:Array (pT qM)}{kV doc pm aP ct:qM}(l:K.lookup f=iJ ⟨oc,od,.func (AO x qual (WI st) (XB st) (zg st) .none kV doc pm an aP ct),js⟩)
  (c:BL K aP qual=jD) (k:Av K (.ref f)=jD):Fun K x qual st f (AO x qual (WI st) (XB st) (zg st) .none kV doc pm an aP ct):=⟨⟨oc,od,kV,doc,pm,an,aP,ct,js,rfl,l,c⟩,k⟩
end
theorem zjK(hr:Zr k A):A.units+1<cLine:=y9 (Nat.add_le_add_left (by decide:1<=64) _) hr.units
theorem pv(i:Nat)(hN:X.N[i]? =iJ x:=by rfl)(hv:Vis X.env.scope x:=by first|exact uy rfl|exact DI (uy rfl)|exact DI (DI rfl))(hd:(x==("__debug__":Str))=nW:=by decide)
  (ip:(x==("__classdict__":Str))=nW:=by decide):PE X (.Name x pos) (zlP i):=zn8 hN hv hd ip
def TC(H H':Hp):Prop:=∀b o,H b=iJ o->H' b=iJ o
theorem TC.refl(H:Hp):TC H H:=λ_ _ h=>h
section
variable{κ:Type}[DecidableEq κ]
end
theorem VE{R:Result->qN->Prop}(I:Nat->qN->Prop)
  (turn:∀n s,I n s->wpAny (model prog w) A (pyNext it) (λr s₁=>match r with
   |none=>R (.ok .next) s₁
   |some v=>wpAny (model prog w) A (letOwnedTupleGo tg it v) (λ_ s₁'=>wpAny (model prog w) A (assign tg env v) (λ_ s₂=>
     wpAny (model prog w) A (forIn ifs jD λc r=>if r=jD then do let ok <-isTrue c env (eval c env);pure (Be ok) else pure (Be r)) (λok s₃=>
      if ok=jD then wpAny (model prog w) A (eval elt env) (λx s₄=>
       wpAny (model prog w) A (call (.builtin "list.append") [acc,x]) (λ_ s₅=>∃m,m<n/\I m s₅) (λ_ _=>False) s₄) (λ_ _=>False) s₃
      else ∃m,m<n/\I m s₃) (λ_ _=>False) s₂)
     (λ_ _=>False) s₁') (λ_ _=>False) s₁) (λ_ _=>False) s)
  (n:Nat) (h:I n s):codeAny (model prog w) A (.compLoop (.ListComp elt [⟨tg,iter,ifs,0⟩] scope pos) 0 it acc env) R s:=by
 refine codeAny_loop rfl I (λn s hI=> ?_) n h;show wpAny _ A ((compTurn (.ListComp elt [⟨tg,iter,ifs,0⟩] scope pos) 0 it acc env).onRaise (λx=>do noteFrame x env;theTreesLotGoes x)) _ _ s;refine wpAny_noted ?_;rw[compTurn_list];refine wpAny_bind (wpAny_standAt (wpAny_bind (wpAny_mono (turn n s hI) (λr s₁ h₁=> ?_) λ_ _ h'=>h'.elim)));cases r with
 |none=>exact wpAny_pure h₁
 |some v=>
  refine wpAny_bind (wpAny_mono h₁ (λ_ s₁' h₁'=> ?_) λ_ _ h'=>h'.elim);refine wpAny_bind (wpAny_mono h₁' (λ_ s₂ h₂=>wpAny_bind (wpAny_mono h₂ (λok s₃ h₃=> ?_) λ_ _ h'=>h'.elim)) λ_ _ h'=>h'.elim);cases ok with
  |false=>exact wpAny_pure ⟨rfl,h₃⟩
  |true=>
   exact wpAny_bind (wpAny_bind (wpAny_mono h₃ (λx s₄ h₄=>wpAny_bind (wpAny_mono h₄ (λ_ s₅ h₅=>wpAny_pure (wpAny_pure ⟨rfl,h₅⟩)) λ_ _ h'=>h'.elim)) λ_ _ h'=>h'.elim))
noncomputable def zcK(env:Env):pR (Str×NameKind)->pR (Str×qY)->pR (Str×qY)
 |[],cs=>cs
 |(n,k)::r,cs=>zcK env r (if k== .free then (match env.cells.lookup n with|some c=>(n,c)::cs|none=>cs) else cs)
noncomputable def ze1(sc:Scope)(env:Env):pR (Str×qY):=zcK env sc.names []
theorem ze2{ns:pR (Str×NameKind)}{cs:pR (Str×qY)}(h:∀p∈cs,env.cells.lookup p.1=iJ p.2):∀p∈zcK env ns cs,env.cells.lookup p.1=iJ p.2:=by
 induction ns generalizing cs with
 |nil=>exact h
 |cons x r i=>
  obtain⟨n,k⟩:=x;unfold zcK;refine i ?_;by_cases hk:(k== .free)=jD
  .rw[if_pos hk];cases e:env.cells.lookup n with
   |none=>exact h
   |some c=>
    intro p hp;rcases uU.mp hp with rfl|hp
    .exact e
    .exact h p hp
  .rw[if_neg hk];exact h
theorem ze3{ns:pR (Str×NameKind)}{cs:pR (Str×qY)}{p:Str×qY}(h:p∈cs):p∈zcK env ns cs:=by
 induction ns generalizing cs with
 |nil=>exact h
 |cons x r i=>
  obtain⟨n,k⟩:=x;unfold zcK;refine i ?_;by_cases hk:(k== .free)=jD
  .rw[if_pos hk];cases env.cells.lookup n with
   |none=>exact h
   |some c=>exact uG _ h
  .rw[if_neg hk];exact h
theorem ze4(e:env.cells.lookup x=iJ c){ns:pR (Str×NameKind)}{cs:pR (Str×qY)}(h:(x,NameKind.free)∈ns):(x,c)∈zcK env ns cs:=by
 induction ns generalizing cs with
 |nil=>cases h
 |cons y r i=>
  obtain⟨n,k⟩:=y;unfold zcK;rcases uU.mp h with h|h
  .injection h with h1 h2
   subst h1 h2;refine ze3 ?_;rw[if_pos (by rfl),e];exact uK
  .exact i h
theorem UR{l:pR (Str×qY)}{x:Str}{c:qY}(h:(x,c)∈l):∃d,l.lookup x=iJ d:=by
 induction l with
 |nil=>cases h
 |cons y r i=>
  obtain⟨n,d⟩:=y;rw[A1];cases e:x==n with
  |true=>exact⟨d,rfl⟩
  |false=>
   rcases uU.mp h with h|h
   .injection h with h1 h2
    subst h1;simp at e
   .exact i h
theorem Zw(e:(ze1 sc env).lookup x=iJ c):env.cells.lookup x=iJ c:=
 ze2 (cs:=[]) (λp hp=>by cases hp) (x,c) (An e)
theorem ze5(h:(x,NameKind.free)∈sc.names)(e:env.cells.lookup x=iJ c):(ze1 sc env).lookup x=iJ c:=by
 obtain⟨d,hd⟩:=UR (ze4 (cs:=[]) e h);have:=Zw (sc:=sc) hd;rw[e] at this;cases this;exact hd
theorem zcL(h:∀y∈sc.names,y.2= .free->∃c,env.cells.lookup y.1=iJ c):closureFor sc env=pure (ze1 sc env):=by
 unfold ze1 closureFor;generalize sc.names=ns at h
 suffices hh:∀cs:pR (Str×qY),(forIn ns cs (λ(x:Str×NameKind) (r:pR (Str×qY))=>
    (match x with
     |(name,kind)=>if (kind==NameKind.free)=jD then (cellOf env name>>=λc=>pure (Be ((name,c)::r))) else pure (Be r):Sem (ForInStep (pR (Str×qY)))))>>=λr=>pure r:Sem (pR (Str×qY)))=pure (zcK env ns cs) from hh []
 induction ns with
 |nil=>intro cs;rfl
 |cons p r ih=>
  intro cs;obtain⟨n,k⟩:=p;rw[List.forIn_cons];unfold zcK;have ih':=ih λy hy=>h y (uG _ hy);by_cases hk:(k== .free)=jD
  .obtain⟨c,hc⟩:=h (n,k) uK (by simpa using hk);have hc:env.cells.lookup n=iJ c:=hc;have h1:cellOf env n=pure c:=by unfold cellOf;rw[hc]
   simp only[hk,if_true,h1,hc,pure_bind];exact ih' _
  .simp only[hk,if_false,pure_bind];exact ih' _
noncomputable def wJ(X:Cx)(N':pR Str)(sc:Scope)(C:qY)(s₀:qN)(H₀:Hp)(fp:pR qY):Cx where
 prog:=X.prog
 w:=X.w
 K:=X.K
 mg:=X.mg
 base:=X.base
 A:=X.A
 N:=N'
 s₀:=s₀
 H₀:=H₀
 env:=compEnvC sc (ze1 sc X.env) C X.env
 outer:=X.stack
 stack:=X.stack
 ex:=fp
 fn:=λ_=>nW
 calm:=X.calm
 pn:=[]
 xe:=λ_ _=>False
theorem Yr{env:Env}:∀{names:pR (Str×NameKind)} {x:Str},names.lookup x=iJ .free->
  (names.map λ(n,k)=>if (k==NameKind.free&&env.scope.kind== .function&&env.kindOf n==iJ .cell) then (n,NameKind.cell) else (n,k)).lookup x=iJ .cell\/
  (names.map λ(n,k)=>if (k==NameKind.free&&env.scope.kind== .function&&env.kindOf n==iJ .cell) then (n,NameKind.cell) else (n,k)).lookup x=iJ .free
 |[],_,h=>by simp at h
 |(n,k)::r,x,h=>by
  have ih:= @Yr env r x;show AK x ((if (k==NameKind.free&&env.scope.kind== .function&&env.kindOf n==iJ .cell)=jD then (n,NameKind.cell) else (n,k))::_)=_\/AK x ((if (k==NameKind.free&&env.scope.kind== .function&&env.kindOf n==iJ .cell)=jD then (n,NameKind.cell) else (n,k))::_)=_;cases hx:x==n with
  |true=>
   simp only[A1,hx] at h;cases h;by_cases hc:(NameKind.free==NameKind.free&&env.scope.kind== .function&&env.kindOf n==iJ .cell)=jD
   .rw[if_pos hc];left;simp[A1,hx]
   .rw[if_neg hc];right;simp[A1,hx]
  |false=>
   simp only[A1,hx] at h;by_cases hc:(k==NameKind.free&&env.scope.kind== .function&&env.kindOf n==iJ .cell)=jD
   .rw[if_pos hc];simp only[A1,hx];exact ih h
   .rw[if_neg hc];simp only[A1,hx];exact ih h
theorem XC{env:Env}{x:Str}{k:NameKind}(hk:k= .cell\/k= .free):∀{names:pR (Str×NameKind)},(∀y∈names,y.2≠ .cell)->
  (names.map λ(n,k)=>if (k==NameKind.free&&env.scope.kind== .function&&env.kindOf n==iJ .cell) then (n,NameKind.cell) else (n,k)).lookup x=iJ k->(x,NameKind.free)∈names
 |[],_,h=>by simp at h
 |(n,j)::r,hc,h=>by
  have hr:∀y∈r,y.2≠ .cell:=λy hy=>hc y (uG _ hy);have h:AK x ((if (j==NameKind.free&&env.scope.kind== .function&&env.kindOf n==iJ .cell)=jD then (n,NameKind.cell) else (n,j))::_)=_:=h;by_cases hj:(j==NameKind.free&&env.scope.kind== .function&&env.kindOf n==iJ .cell)=jD
  .rw[if_pos hj,A1] at h;have p7:j= .free:=by
    simp only[v9,beq_iff_eq] at hj;exact hj.1.1
   cases hx:x==n with
   |true=>
    rw[eq_of_beq hx,<-p7];exact uK
   |false=>
    rw[hx] at h;exact uG _ (XC hk hr h)
  .rw[if_neg hj,A1] at h;cases hx:x==n with
   |true=>
    rw[hx] at h;have h':j=k:=y8 h;have sH:j≠ .cell:=hc (n,j) uK;rcases hk with e|e
    .exact absurd (h'.trans e) sH
    .rw[eq_of_beq hx];have:j= .free:=h'.trans e;rw[this];exact uK
   |false=>
    rw[hx] at h;exact uG _ (XC hk hr h)
def vP(X:Cx)(sc:Scope):pR (pT Nat)->pR Str->Prop
 |[],[]=>True
 |none::r,_::n=>vP X sc r n
 |some i::r,x::n=>(X.N[i]? =iJ x/\sc.names.lookup x=iJ .free)/\vP X sc r n
 |_,_=>False
noncomputable def YY(cap:pR (pT Nat))(σ:St):St:=cap.map λo=>o.bind λi=>(σ[i]?).join
theorem vP.at:∀{cap:pR (pT Nat)} {N':pR Str},vP X sc cap N'->∀(j i:Nat) (x:Str),cap[j]? =iJ (iJ i)->N'[j]? =iJ x->X.N[i]? =iJ x/\sc.names.lookup x=iJ .free
 |[],[],_,j,i,x,h,_=>by simp at h
 |none::r,y::n,c,0,i,x,h,_=>by simp at h
 |none::r,y::n,c,j+1,i,x,h,h2=>vP.at (cap:=r) c j i x (by simpa using h) (by simpa using h2)
 |some k::r,y::n,c,0,i,x,h,h2=>by
  simp at h h2;subst h h2;exact c.1
 |some k::r,y::n,c,j+1,i,x,h,h2=>vP.at (cap:=r) c.2 j i x (by simpa using h) (by simpa using h2)
theorem vP.len:∀{cap:pR (pT Nat)} {N':pR Str},vP X sc cap N'->cap.length=N'.length
 |[],[],_=>rfl
 |none::r,y::n,c=>by simpa using vP.len (cap:=r) (N':=n) c
 |some k::r,y::n,c=>by simpa using vP.len (cap:=r) (N':=n) c.2
theorem zdq{cap:pR (pT Nat)}{j:Nat}{v:V}(h:(YY cap σ)[j]? =iJ (iJ v)):∃i,cap[j]? =iJ (iJ i)/\σ[i]? =iJ (iJ v):=by
 unfold YY at h;rw[uA] at h;cases e:cap[j]? with
 |none=>rw[e] at h;cases h
 |some o=>
  rw[e] at h;cases o with
  |none=>simp at h
  |some i=>
   refine⟨i,rfl,?_⟩;simp only[CT,uJ,z9] at h;cases q:σ[i]? with
   |none=>rw[q] at h;simp at h
   |some z=>rw[q] at h;simp at h;rw[h]
def PTs(X:Cx)(ifs:pR Expr)(t:TT):Prop:=
 ∀(pins:pR (qY×Obj)) (s:qN) (σ:St) (H:Hp) (Q:Bool->Hp->Prop),Inv X pins σ H s->t σ H Q->
  wpAny (model X.prog X.w) X.A (forIn ifs jD λc r=>if r=jD then do let ok <-isTrue c X.env (eval c X.env);pure (Be ok) else pure (Be r)) (TP X pins σ Q) X.xe s
theorem xm:PTs X [] (λ_ H Q=>Q jD H):=λ_ _ _ H _ I h=>wpAny_tests_nil ⟨H,I,h⟩
theorem zma(h:PT X c t):PTs X [c] t:=λpins s σ H Q I hw=>wpAny_tests_one (h pins s σ H Q I hw)
def zjL(cap:pR (pT Nat))(g:TG)(tt:TT)(te:TE)(J:It)(σ:St)(acc:qY)(H0:Hp)(Q:Hp->Prop):Prop:=
 ∃W:Nat->Nat->pR V->Hp->Prop,(∃m,W 0 m [] (upd H0 acc (.lst [])))/\∀i m ys H,W i m ys H->
  (J.stop i H/\Q H)\/(J.go i H/\∀x H',J.yld i H x H'->g x (YY cap σ) H' λσ2 H2=>tt σ2 H2 λb H3=>
   if b=jD then te σ2 H3 λv H4=>H4 acc=iJ (.lst ys)/\ys.length<sizeLine/\∃m',m'<m/\W (i+1) m' (ys++[v]) (upd H4 acc (.lst (ys++[v])))
   else ∃m',m'<m/\W (i+1) m' ys H3)
def zjM(cap:pR (pT Nat))(wi:TI)(g:TG)(tt:TT)(te:TE):TE:=λσ H Q=>wi σ H λJ H1=>∀acc,H1 acc=jr->zjL cap g tt te J σ acc H1 λH2=>Q (.ref acc) H2
def ze6(i:Nat)(cap:pR (pT Nat))(wi:TI)(g:TG)(tt:TT)(te:TE):TS:=λD σ H=>wi σ H λJ H1=>∀acc,H1 acc=jr->zjL cap g tt te J σ acc H1 λH2=>D.nx (σ.set i (iJ (.ref acc))) H2
structure Uw(X:Cx)(sc:Scope):Prop where
 cell:∀y∈sc.names,y.2≠ .cell
 kind:sc.kind= .function
 names:∀y∈sc.names,y.2= .local->sc.names.lookup y.1=iJ .local
 free:∀y∈sc.names,y.2= .free->X.env.kindOf y.1=iJ .cell\/X.env.kindOf y.1=iJ .free
section
theorem Inv.closure(I:Inv X pins σ H s)(B:Uw X sc):closureFor sc X.env=pure (ze1 sc X.env):=
 zcL λy hy e=>I.ok.has y.1 (B.free y hy e)
theorem ziC{m:Str->pT qM}
  (I:Inv X pins σ H s) (B:Uw X sc) (cp:vP X sc cap N') (hf:∀b∈fp,zeQ X pins H b) (sQ:∀b∈fp,b<s.heap.objs.size) (iM:acc=s.heap.objs.size) (ho:s₀.os=s.os) (p9:s₀.gens=s.gens)
  (h0:s₀.heap=s.heap.push {cls:= .type "list",data:= .seq #[]}) (hC:C=s₀.heap.objs.size)
  (gm:h₁.Ns C m) (ke:∀b o,s₀.heap.get? b=iJ o->h₁.get? b=iJ o):
  Inv (wJ X N' sc C s₀ (upd H acc (.lst [])) fp) [] (YY cap σ) (upd H acc (.lst [])) {s₀ with heap:=h₁,toks:=t'}:=by
 have qC:H acc=jr:=I.hok.fresh (Bj iM.symm);have kH:∀b o,s.heap.get? b=iJ o->s₀.heap.get? b=iJ o:=λb o e=>by rw[h0];exact Heap.get?_push_of_some _ e
 have nY:s₀.heap.objs.size=s.heap.objs.size+1:=by rw[h0,Heap.size_push]
 have I0:Inv X pins σ (upd H acc (.lst [])) {s with heap:=s₀.heap,toks:=s.toks}:=I.laid kH (Bj iM.symm) ⟨uZ _,[],0,.nil,by rw[h0,iM];exact Heap.get?_push_size _ rfl⟩;have CX':∀b,b<s.heap.objs.size->b≠C:=λb hb=>uR (by rw[hC,nY];exact AY hb);have CA:∀b,b<s.heap.objs.size->b≠acc:=λb hb=>uR (by rw[iM];exact hb);have cellLt:∀x c,X.env.cells.lookup x=iJ c->c<s.heap.objs.size:=λx c e=>by
  obtain⟨v,o,q,_⟩:=I.cell x c e;exact Heap.lt_size q
 refine⟨⟨I.ok.mod,B.kind,I.ok.glob,I.ok.blt,Bj hC.symm,λx y c h1 h2=>I.ok.inj x y c (Zw h1) (Zw h2),λx hx=> ?_,λx c h=>DC h,I.ok.hd,I.ok.frames,.inl rfl,λb hb=>⟨CX' b (sQ b hb),λx c e=>(hf b hb).2.2.2.2.1 x c (Zw e)⟩,
   λb o e=> ?_,?_,λb o e hb=> ?_,λb hb hz=> ?_,I0.stack,I0.stkFree⟩,
  rfl,?_,Un.kept ke,⟨m,gm,λj x v h1 h2 h3=> ?_⟩,λx c e=> ?_,?_,λx c e=> ?_,λp hp=>absurd (show p∈([]:pR (qY×Obj)) from hp) (by simp),I0.hok.kept ke,?_⟩
 .have hm:(x,NameKind.free)∈sc.names:=by
   rcases hx with hx|hx
   .exact XC (env:=X.env) (.inl rfl) B.cell hx
   .exact XC (env:=X.env) (.inr rfl) B.cell hx
  obtain⟨c,hc⟩:=I.ok.has x (B.free _ hm rfl);exact⟨c,ze5 hm hc⟩
 .obtain⟨e1,e2⟩:=I.bs b o e;exact⟨kH b o e1,by show upd H acc (.lst []) b=jr;rw[yi (CA b (Heap.lt_size e1))];exact e2⟩
 .exact v5 I.ok.bsz (v5 I.sz (by show _<=s₀.heap.objs.size;omega))
 .rcases (hf b hb).2.2.2.1 with z|z
  .exact I.ok.noex b o e z
  .exact absurd (uY (Heap.lt_size e) (v5 I.ok.bsz z)) (Ad _)
 .rcases uU.mp (I.stkSub b hz) with e|e
  .exact (hf b hb).2.1 e
  .exact (hf b hb).2.2.1 e
 .show AllBare s₀.gens;rw[p9];exact I.bare
 .obtain⟨i,e1,e2⟩:=zdq h2;obtain⟨e3,e4⟩:=cp.at j i x e1 h1;have hm:(x,NameKind.free)∈sc.names:=An e4;have hk:=B.free _ hm rfl;obtain⟨m0,qx,hl⟩:=I.loc;obtain⟨u,r,l⟩:=hl i x v e3 e2 (by rcases hk with k|k;exact .inr (.inl k);exact .inr (.inr k));refine⟨u,r,.inr ?_⟩;rcases l with⟨k,_⟩|⟨_,c,hc,o,q,d⟩
  .rcases hk with k'|k'
   .rw[k] at k';cases k'
   .rw[k] at k';cases k'
  .exact⟨Yr (env:=X.env) e4,c,ze5 hm hc,o,ke c o (kH c o q),d⟩
 .obtain⟨v,o,q,d⟩:=I.cell x c (Zw e);exact⟨v,o,ke c o (kH c o q),d⟩
 .show upd H acc (.lst []) C=jr;rw[yi (by rw[hC,iM,nY];exact Nat.succ_ne_self _)];exact I.hok.fresh (by rw[hC,nY];exact B3 _)
 .show upd H acc (.lst []) c=jr;rw[yi (CA c (cellLt x c (Zw e)))];exact I.freeC x c (Zw e)
 .show (YY cap σ).length=N'.length;unfold YY;rw[um];exact cp.len
def Kp(σ0 σ:St):Prop:=σ.length=σ0.length/\∀(j:Nat) v,σ0[j]? =iJ (iJ v)->σ[j]? =iJ (iJ v)
def zmb(cap:pR (pT Nat))(g:TG):Prop:=∀σ0 σ x H Q,Kp (YY cap σ0) σ->g x σ H Q->g x σ H λσ2 H2=>Q σ2 H2/\Kp (YY cap σ0) σ2
theorem yw(h:cap[i]? =iJ jr):zmb cap (zhe i):=λσ0 σ x H Q k q=>by
 refine⟨q,by rw[Al];exact k.1,λj v e=> ?_⟩;have:j≠i:=by
  rintro rfl;obtain⟨i',e1,_⟩:=zdq e;rw[h] at e1;cases e1
 rw[A2 (A9 this)];exact k.2 j v e
theorem zdr{use:pT (qM->Sem Unit)}{R:qY->Hp->Prop}
  (hc:X.calm=jD) (B:Uw X sc) (cp:vP X sc cap N') (hi:PI X tg iter wi) (ow:zmb cap g)
  (hg:∀C s₀ H₀ fp,PG (wJ X N' sc C s₀ H₀ fp) tg g) (ht:∀C s₀ H₀ fp,PTs (wJ X N' sc C s₀ H₀ fp) ifs tt) (he:∀C s₀ H₀ fp,PE (wJ X N' sc C s₀ H₀ fp) elt te)
  (hs:∀x,foldedSetIterable iter X.env x=pure x)
  (I:Inv X pins σ H s) (h:wi σ H λJ H1=>∀acc,H1 acc=jr->zjL cap g tt te J σ acc H1 (R acc))
  (fin:∀(acc C:qY) (H':Hp) (s':qN) (m:Str->pT qM),Inv X pins σ H' s'->s'.heap.Ns C m->C≠X.env.locals->
   (∀{σ':St} {s'':qN},Inv X pins σ' H' s''->∀h',Heap.SameBut C s''.heap h'->Inv X pins σ' H' {s'' with heap:=h'})->
   R acc H'->compPost (model X.prog X.w) X.A X.xe use Q (.ref acc) C (.ok .next) s'):
  wpAny (model X.prog X.w) X.A (comprehension (.ListComp elt [⟨tg,iter,ifs,0⟩] sc pos) sc X.env p (newList []) nW (eval iter X.env) use) Q X.xe s:=by
 refine wpAny_comprehension_free rfl hs (I.closure B) B.kind B.names (thn (hi pins s σ H _ I h) λxv s1 h1=>thn h1 λog s2 h2=> ?_);obtain⟨it,fp,tn,J,H2,e,I2,T,dA,f2,r2⟩:=h2;subst e;have qL:∀b∈fp,b<s2.heap.objs.size:=λb hb=>by
  obtain⟨o,e,_⟩:=T.obj _ _ dA b hb;exact Heap.lt_size e
 refine wpAny_newObj_type (wpAny_newFunctionEnv B.cell (by intro y hy;simp at hy) (λh₁ hns₁ hsb₁=> ?_) B.kind);dsimp only at hns₁ hsb₁ ⊢;obtain⟨s₀,nk⟩:∃s₀:qN,s₀={s2 with heap:=s2.heap.push {cls:= .type "list",dict:=jr,data:= .seq ([]:pR qM).toArray}}:=⟨_,rfl⟩;have e0h:s₀.heap=s2.heap.push {cls:= .type "list",data:= .seq #[]}:=by rw[nk]
 obtain⟨C,eC⟩:∃C:qY,C=s₀.heap.objs.size:=⟨_,rfl⟩;obtain⟨acc,eA⟩:∃a:qY,a=s2.heap.objs.size:=⟨_,rfl⟩;rw[show(s2.heap.push {cls:= .type "list",dict:=jr,data:= .seq ([]:pR qM).toArray}).objs.size=C by rw[eC,e0h]] at hns₁ hsb₁ ⊢;have keep₁:∀b o,s₀.heap.get? b=iJ o->h₁.get? b=iJ o:=λb o e=>by
  refine hsb₁.extBut b o ?_ ?_
  .rw[eC];exact uR (Heap.lt_size e)
  .rw[e0h] at e;exact Heap.get?_push_of_some _ e
 have ny:C=s2.heap.objs.size+1:=by rw[eC,e0h,Heap.size_push]
 have kH:∀b o,s2.heap.get? b=iJ o->s₀.heap.get? b=iJ o:=λb o e=>by rw[e0h];exact Heap.get?_push_of_some _ e
 have qK:H2 acc=jr:=I2.hok.fresh (Bj eA.symm);show codeAny (model X.prog X.w) X.A (.compStart (.ListComp elt [⟨tg,iter,ifs,0⟩] sc pos) 0 (.ref it) (.ref s2.heap.objs.size) (compEnvC sc (ze1 sc X.env) C X.env))
  (compPost (model X.prog X.w) X.A X.xe use Q (.ref s2.heap.objs.size) C) {s2 with heap:=h₁,toks:=s2.toks+([]:pR (Str×qM)).length}
 rw[<-eA];have tE:({s2 with heap:=h₁,toks:=s2.toks+([]:pR (Str×qM)).length}:qN)={s₀ with heap:=h₁,toks:=s2.toks+([]:pR (Str×qM)).length}:=by rw[nk]
 rw[tE];obtain⟨W,⟨m0,w0⟩,turn⟩:=r2 acc qK;have Ib:Inv (wJ X N' sc C s₀ (upd H2 acc (.lst [])) fp) [] (YY cap σ) (upd H2 acc (.lst [])) {s₀ with heap:=h₁,toks:=s2.toks+([]:pR (Str×qM)).length}:=
  ziC I2 B cp f2 qL eA (by rw[nk]) (by rw[nk]) e0h eC hns₁ keep₁
 have stat:∀{H':Hp},(∀b∈fp,H' b=jr)->∀b∈fp,zeQ (wJ X N' sc C s₀ (upd H2 acc (.lst [])) fp) [] H' b:=λhn b hb=>
  ⟨hn b hb,(Ib.ok.exf b hb).1,Ib.ok.exfs b hb,.inl hb,λx c e=>(Ib.ok.exf b hb).2 x c e,λp hp=>absurd (show p∈([]:pR (qY×Obj)) from hp) (by simp)⟩
 have tD:∀b∈fp,upd H2 acc (.lst []) b=jr:=λb hb=>by
  rw[yi (by rw[eA];exact uR (qL b hb))];exact(f2 b hb).1
 have loop:codeAny (model X.prog X.w) X.A (.compLoop (.ListComp elt [⟨tg,iter,ifs,0⟩] sc pos) 0 (.ref it) (.ref acc) (compEnvC sc (ze1 sc X.env) C X.env))
   (compPost (model X.prog X.w) X.A X.xe use Q (.ref acc) C) {s₀ with heap:=h₁,toks:=s2.toks+([]:pR (Str×qM)).length}:=by
  refine VE (λn s'=>∃i ys H',Inv (wJ X N' sc C s₀ (upd H2 acc (.lst [])) fp) [] (YY cap σ) H' s'/\tn i s'.heap/\(∀b∈fp,H' b=jr)/\W i n ys H') ?_ m0
   ⟨0,[],_,Ib,T.keep _ _ _ dA λb hb o e=>keep₁ b o (kH b o e),tD,w0⟩
  rintro n s3 ⟨i,ys,H3,I3,ko,nj,w3⟩;rcases turn i n ys H3 w3 with⟨stop,qn⟩|⟨go,step⟩
  .refine thn (T.done (wJ X N' sc C s₀ (upd H2 acc (.lst [])) fp) rfl rfl rfl hc i [] s3 _ H3 (λ_ _=>False) I3 (stat nj) ko stop) λr s4 ⟨hr,I4⟩=> ?_;subst hr;have u0:Un (frs X.stack) fp H2 (upd H2 acc (.lst [])) s2.heap s₀.heap:=Un.laid kH (Bj eA.symm) qK;have un:Un (frs X.stack) fp H2 H3 s2.heap s4.heap:=u0.trans I4.base;have I5:Inv X pins σ H3 s4:=I2.call' (by rw[I4.os];show s₀.os=_;rw[nk]) un I4.hok I4.bare λb hb=>⟨(f2 b hb).2.2.2.1,(f2 b hb).2.1,(f2 b hb).2.2.2.2.1,(f2 b hb).2.2.2.2.2⟩;obtain⟨m4,lX,_⟩:=I4.loc;have CL:C≠X.env.locals:=λz=>by
    have:=I2.lt;rw[<-z,ny] at this;exact absurd this (DJ.mpr (B3 _))
   refine fin acc C H3 s4 m4 I5 lX CL (λ{σ' s''} I6 h' sb=> ?_) qn;refine I6.turned (t':=s''.toks) (λb o hb e=>(sb.2 b hb).trans e) I4.free CL (.inr ?_) (λx c e z=> ?_) λp hp z=> ?_
   .have:=I2.sz;rw[ny];omega
   .obtain⟨v,o,q,_⟩:=I2.cell x c e;have:=Heap.lt_size q;rw[z,ny] at this;exact absurd this (DJ.mpr (B3 _))
   .obtain⟨q,_⟩:=I2.pin p hp;have:=Heap.lt_size q;rw[z,ny] at this;exact absurd this (DJ.mpr (B3 _))
  .refine thn (T.item (wJ X N' sc C s₀ (upd H2 acc (.lst [])) fp) rfl rfl rfl hc i [] s3 _ H3 (λ_ _=>False) I3 (stat nj) ko go) λr s4 ⟨u,hr,h4⟩=> ?_;subst hr;refine thn h4 ?_;rintro _ s5 ⟨x,H5,I5,r5,y5,kZ,pL⟩;have I5':=I5.pinned (stat pL) (T.obj _ _ kZ);refine thn (hg C s₀ _ fp _ s5 _ H5 x u _ I5' r5 (ow σ _ x H5 _ ⟨rfl,λ_ _ e=>e⟩ (step x H5 y5))) ?_;rintro _ s6 ⟨σ6,H6,I6,q6,q9⟩;have again:∀{H7:Hp} {s7:qN} {zs:pR V},Inv (wJ X N' sc C s₀ (upd H2 acc (.lst [])) fp) ([]++zbR fp s5.heap) σ6 H7 s7->(∃m',m'<n/\W (i+1) m' zs H7)->
     ∃m,m<n/\∃i ys H',Inv (wJ X N' sc C s₀ (upd H2 acc (.lst [])) fp) [] (YY cap σ) H' s7/\tn i s7.heap/\(∀b∈fp,H' b=jr)/\W i m ys H':=λ{H7 s7 zs} I7 w7=>by
    obtain⟨m',hm,w7⟩:=w7;refine⟨m',hm,i+1,zs,H7,(I7.unpinned).weak q9.1.symm q9.2,T.keep _ _ _ kZ λb hb o e=>(I7.pin (b,o) (z5 _ (z5 _ (WH hb e)))).1,λb hb=> ?_,w7⟩;obtain⟨o,e,d⟩:=T.obj _ _ kZ b hb;exact(I7.pin (b,o) (z5 _ (z5 _ (WH hb e)))).2.1
   refine thn (ht C s₀ _ fp _ s6 σ6 H6 _ I6 q6) ?_;rintro ok s7 ⟨H7,I7,q7⟩;cases ok with
   |false=>
    rw[if_neg uQ] at q7 ⊢;exact again I7 q7
   |true=>
    rw[if_pos rfl] at q7 ⊢;refine thn (he C s₀ _ fp _ s7 σ6 H7 _ I7 q7) ?_;rintro xv s8 ⟨v,H8,I8,r8,mZ,sy,w8⟩;refine thn (yN _ s8 σ6 H8 (.ref acc) [v] (.ref acc) [xv] (λ_ H9=>H9=upd H8 acc (.lst (ys++[v]))) I8 rfl (.cons r8 .nil) ⟨acc,ys,v,rfl,rfl,mZ,sy,rfl⟩) ?_;rintro _ s9 ⟨_,H9,I9,_,e9⟩;subst e9;exact again I9 w8
 exact codeAny_compStart_list loop (T.self _ 0 _ _ _ (T.keep _ _ _ dA λb hb o e=>keep₁ b o (kH b o e)) loop)
theorem xN(hc:X.calm=jD)(B:Uw X sc)(cp:vP X sc cap N')(hi:PI X tg iter wi)(ow:zmb cap g)
  (hg:∀C s₀ H₀ fp,PG (wJ X N' sc C s₀ H₀ fp) tg g) (ht:∀C s₀ H₀ fp,PTs (wJ X N' sc C s₀ H₀ fp) ifs tt) (he:∀C s₀ H₀ fp,PE (wJ X N' sc C s₀ H₀ fp) elt te)
  (hs:∀x,foldedSetIterable iter X.env x=pure x:=by intro _;rfl):PE X (.ListComp elt [⟨tg,iter,ifs,0⟩] sc pos) (zjM cap wi g tt te):=by
 intro pins s σ H Q I h;rw[eval_ListComp];refine zdr (use:=jr) (R:=λacc H2=>Q (.ref acc) H2) hc B cp hi ow hg ht he hs I h λacc C H' s' m I' hn CL mk r=> ?_;exact⟨m,hn,λh' sb=>⟨.ref acc,H',mk I' h' sb,rfl,r⟩⟩
theorem Tc(hc:X.calm=jD)(B:Uw X sc)(cp:vP X sc cap N')(hi:PI X tg iter wi)(ow:zmb cap g)
  (hg:∀C s₀ H₀ fp,PG (wJ X N' sc C s₀ H₀ fp) tg g) (ht:∀C s₀ H₀ fp,PTs (wJ X N' sc C s₀ H₀ fp) ifs tt) (he:∀C s₀ H₀ fp,PE (wJ X N' sc C s₀ H₀ fp) elt te)
  (hN:X.N.Nodup) (hy:X.N[i]? =iJ y) (hl:X.env.scope.names.lookup y=iJ .local)
  (rQ:swapsWith (.ListComp elt [⟨tg,iter,ifs,0⟩] sc pos) (iJ (.Name y py)) me.line X.env=pure jD:=by rfl)
  (hs:∀x,foldedSetIterable iter X.env x=pure x:=by intro _;rfl):PS X (.Assign [.Name y py] (.ListComp elt [⟨tg,iter,ifs,0⟩] sc pos) me) (ze6 i cap wi g tt te):=by
 intro pins s σ H D I h;rw[exec_Assign_Name_used _ _ _ _ rQ];refine wpAny_bind (wpAny_standAt (wpAny_bind ?_));show wpAny _ X.A (do let _ <-comprehension (.ListComp elt [⟨tg,iter,ifs,0⟩] sc pos) sc X.env _ (newList []) nW (eval iter X.env) (iJ (assign (.Name y py) X.env))) _ _ s;refine wpAny_bind (thn (zdr (use:=iJ (assign (.Name y py) X.env)) (Q:=λ_ s'=>SP X pins D .next s') (R:=λacc H2=>D.nx (σ.set i (iJ (.ref acc))) H2) hc B cp hi ow hg ht he hs I h λacc C H' s' m I' hn CL mk r=> ?_) λ_ s' hq=>wpAny_pure (wpAny_pure hq));show wpAny _ X.A (assign (.Name y py) X.env (.ref acc)) _ _ _;refine wpAny_assign_Name (zdh I' hN hy (.inl hl) (v:= .ref acc) rfl (λs'' I'' ke=> ?_) (.inr hl));obtain⟨a,sb,ha⟩:=ke;have t9:C≠a:=by
  rcases ha with ha|ha
  .rw[ha];exact CL
  .intro z;rw[<-z] at ha;obtain⟨v,o,q,d⟩:=I'.cell y C ha;obtain⟨o',es,ep,q',d',_⟩:=hn;rw[q] at q';cases q';rw[d] at d';cases d'
 exact⟨m,hn.sameBut sb t9,λh' sb'=>⟨_,H',mk I'' h' sb',r⟩⟩
end
def wZ{α:Type}:Sem α->Prop
 | .pure _=>True
 | .raise _=>True
 | .unsupported _=>True
 | .finish _=>True
 | .rule _ k=>∀u,wZ (k u)
 | .at _ k=>∀u,wZ (k u)
 | .load _ _ k=>∀o,wZ (k o)
 | .update _ _ f k=>(∀o,(f o).dict=o.dict/\(f o).cls=o.cls)/\∀u,wZ (k u)
 | .alloc _ k=>∀a,wZ (k a)
 | .loadIfAlive _ k=>∀o,wZ (k o)
 | .point _ k=>∀u,wZ (k u)
 | .stack k=>∀x,wZ (k x)
 | .ask k=>∀x,wZ (k x)
 |_=>False
def KD(h h':Heap):Prop:=∀(b:Nat) o,h.objs[b]? =iJ o->∃o',h'.objs[b]? =iJ o'/\o'.dict=o.dict/\o'.cls=o.cls
theorem KD.refl(h:Heap):KD h h:=λ_ o e=>⟨o,e,rfl,rfl⟩
theorem KD.trans(x:KD h h1)(y:KD h1 h2):KD h h2:=λb o e=>by
 obtain⟨o1,e1,d1,c1⟩:=x b o e;obtain⟨o2,e2,d2,c2⟩:=y b o1 e1;exact⟨o2,e2,d2.trans d1,c2.trans c1⟩
theorem KD.push(h:Heap)(o:Obj):KD h (h.push o):=λb o' e=>by
 refine⟨o',?_,rfl,rfl⟩;obtain⟨objs,l⟩:=h;show(objs.push o)[b]? =iJ o';have e:objs[b]? =iJ o':=e;rw[Array.getElem?_push];have hb:b<objs.size:=(Array.getElem?_eq_some_iff.mp e).1;rw[if_neg (uR hb)];exact e
theorem KD.update(h:Heap)(a:qY){f:Obj->Obj}(hf:∀o,(f o).dict=o.dict/\(f o).cls=o.cls):KD h (h.update a f):=λb o e=>by
 obtain⟨objs,l⟩:=h;show ∃o',(objs.modify a f)[b]? =iJ o'/\_;rw[Array.getElem?_modify];have e:objs[b]? =iJ o:=e;by_cases kS:a=b
 .rw[if_pos kS,e];exact⟨f o,rfl,hf o⟩
 .rw[if_neg kS,e];exact⟨o,rfl,rfl,rfl⟩
theorem ze7{h:Heap}{a:qY}{o:Obj}(e:h.get? a=iJ o):h.objs[a]? =iJ o:=by
 unfold Heap.get? at e;split at e
 .cases e
 .exact e
theorem KD.at(k:KD h h')(e:h.get? a=iJ o)(e':h'.get? a=iJ o'):o'.dict=o.dict/\o'.cls=o.cls:=by
 obtain⟨o1,e1,d⟩:=k a o (ze7 e);rw[ze7 e'] at e1;cases e1;exact d
theorem zmc{α:Type}{M:Model}{Γ:PySem.Ctx}{t:Sem α}:∀{Q:α->Pos->qN->Prop} {E:qM->Pos->qN->Prop} {p:Pos} {s:qN} {h₀:Heap},wZ t->KD h₀ s.heap->Sem.wp M Γ t Q E p s->
  Sem.wp M Γ t (λa p' s'=>Q a p' s'/\KD h₀ s'.heap) (λe p' s'=>E e p' s'/\KD h₀ s'.heap) p s:=by
 induction t with
 |pure a=>exact λ_ k h=>⟨h,k⟩
 |raise e=>exact λ_ k h=>⟨h,k⟩
 |unsupported w=>exact λ_ _ h=>h.elim
 |finish e=>exact λ_ _ h=>h.elim
 |rule _ k ih=>exact λt z h=>ih () (t ()) z h
 | «at» _ k ih=>exact λt z h=>ih () (t ()) z h
 |load a _ k ih=>
  intro Q E p s h₀ t z h;obtain⟨o,e,h⟩:=h;exact⟨o,e,ih o (t o) z h⟩
 |update a _ f k ih=>
  intro Q E p s h₀ t z h;obtain⟨e,h⟩:=h;exact⟨e,ih () (t.2 ()) (z.trans (KD.update _ _ t.1)) h⟩
 |alloc o k ih=>exact λt z h=>ih _ (t _) (z.trans (KD.push _ _)) h
 |loadIfAlive a k ih=>exact λt z h=>ih _ (t _) z h
 |point _ k ih=>exact λt z h=>ih () (t ()) z h
 |stack k ih=>exact λt z h=>ih _ (t _) z h
 |ask k ih=>exact λt z h=>ih _ (t _) z h
 |register _ _ _=>exact λt=>t.elim
 |fresh _ _=>exact λt=>t.elim
 |choose _ _ _ _=>exact λt=>t.elim
 |os _ _ _ _=>exact λt=>t.elim
 |call _ _ _ _ _ _=>exact λt=>t.elim
 |handled _ _ _=>exact λt=>t.elim
 |newGen _ _ _=>exact λt=>t.elim
 |genState _ _ _=>exact λt=>t.elim
 |resume _ _ _ _ _=>exact λt=>t.elim
 |yield _ _ _ _ _=>exact λt=>t.elim
 |fork _ _ _=>exact λt=>t.elim
 |thread _ _=>exact λt=>t.elim
 |await _ _ _ _ _ _=>exact λt=>t.elim
theorem VF{α:Type}{M:Model}{t:Sem α}{Q:α->qN->Prop}(T:wZ t)(h:wpAny M A t Q E s):wpAny M A t (λa s'=>Q a s'/\KD s.heap s'.heap) (λe s'=>E e s'/\KD s.heap s'.heap) s:=
 λΓ p hΓ=>zmc T (KD.refl _) (h Γ p hΓ)
theorem ziD{α β:Type}{f:α->Sem β}(hf:∀a,wZ (f a)):∀{t:Sem α},wZ t->wZ (t.bind f):=by
 intro t
 induction t with
 |pure a=>exact λ_=>hf a
 |raise e=>exact λ_=>trivial
 |unsupported w=>exact λ_=>trivial
 |finish e=>exact λ_=>trivial
 |rule _ k ih=>exact λt u=>ih u (t u)
 | «at» _ k ih=>exact λt u=>ih u (t u)
 |load a _ k ih=>exact λt u=>ih u (t u)
 |update a _ f k ih=>exact λt=>⟨t.1,λu=>ih u (t.2 u)⟩
 |alloc o k ih=>exact λt u=>ih u (t u)
 |loadIfAlive a k ih=>exact λt u=>ih u (t u)
 |point _ k ih=>exact λt u=>ih u (t u)
 |stack k ih=>exact λt u=>ih u (t u)
 |ask k ih=>exact λt u=>ih u (t u)
 |register _ _ _=>exact λt=>t.elim
 |fresh _ _=>exact λt=>t.elim
 |choose _ _ _ _=>exact λt=>t.elim
 |os _ _ _ _=>exact λt=>t.elim
 |call _ _ _ _ _ _=>exact λt=>t.elim
 |handled _ _ _=>exact λt=>t.elim
 |newGen _ _ _=>exact λt=>t.elim
 |genState _ _ _=>exact λt=>t.elim
 |resume _ _ _ _ _=>exact λt=>t.elim
 |yield _ _ _ _ _=>exact λt=>t.elim
 |fork _ _ _=>exact λt=>t.elim
 |thread _ _=>exact λt=>t.elim
 |await _ _ _ _ _ _=>exact λt=>t.elim
theorem tb{α β:Type}{t:Sem α}{f:α->Sem β}(h:wZ t)(hf:∀a,wZ (f a)):wZ (t>>=f):=ziD hf h
theorem zcM(v:qM):wZ (fieldsOf v):=by
 unfold fieldsOf;split
 .refine tb (λo=>trivial) λo=> ?_;split<;>trivial
 .trivial
theorem WJ(v:qM)(i:Nat):wZ (field v i):=by
 unfold field;refine tb (zcM v) λa=> ?_;split<;>trivial
theorem zbW(g:Array qM->Array qM)(o:Obj):(Obj.mapFields g o).dict=o.dict/\(Obj.mapFields g o).cls=o.cls:=by
 obtain⟨c,d,dt,sl⟩:=o;cases dt<;>exact⟨rfl,rfl⟩
theorem XW(v:qM)(i:Nat)(x:qM):wZ (setField v i x):=by
 unfold setField;split
 .unfold updateField;refine tb (λo=>trivial) λo=> ?_;split
  .split
   .exact⟨λo=>zbW _ o,λ_=>trivial⟩
   .trivial
  .trivial
 .trivial
theorem YZ(e:qM)(f:pT qY):wZ (setFlight e f):=by
 unfold setFlight;refine tb (WJ _ _) λtb'=> ?_;split
 .exact XW _ _ _
 .trivial
theorem zbX(ty:String)(vs:pR qM):wZ (newFields ty vs):=by
 have h:wZ (newObjAsIs (Value.type ty) (Data.fields vs.toArray)):=by
  unfold newObjAsIs;exact tb (λa=>trivial) λa=>trivial
 unfold newFields newObj;show wZ (if vs.toArray.size>sizeLine+2 then (unsupported "record:memory">>=λ_=>newObjAsIs (Value.type ty) (Data.fields vs.toArray)) else newObjAsIs (Value.type ty) (Data.fields vs.toArray));split
 .trivial
 .exact h
theorem ze8(env:Env)(outer:pR Env):wZ (behindIsImport env outer):=by
 unfold behindIsImport;split
 .trivial
 .split
  .trivial
  .exact tb (WJ _ _) λ_=>trivial
theorem zgp:wZ underTheClaimsCaller:=tb (λ_=>trivial) λ_=>trivial
theorem zcN(env:Env)(i:Bool)(outer:pR Env):wZ (keptBack env i outer):=by
 cases outer with
 |nil=>
  unfold keptBack;by_cases h:(env.scope.isGenerator||env.scope.isCoroutine)=jD
  .rw[if_pos h];trivial
  .rw[if_neg h];refine tb zgp λx=> ?_;trivial
 |cons c r=>
  unfold keptBack;trivial
theorem zbY:∀l:pR Env,wZ (readyFrames l)
 |[]=>trivial
 |env::outer=>by
  unfold readyFrames;split
  .refine tb (λo=>trivial) λo=> ?_;split
   .trivial
   .exact tb (ze8 _ _) λi=>tb (zcN _ _ _) λb=>tb ⟨λo=>⟨rfl,rfl⟩,λ_=>trivial⟩ λ_=>zbY outer
  .trivial
theorem zdV(env:Env):wZ (Dd env):=by
 unfold Dd;refine tb (λx=>trivial) λl=>tb ?_ λo=> ?_
 .generalize List.dropWhile _ l=l';unfold frameObject;cases l' with
  |nil=>trivial
  |cons a r=>exact tb (zbY _) λ_=>trivial
 .split<;>trivial
theorem zbm(f:qY)(b:Bool):wZ (entryPlaceOf f b):=by
 unfold entryPlaceOf;refine tb (λx=>trivial) λl=> ?_;split<;>trivial
set_option tactic.hygienic true in
theorem VG(e:qM)(env:Env):wZ (noteFrame e env):=by
 unfold noteFrame;split
 .rename_i f _;have last:∀head:qM,wZ (do setField e 1 (<-EntryCells.newEntry head (<-Dd env) .none (rawInt f) .none (<-entryPlaceOf f (head != .none)))):=λhead=>
   tb (zdV env) λa=>tb (zbm _ _) λpl=>tb (zbX _ _) λb=>XW _ _ _
  refine tb (WJ _ _) λhead=> ?_;split
  .refine tb (WJ _ _) λx=> ?_;split
   .trivial
   .exact tb (XW _ _ _) λ_=>last head
  .exact last head
 .trivial
theorem TD(env:Env)(e:qM):wZ (leaving env e):=tb (VG e env) λ_=>YZ _ _
theorem xp.there{P:Program}(x:xp P w H h a o):∃ob,h.get? a=iJ ob:=by
 cases o with
 |lst xs=>obtain⟨_,_,_,_,e⟩:=x;exact⟨_,e⟩
 |tup xs=>obtain⟨_,_,_,ob,e,_⟩:=x;exact⟨_,e⟩
 |dK aq=>obtain⟨_,_,_,_,o,_,_,e,_⟩:=x;exact⟨_,e⟩
 |dT aq=>obtain⟨_,_,_,_,o,_,_,e,_⟩:=x;exact⟨_,e⟩
 |dN aq=>obtain⟨_,_,_,_,o,_,_,e,_⟩:=x;exact⟨_,e⟩
 |set S n=>obtain⟨o,_,_,_,e,_⟩:=x;exact⟨_,e⟩
 |ins C dx fs=>obtain⟨_,_,_,e,_⟩:=x;exact⟨_,e⟩
 |own y=>obtain⟨_,e⟩:=x;exact⟨_,e⟩
 |xd fs=>obtain⟨_,⟨_,_,_,e,_⟩,_⟩:=x;exact⟨_,e⟩
 |rng lo hi=>obtain⟨_,_,_,e⟩:=x;exact⟨_,e⟩
 |frz ob u=>obtain⟨e,_⟩:=x;exact⟨_,e⟩
 |tbl ps=>exact⟨_,(show h.get? a=iJ _ from x)⟩
 |met f y=>exact⟨_,(show h.get? a=iJ _ from x)⟩
 |ext φ=>obtain⟨_,⟨_,e⟩,_⟩:=x;exact⟨_,e⟩
def Cov(outer:pR Env)(H':Hp)(old h' B:Heap):Prop:=
 (∀b o,(∃o0,old.get? b=iJ o0)->b∉frs outer->h'.get? b=iJ o->B.get? b=iJ o)/\∀b u o,H' b=iJ u->h'.get? b=iJ o->B.get? b=iJ o
structure Fly(P:Program)(w:World)(outer:pR Env)(H:Hp)(s:qN)(e:qY)(cls:qM)(H':Hp)(s':qN):Prop where
 os:s'.os=s.os
 bare:AllBare s'.gens
 un:Un (frs outer) [] H H' s.heap s'.heap
 hok:HOk P w H' s'.heap
 fly:∃B t,Heap.FlyingW B outer e cls (.ref t) s'.heap/\Cov outer H' s.heap s'.heap B
 new:s.heap.get? e=jr
 free:H' e=jr
 nd:∀o,s'.heap.get? e=iJ o->o.dict=jr
noncomputable def CXE(P:Program)(w:World):CXT:=λouter H s E ev s'=>∃e cls H',ev= .ref e/\Fly P w outer H s e cls H' s'/\E cls jr H'
theorem Fly.moved{P:Program}(F:Fly P w outer H s e cls H' s')(fl:Heap.FlyingW B outer e cls a0 s'.heap)(cov:Cov outer H' s.heap s'.heap B)
  (st:B.StaysIn h2) (sm:s'.heap.UpToSlots h2):Un (frs outer) [] H H' s.heap h2/\HOk P w H' h2/\Cov outer H' s.heap h2 B:=by
 have nofs:∀b u,H' b=iJ u->∃o,s'.heap.get? b=iJ o/\B.get? b=iJ o/\h2.get? b=iJ o:=λb u q=>by
  obtain⟨o,e1⟩:=(F.hok b u q).there;have e2:=cov.2 b u o q e1;exact⟨o,e1,e2,st b o e2⟩
 have old:∀b o0,s.heap.get? b=iJ o0->b∉frs outer->∃o,s'.heap.get? b=iJ o/\B.get? b=iJ o/\h2.get? b=iJ o:=λb o0 q hb=>by
  obtain⟨o,e1⟩:=F.un.there b o0 q (by simp);have e2:=cov.1 b o ⟨o0,q⟩ hb e1;exact⟨o,e1,e2,st b o e2⟩
 have fr:∀b∈frs outer,∃o sl,s'.heap.get? b=iJ o/\h2.get? b=iJ {o with slots:=sl}:=λb hb=>by
  obtain⟨_,o,e1,d⟩:=fl.2.2.1.mem hb;obtain⟨sl,e2⟩:=sm b o e1 d;exact⟨o,sl,e1,e2⟩
 refine⟨⟨λb o q n hb _=> ?_,λb o q n hb _=> ?_,λb o q n hx=>F.un.free b o q n hx,λb o q _=> ?_,F.un.tups,F.un.frzs,F.un.tbls⟩,λa u q=> ?_,λb o q hb e1=> ?_,λb u o q e1=> ?_⟩
 .obtain⟨o1,e1,_,e3⟩:=old b o q hb;have e4:=F.un.keep b o q n hb (by simp);rw[e1] at e4;cases e4;exact e3
 .obtain⟨o1,mh,e1,e2⟩:=fr b hb;obtain⟨sl,e4⟩:=F.un.slot b o q n hb (by simp);rw[e1] at e4;cases e4;exact⟨mh,e2⟩
 .by_cases hb:b∈frs outer
  .obtain⟨o1,mh,e1,e2⟩:=fr b hb;exact⟨_,e2⟩
  .obtain⟨o1,_,_,e3⟩:=old b o q hb;exact⟨_,e3⟩
 .refine (F.hok a u q).stay (λb ob hb eb=> ?_) (λ_ z=>z) λ_ _ z=>z;have:∃u',H' b=iJ u':=by
   rcases hb with z|z
   .exact⟨u,z ▸ q⟩
   .exact⟨_,z⟩
  obtain⟨u',hu⟩:=this;obtain⟨o1,e1,_,e3⟩:=nofs b u' hu;rw[eb] at e1;cases e1;exact e3
 .obtain⟨o0,q⟩:=q;obtain⟨o1,_,e2,e3⟩:=old b o0 q hb;rw[e1] at e3;cases e3;exact e2
 .obtain⟨o1,_,e2,e3⟩:=nofs b u q;rw[e1] at e3;cases e3;exact e2
section
variable{P:Program}{N:pR Str}{E:XK}
theorem zjN{t':Nat}
  (I:Inv (zaH (CXE P w) P w K mg base N qual scope f aP A outer s H E) pins σ H1 s1) (hx:Heap.MadeExcOf s1.heap h2 e cls vs) (hE:E cls jr H1):
  (zaH (CXE P w) P w K mg base N qual scope f aP A outer s H E).xe (.ref e) {s1 with heap:=h2}:=by
 have pf:∀b∈frs (envOfC qual scope s.heap.objs.size f aP::outer),b∈s.heap.objs.size::frs outer:=I.stkSub;have qS:(AU s1.heap (frs (envOfC qual scope s.heap.objs.size f aP::outer))).StaysIn s1.heap:=λb o q=>Dl _ q;have o8:∀b o,s.heap.get? b=iJ o->b≠s.heap.objs.size:=λb o q=>uR (Heap.lt_size q);have inB:∀b o,s1.heap.get? b=iJ o->b∉frs (envOfC qual scope s.heap.objs.size f aP::outer)->(AU s1.heap (frs (envOfC qual scope s.heap.objs.size f aP::outer))).get? b=iJ o:=λb o q hb=>Di _ q hb
 refine wpAny_mono (VF (TD _ _) (wpAny_leaves_madeW (E:=λ_ _=>False) (Q:=λ_ s''=>∃h' t,s''={s1 with heap:=h'}/\Heap.FlyingW (AU s1.heap (frs (envOfC qual scope s.heap.objs.size f aP::outer))) outer e cls (.ref t) h'/\h2.UpToSlots h')
  (base:=AU s1.heap (frs (envOfC qual scope s.heap.objs.size f aP::outer))) (L:=s.heap.objs.size) I.ok.frames rfl qS (PySem.W.funFrames_hide I.stack λenv he a ha=>Cp.mpr ⟨env,he,ha⟩) hx λh' t x1 x2 x3 x4=>⟨h',t,rfl,x1,x4⟩)) (λ_ s3 h3=> ?_) λ_ _ h3=>h3.1.elim
 obtain⟨⟨h',t,rfl,x1,x4⟩,kd⟩:=h3;have nA:∀b o,s.heap.get? b=iJ o->b∉frs outer->b∉frs (envOfC qual scope s.heap.objs.size f aP::outer):=λb o q hb hz=>by
  rcases uU.mp (pf b hz) with z|z
  .exact o8 b o q z
  .exact hb z
 have trk:∀b u,H1 b=iJ u->∃o,s1.heap.get? b=iJ o/\(AU s1.heap (frs (envOfC qual scope s.heap.objs.size f aP::outer))).get? b=iJ o/\h'.get? b=iJ o:=λb u q=>by
  obtain⟨o,e1⟩:=(I.hok b u q).there;have e2:=inB b o e1 λhz=>by
   have z:=I.stkFree b hz;rw[q] at z;cases z
  exact⟨o,e1,e2,x1.1 b o e2⟩
 have old:∀b o0,s.heap.get? b=iJ o0->b∉frs outer->∃o,s1.heap.get? b=iJ o/\(AU s1.heap (frs (envOfC qual scope s.heap.objs.size f aP::outer))).get? b=iJ o/\h'.get? b=iJ o:=λb o0 q hb=>by
  obtain⟨o,e1⟩:=I.base.there b o0 q (by simp[zaH]);have e2:=inB b o e1 (nA b o0 q hb);exact⟨o,e1,e2,x1.1 b o e2⟩
 have fr:∀b∈frs outer,∃o sl,s1.heap.get? b=iJ o/\h'.get? b=iJ {o with slots:=sl}:=λb hb=>by
  obtain⟨_,o,e1,d⟩:=I.funs.mem hb;obtain⟨sl,e2⟩:=x4 b o (hx.keeps b o e1) d;exact⟨o,sl,e1,e2⟩
 have jz:∀b:qY,b∉(zaH (CXE P w) P w K mg base N qual scope f aP A outer s H E).ex:=λb z=>absurd (show b∈([]:pR qY) from z) (by simp);refine⟨e,cls,H1,rfl,⟨I.os,I.bare,⟨λb o q n hb _=> ?_,λb o q n hb _=> ?_,λb o q n hx=>I.base.free b o q n (jz b),λb o q _=> ?_,I.base.tups,I.base.frzs,I.base.tbls⟩,λa u q=> ?_,⟨_,t,x1,λb o q hb e1=> ?_,λb u o q e1=> ?_⟩,?_,?_,?_⟩,hE⟩
 .obtain⟨o1,e1,_,e3⟩:=old b o q hb;have e4:=I.base.keep b o q n hb (jz b);rw[e1] at e4;cases e4;exact e3
 .obtain⟨o1,mh,e1,e2⟩:=fr b hb;obtain⟨sl,e4⟩:=I.base.slot b o q n hb (jz b);rw[e1] at e4;cases e4;exact⟨mh,e2⟩
 .by_cases hb:b∈frs outer
  .obtain⟨o1,mh,e1,e2⟩:=fr b hb;exact⟨_,e2⟩
  .obtain⟨o1,_,_,e3⟩:=old b o q hb;exact⟨_,e3⟩
 .refine (I.hok a u q).stay (λb ob hb eb=> ?_) (λ_ z=>z) λ_ _ z=>z;have:∃u',H1 b=iJ u':=by
   rcases hb with z|z
   .exact⟨u,z ▸ q⟩
   .exact⟨_,z⟩
  obtain⟨u',hu⟩:=this;obtain⟨o1,e1,_,e3⟩:=trk b u' hu;rw[eb] at e1;cases e1;exact e3
 .obtain⟨o0,q⟩:=q;obtain⟨o1,_,e2,e3⟩:=old b o0 q hb;rw[e1] at e3;cases e3;exact e2
 .obtain⟨o1,_,e2,e3⟩:=trk b u q;rw[e1] at e3;cases e3;exact e2
 .cases q:s.heap.get? e with
  |none=>rfl
  |some o=>
   obtain⟨o',q'⟩:=I.base.there e o q (jz e);have:=hx.new;rw[q'] at this;cases this
 .cases q:H1 e with
  |none=>rfl
  |some u=>
   obtain⟨o,e1⟩:=(I.hok e u q).there;have:=hx.new;rw[e1] at this;cases this
 .intro o q;obtain⟨t0,e0,_⟩:=hx.there;exact(kd.at e0 q).1
theorem zm:VA (CXE P w) (zaH (CXE P w) P w K mg base N qual scope f aP A outer s H E) E:=by
 rintro pins σ H1 s1 ev s' I ⟨e,cls,H',rfl,F,hE⟩;obtain⟨B,t,fl,cov⟩:=F.fly;have pf:∀b∈frs (envOfC qual scope s.heap.objs.size f aP::outer),b∈s.heap.objs.size::frs outer:=I.stkSub;refine wpAny_mono (VF (TD _ _) (wpAny_leaves_onW (E:=λ_ _=>False) (Q:=λ_ s''=>∃h',s''={s' with heap:=h'}/\Heap.FlyingW B outer e cls (.ref t) h'/\s'.heap.UpToSlots h') (L:=s.heap.objs.size) I.ok.frames rfl fl λh' x1 x2=>⟨h',rfl,x1,x2⟩)) (λ_ s3 h3=> ?_) λ_ _ h3=>h3.1.elim;obtain⟨⟨h',rfl,x1,x2⟩,kd⟩:=h3;obtain⟨un,hok,cov'⟩:=F.moved fl cov x1.1 x2;have jz:∀b:qY,b∉(zaH (CXE P w) P w K mg base N qual scope f aP A outer s H E).ex:=λb z=>absurd (show b∈([]:pR qY) from z) (by simp);have nA:∀b o,s.heap.get? b=iJ o->b∉frs outer->b∉frs (envOfC qual scope s.heap.objs.size f aP::outer):=λb o q hb hz=>by
  rcases uU.mp (pf b hz) with z|z
  .exact uR (Heap.lt_size q) z
  .exact hb z
 have sub:∀b∈frs outer,b∈frs (envOfC qual scope s.heap.objs.size f aP::outer):=λb hb=>by
  unfold frs at hb ⊢;rw[By];exact uG _ hb
 refine⟨e,cls,H',rfl,⟨F.os.trans I.os,F.bare,⟨λb o q n hb _=> ?_,λb o q n hb _=> ?_,λb o q n _=> ?_,λb o q _=> ?_,λb xs q=>un.tups b xs (I.base.tups b xs q),λb o xs q=>un.frzs b o xs (I.base.frzs b o xs q),λb ps q=> ?_⟩,hok,
  ⟨B,t,x1,λb o q hb e1=> ?_,cov'.2⟩,?_,F.free,λo q=> ?_⟩,hE⟩
 .exact un.keep b o (I.base.keep b o q n hb (jz b)) (I.base.free b o q n (jz b)) (nA b o q hb) (by simp)
 .obtain⟨sl,e1⟩:=I.base.slot b o q n hb (jz b);obtain⟨lT,e2⟩:=un.slot b _ e1 (I.base.free b o q n (jz b)) (sub b hb) (by simp);exact⟨lT,e2⟩
 .obtain⟨o1,e1⟩:=I.base.there b o q (jz b);exact un.free b o1 e1 (I.base.free b o q n (jz b)) (by simp)
 .obtain⟨o1,e1⟩:=I.base.there b o q (jz b);exact un.there b o1 e1 (by simp)
 .obtain⟨m1,e1⟩:=I.base.tbls b ps q;obtain⟨m2,e2⟩:=un.tbls b _ e1;exact⟨m1++m2,by rw[e2,Cm]⟩
 .obtain⟨o0,q⟩:=q;obtain⟨o1,q1⟩:=I.base.there b o0 q (jz b);exact cov'.1 b o ⟨o1,q1⟩ (nA b o0 q hb) e1
 .cases q:s.heap.get? e with
  |none=>rfl
  |some o=>
   obtain⟨o',q'⟩:=I.base.there e o q (jz e);have:=F.new;rw[q'] at this;cases this
 .obtain⟨ob,kg,_⟩:=fl.there;exact(kd.at kg q).1.trans (F.nd ob kg)
end
structure Xb(K:uk)(mg:Str->pT qM)(x:Str)(C:qY)(lS:pR qM)(newId:String):Prop where
 mg:mg x=iJ (.ref C)
 inK:Ar K C lS newId=jD
theorem xo1{o:pT Obj}{g:pT qY->_->Array (pT qM)->Bool}(q:PySem.W.excIn.match_6 (λ_=>Bool) o g (λ_=>false)=true):∃d c s,o=iJ ⟨.type "type",d,.cls c,s⟩/\g d c s=true:=by
 cases o with
 |none=>cases q
 |some ob=>
  obtain⟨c,d,a,s⟩:=ob;cases c with
  |type n=>
   by_cases e:n="type"
   .subst e;cases a with
    |cls c=>exact⟨_,_,_,rfl,q⟩
    |_=>cases q
   .exfalso;revert q;unfold PySem.W.excIn.match_6;change dite (n="type") _ _=true->_;rw[dif_neg e];exact nofun
  |_=>cases q
theorem xo2{m:pR qM}{l:pR (pT qM)}{g:_->_->_->_->_->_->_->_->Bool}(q:PySem.W.excIn.match_1 (λ_ _=>Bool) m l g (λ_ _=>false)=true):∃c b k0 k1 k2 k3 n k5,m= .ref c::b/\l=[k0,k1,k2,k3,iJ (.builtin n),k5]/\g c b k0 k1 k2 k3 n k5=true:=by
 cases m with
 |nil=>cases q
 |cons v b=>cases v with
  |ref c=>
   cases l with
   |nil=>cases q
   |cons k0 l=>cases l with
    |nil=>cases q
    |cons k1 l=>cases l with
     |nil=>cases q
     |cons k2 l=>cases l with
      |nil=>cases q
      |cons k3 l=>cases l with
       |nil=>cases q
       |cons k4 l=>cases k4 with
        |none=>cases q
        |some v=>cases v with
         |builtin n=>cases l with
          |nil=>cases q
          |cons k5 l=>cases l with
           |cons=>cases q
           |nil=>exact⟨_,_,_,_,_,_,_,_,rfl,rfl,q⟩
         |_=>cases q
  |_=>cases q
theorem Xb.own{x:Str}{C:qY}{lS:pR qM}{newId:String}{h:Heap}(O:Xb K mg x C lS newId)(X:K.In h):OwnCls x C lS newId mg h:=by
 refine⟨O.mg,?_⟩;have q:=O.inK;unfold Ar at q;obtain⟨dd,⟨nm,bs,mro,ns,qn,hd,sn,sub,ab,col,del⟩,⟨l⟩,ho,q⟩:=xo1 q;obtain⟨c,bm,k0,k1,k2,k3,n,k5,rfl,rfl,q⟩:=xo2 q;simp only[v9,beq_iff_eq,Dt] at q;obtain⟨⟨⟨⟨⟨rfl,rfl⟩,mR⟩,ht⟩,hok⟩,nK⟩:=q;subst mR;exact⟨bm,ns,nm,qn,bs,hd,sn,sub,ab,col,dd,k0,k1,k2,k3,k5,_,X _ _ ho,.of_isNs (PySem.W.isNs_of_in X hok),PySem.W.nsMap_none_of_in X hok nK,PySem.W.tail_of_in X ht⟩
def zjO(C:qY)(E:XK)(ta:TA):TS:=λ_ σ H=>ta σ H λvs H1=>vs.length<=sizeLine/\E (.ref C) jr H1
def zjP(X:Cx)(E:XK):Prop:=∀(pins:pR (qY×Obj)) (σ:St) (H:Hp) (s:qN) (h':Heap) (e:qY) (cls:qM) (vs:pR qM),Inv X pins σ H s->Heap.MadeExcOf s.heap h' e cls vs->E cls jr H->X.xe (.ref e) {s with heap:=h'}
theorem zmd{P:Program}{N:pR Str}{E:XK}:
  zjP (zaH (CXE P w) P w K mg base N qual scope f aP A outer s H E) E:=λ_ _ _ _ _ _ _ _ I hx hE=>zjN (t':=0) I hx hE
theorem zjQ{E:XK}(hr:zjP X E)(hc:X.calm=jD)(hg:Gl X x)(O:Xb X.K X.mg x C lS newId)(FB:ExcBaseFacts B newId initId lS)
  (ha:PA X [a] ta) (he:starEach [a] X.env=[(nW,eval a X.env)]:=by rfl) (hd:(x==("__debug__":Str))=nW:=by decide):PS X (.Raise (iJ (.Call (.Name x np) [a] [] d6)) jr pos) (zjO C E ta):=by
 intro pins s σ H D I h;obtain⟨tl,N,nm,q,bs,hdct,sn,sub,ab,col,dd,k0,k1,k2,k3,k5,mN,hC,hN,nK,T⟩:=(O.own I.ok.mod.kin).obj;refine wpAny_Raise_call_subT (C:=C) (nm:=nm) (q:=q) (N:=N) (bs:=bs) (bm:=tl) (hdct:=hdct) (sn:=sn) (sub:=sub) (ab:=ab) (col:=col) (dd:=dd) (k0:=k0) (k1:=k1) (k2:=k2) (k3:=k3) (k5:=k5)
  FB (mN:=mN) (T.hasType FB.hasBase) (I.ok.hd hc) (by rw[he];rfl) nK (Uv I hg O.mg ⟨rfl,?_⟩ hd)
 have hh:=ha d6 pins s σ H _ I h;rw[he] at hh ⊢;exact Calls.evalArgs_plain (thn hh λus s₂ ⟨vs,H1,I2,r,z,q⟩=>⟨rfl,by rw[<-r.length];exact z,I2.bk _ _ hC,hN.keeps I2.bk,T.keeps I2.bk,λh' e hm=>hr pins σ H1 s₂ h' e (.ref C) us I2 hm q⟩)
theorem US{P:Program}:VA (CXE P w) X E0:=λ_ _ _ _ _ _ _ ⟨_,_,_,_,_,h⟩=>h.elim
abbrev TEx:=St->Hp->VK->(qM->Hp->Prop)->Prop
abbrev TAx:=St->Hp->(pR V->Hp->Prop)->(qM->Hp->Prop)->Prop
abbrev TSx:=Tu->(qM->Hp->Prop)->St->Hp->Prop
def XP(X:Cx)(pins:pR (qY×Obj))(σ:St)(EX:qM->Hp->Prop)(ev:qM)(s':qN):Prop:=
 ∃(e:qY) (cls:qM) (H0 H':Hp) (s0:qN),ev= .ref e/\Inv X pins σ H0 s0/\Fly X.prog X.w X.stack H0 s0 e cls H' s'/\EX cls H'
def PEx(X:Cx)(e:Expr)(t:TEx):Prop:=
 ∀(pins:pR (qY×Obj)) (s:qN) (σ:St) (H:Hp) (Q:VK) (EX:qM->Hp->Prop),Inv X pins σ H s->t σ H Q EX->wpAny (model X.prog X.w) X.A (eval e X.env) (EP X pins σ Q) (XP X pins σ EX) s
def PAx(X:Cx)(es:pR Expr)(t:TAx):Prop:=
 ∀(pos:Pos) (pins:pR (qY×Obj)) (s:qN) (σ:St) (H:Hp) (Q:pR V->Hp->Prop) (EX:qM->Hp->Prop),Inv X pins σ H s->t σ H Q EX->wpAny (model X.prog X.w) X.A (spliced (backTo pos (starEach es X.env))) (AP X pins σ Q) (XP X pins σ EX) s
def PSx(X:Cx)(st:pR Stmt)(t:TSx):Prop:=
 ∀(pins:pR (qY×Obj)) (s:qN) (σ:St) (H:Hp) (D:Tu) (EX:qM->Hp->Prop),Inv X pins σ H s->t D EX σ H->wpAny (model X.prog X.w) X.A (execs st X.env) (SP X pins D) (XP X pins σ EX) s
section
def xE(t:TE):TEx:=λσ H Q _=>t σ H Q
theorem zoy(h:PE X.nox e te):PEx X e (xE te):=λpins s σ H Q EX I hw=>
 wpAny_mono (h pins s σ H Q (I.wish _) hw) (λ_ _ ⟨v,H',I',r,q⟩=>⟨v,H',I'.unwish,r,q⟩) λ_ _ z=>Ab z
noncomputable def zqh:TAx:=λ_ H Q _=>Q [] H
noncomputable def znD(ta:TEx)(tr:TAx):TAx:=λσ H Q EX=>ta σ H (λx H1=>tr σ H1 (λxs H2=>Q (x::xs) H2) EX) EX
theorem zme:PAx X [] zqh:=λ_ _ _ _ H Q _ I h=>Calls.spliced_nil ⟨[],H,I,.nil,h⟩
theorem zjR(ha:PEx X e ta)(hr:PAx X es t)(hs:starEach (e::es) X.env=(nW,eval e X.env)::starEach es X.env:=by rfl):PAx X (e::es) (znD ta t):=by
 intro pos pins s σ H Q EX I h;rw[hs];show wpAny _ _ (spliced ((nW,eval e X.env)::backTo pos (starEach es X.env))) _ _ s;refine Calls.spliced_cons (thn (ha pins s σ H _ EX I h) ?_);rintro u s1 ⟨x,H1,I1,r1,q1⟩;refine thn (hr pos pins s1 σ H1 _ EX I1 q1) ?_;rintro us s2 ⟨xs,H2,I2,r2,q2⟩;exact⟨x::xs,H2,I2,.cons r1 r2,q2⟩
def zht(sp:Sp)(fW:pR V)(t:TAx):TEx:=λσ H Q EX=>t σ H (λvs H1=>sp (vs++fW) H1 Q λcls _ H'=>EX cls H') EX
theorem zjS(F:yh X.prog X.w X.K X.mg X.base (CXE X.prog X.w) k f fd ps sp)(hr:Zr k X.A)(hg:Gl X x)(hm:X.mg x=iJ (.ref f))(hk:Av X.K (.ref f)=jD)(hb:Vt X.K fd ps ds)(hd:yd fW ds)
  (ha:PAx X (e::es) t) (kD:(x==("__debug__":Str))=nW:=by decide) (he:starEach (e::es) X.env=(nW,eval e X.env)::starEach es X.env:=by rfl) (jv:(backTo pos (starEach es X.env)).any (·.1)=nW:=by rfl):
  PEx X (.Call (.Name x p) (e::es) [] pos) (zht sp fW t):=by
 intro pins s σ H Q EX I h;refine wpAny_Call_Name_kw (Uv I hg hm ?_ kD);refine BH (h₀:=X.base) I.ok.mod.kin hk (thn (ha pos pins s σ H _ EX I h) ?_) he jv;rintro us s1 ⟨vs,H1,I1,r,q⟩;refine⟨I1.kIn,?_⟩;have r2:yd (vs++fW) (us++ds):=r.append hd;have hl:(us++ds).length=ps.length:=by rw[<-r2.length];exact F.len _ _ _ _ q
 refine wpAny_call (codeAny_mono (F.run X.A X.stack s1 H1 ⟨us,[]⟩ (us++ds) (vs++fW) Q _ hr I1.env0 (hb s1 us I1.kIn hl) r2 q) λr s' hq=> ?_);cases r with
 |error ev=>
  obtain⟨e,cls,H',rfl,Fl,hE⟩:=hq;exact⟨e,cls,H1,H',s1,rfl,I1,Fl,hE⟩
 |ok fl=>
  cases fl with
  |ret u=>exact I1.after hq
  |next=>exact Ab hq
  |brk=>exact Ab hq
  |cont=>exact Ab hq
def zjT(te:TEx):TSx:=λD EX σ H=>te σ H (λ_ H1=>D.nx σ H1) EX
theorem zjU{te:TEx}{pos:Pos}(he:PEx X e te)(hs:swapsWith e jr pos.line X.env=pure nW:=by rfl):PSx X [.Expr e pos] (zjT te):=by
 intro pins s σ H D EX I h;refine wpAny_execs_cons (wpAny_Expr_any (thn (he pins s σ H _ EX I h) ?_) I.quiet hs);rintro v s1 ⟨x,H1,I1,r1,q1⟩;exact wpAny_execs_nil ⟨σ,H1,I1,q1⟩
def zqi(i:Nat)(te:TEx):TSx:=λD EX σ H=>te σ H (λv H1=>D.nx (σ.set i (iJ v)) H1) EX
end
noncomputable def zdW(e:qY)(cls:qM):HO:= .ext λh=>∃ob,h.get? e=iJ ob/\ob.cls=cls/\ob.dict=jr/\∃vs,ob.data= .fields vs
theorem zmf{P:Program}(q:h.get? e=iJ ob)(c:ob.cls=cls)(d:ob.dict=jr)(f:ob.data= .fields vs):xp P w H h e (zdW e cls):=
 ⟨⟨ob,q,c,d,vs,f⟩,⟨ob,q⟩,λh1 h2 ⟨o,e1,e2⟩ k=>⟨o,k o e1,e2⟩⟩
noncomputable abbrev Cx.hand(X:Cx)(e:qY):Cx:={X with A:=X.A.mark (iJ (.ref e)),calm:=nW,xe:=λ_ _=>False}
theorem Cx.Ok.hand(ok:X.Ok)(e:qY):(X.hand e).Ok:=
 ⟨ok.mod,ok.kind,ok.glob,ok.blt,ok.above,ok.inj,ok.has,ok.cab,λz=>DC z,ok.frames,ok.stk,ok.exf,ok.bs,ok.bsz,ok.noex,ok.exfs,ok.funs,ok.frf⟩
theorem Inv.hand(I:Inv X pins σ H s)(e:qY):Inv (X.hand e) pins σ H s:=⟨I.ok.hand e,I.os,I.bare,I.base,I.loc,I.cell,I.free,I.freeC,I.pin,I.hok,I.len⟩
theorem Inv.unhand(ok:X.Ok)(I:Inv (X.hand e) pins σ H s):Inv X pins σ H s:=⟨ok,I.os,I.bare,I.base,I.loc,I.cell,I.free,I.freeC,I.pin,I.hok,I.len⟩
theorem Inv.adopt(I:Inv X pins σ H s)(n:H a=jr)(h1:X.s₀.heap.get? a=jr)(h2:a≠X.env.locals)(h3:∀x c,X.env.cells.lookup x=iJ c->c≠a)(h4:∀p∈X.pn++pins,p.1≠a)
  (ok:∀H',xp X.prog X.w H' s.heap a o):Inv X pins σ (upd H a o) s:=by
 have ne:∀b u,H b=iJ u->b≠a:=λb u e z=>by rw[z,n] at e;cases e
 refine⟨I.ok,I.os,I.bare,⟨I.base.keep,I.base.slot,λb ob e nb hx=> ?_,I.base.there,λb xs e=> ?_,λb ob u e=> ?_,λb ps e=> ?_⟩,I.loc,I.cell,?_,λx c e=> ?_,λp hp=> ?_,λb u e=> ?_,I.len⟩
 .rw[yi (λz=>by rw[z,h1] at e;cases e)];exact I.base.free b ob e nb hx
 .have:=I.base.tups b xs e;rw[yi (ne b _ this)];exact this
 .have:=I.base.frzs b ob u e;rw[yi (ne b _ this)];exact this
 .obtain⟨m,q⟩:=I.base.tbls b ps e;exact⟨m,by rw[yi (ne b _ q)];exact q⟩
 .rw[yi (A9 h2)];exact I.free
 .rw[yi (h3 x c e)];exact I.freeC x c e
 .obtain⟨e,q,r⟩:=I.pin p hp;exact⟨e,by rw[yi (h4 p hp)];exact q,r⟩
 .by_cases hb:b=a
  .subst hb;rw[yH] at e;cases e;exact ok _
  .rw[yi hb] at e;exact(I.hok b u e).stay (λ_ _ _ q=>q) (λc q=>by rw[yi (ne c _ q)];exact q) λc xs q=>by rw[yi (ne c _ q)];exact q
theorem Inv.goes{m:Str->pT qM}(I:Inv X pins σ H s)(hN:X.N.Nodup)(hi:X.N[i]? =iJ n)(hn:s.heap.Ns X.env.locals m)
  (hl:∀(j:Nat) (x:Str) (v:V),X.N[j]? =iJ x->σ[j]? =iJ (iJ v)->Vis X.env.scope x->∃u,yq v u/\zpN X.env s.heap m x u)
  (lY:h'.Ns X.env.locals (λx=>if x=n then v else m x)) (hs:Heap.SameBut X.env.locals s.heap h'):Inv X pins (σ.set i jr) H {s with heap:=h',toks:=t'}:=by
 have hiσ:i<σ.length:=by rw[I.len];exact(uq.mp hi).1
 have cne:=I.cne;have trk:HOk X.prog X.w H h':=λb ob e=>by
  refine(I.hok b ob e).stay (λc w' hc q=>(hs.2 c ?_).trans q) (λ_ q=>q) λ_ _ q=>q;rintro rfl;rcases hc with rfl|hc
  .rw[I.free] at e;cases e
  .rw[I.free] at hc;cases hc
 refine⟨I.ok,I.os,I.bare,⟨λb o e n hb hx=> ?_,λb o e n hb hx=> ?_,I.base.free,λb o e hx=> ?_,I.base.tups,I.base.frzs,I.base.tbls⟩,⟨_,lY,λj y v' e1 e2 e3=> ?_⟩,λy c e=> ?_,I.free,I.freeC,λp hp=> ?_,trk,by simpa using I.len⟩
 .exact (hs.2 b (uR (uY (Heap.lt_size e) I.ok.above))).trans (I.base.keep b o e n hb hx)
 .obtain⟨sl,e1⟩:=I.base.slot b o e n hb hx;exact⟨sl,(hs.2 b (uR (uY (Heap.lt_size e) I.ok.above))).trans e1⟩
 .obtain⟨o',e1⟩:=I.base.there b o e hx;exact⟨o',(hs.2 b (uR (uY (Heap.lt_size e) I.ok.above))).trans e1⟩
 .by_cases hj:j=i
  .subst hj;rw[BW hiσ] at e2;cases e2
  .rw[A2 (A9 hj)] at e2;obtain⟨u',r',q⟩:=hl j y v' e1 e2 e3;refine⟨u',r',?_⟩;rcases q with⟨k,e⟩|⟨k,c,e,z⟩
   .refine .inl ⟨k,?_⟩;have:y≠n:=λe=>hj (zbN hN e1 (e ▸ hi));simp[this,e]
   .exact .inr ⟨k,c,e,z.sameBut hs (cne y c e)⟩
 .obtain⟨w',z⟩:=I.cell y c e;exact⟨w',z.sameBut hs (cne y c e)⟩
 .obtain⟨e,n,ne,nf,d⟩:=I.pin p hp;exact⟨(hs.2 p.1 ne).trans e,n,ne,nf,d⟩
def zjV(X:Cx)(x:Str)(np:Pos)(c:qM):Prop:=∀(pins:pR (qY×Obj)) (σ:St) (H:Hp) (s:qN) (Q:qM->qN->Prop) (E:qM->qN->Prop),Inv X pins σ H s->Q c s->wpAny (model X.prog X.w) X.A (eval (.Name x np) X.env) Q E s
theorem zgq(hg:Gl X x)(hm:X.mg x=iJ c)(hd:(x==("__debug__":Str))=nW:=by decide):zjV X x np c:=λ_ _ _ _ _ _ I q=>Uv I hg hm q hd
def zgr(i:Nat)(hit:qM->Prop)(t:TSx)(th:TS):TS:=λD σ H=>t D (λcls H'=>hit cls/\∀e,H' e=jr->
 th {nx:=λσ' H'=>D.nx (σ'.set i jr) H',rt:=D.rt,bk:=λσ' H'=>D.bk (σ'.set i jr) H',ct:=λσ' H'=>D.ct (σ'.set i jr) H'} (σ.set i (iJ (.ref e))) (upd H' e (zdW e cls))) σ H
theorem zjW(ht:PSx X body t)(gL:X.stack=X.env::X.outer)(qC:X.env.frame=iJ L)(hex:X.ex=[])
  (nQ:∀e,zjV (X.hand e) x np c) (hN:X.N.Nodup) (hi:X.N[i]? =iJ n) (hl:X.env.scope.names.lookup n=iJ .local)
  (hs:∀e,PSs (X.hand e) (b₀::jE) th):
  PS X (.Try body [.ExceptHandler (iJ (.Name x np)) (iJ n) (b₀::jE) hp] [] [] pos) (zgr i (λcls=>B4 X.K cls c=iJ jD) t th):=by
 intro pins s σ H D I h;refine wpAny_Try_except (wpAny_mono (ht pins s σ H D _ I h) (λf s1 q=> ?_) (λev s1 hx=> ?_))
 .cases f with
  |next=>exact wpAny_execs_nil q
  |ret u=>exact q
  |brk=>exact q
  |cont=>exact q
 .obtain⟨e,cls,H0,H',s0,rfl,I0,F,hit,rN⟩:=hx;obtain⟨B,tt,fl,cov⟩:=F.fly;have frames:=I.ok.frames;rw[gL] at fl frames;refine wpAny_mono (VF (VG _ _) (wpAny_looks_onW (E:=λ_ _=>False) (Q:=λ_ s2=>∃h1,s2={s1 with heap:=h1}/\Heap.HeldW B (X.env::X.outer) e cls (.ref tt) L h1/\s1.heap.UpToSlots h1) frames qC fl λh1 pq o3=>⟨h1,rfl,pq,o3⟩)) (λ_ s2 lQ=> ?_) λ_ _ h3=>h3.1.elim;obtain⟨⟨h1,rfl,pq,o3⟩,rh⟩:=lQ;refine wpAny_mono (VF (YZ _ _) (wpAny_landsW (E:=λ_ _=>False) (Q:=λ_ s3=>∃h2,s3={s1 with heap:=h2}/\Heap.FlyingW B (X.env::X.outer) e cls (.ref tt) h2/\h1.UpToSlots h2) pq λh2 kU nZ=>⟨h2,rfl,kU,nZ⟩)) (λ_ s3 kG=> ?_) λ_ _ h3=>h3.1.elim;obtain⟨⟨h2,rfl,kU,nZ⟩,rg⟩:=kG;have q0:∀o,h2.get? e=iJ o->o.dict=jr:=λo q=>by
   obtain⟨ob,kg,_⟩:=fl.there;exact((rh.trans rg).at kg q).1.trans (F.nd ob kg)
  obtain⟨un,hok,nq⟩:=F.moved (by rw[gL];exact fl) cov kU.1 (o3.trans nZ);have nx:∀b∈([]:pR qY),(b∈X.ex\/X.s₀.heap.objs.size<=b)/\b≠X.env.locals/\(∀x c,X.env.cells.lookup x=iJ c->c≠b)/\∀p∈X.pn++pins,p.1≠b:=λb hb=>by cases hb
  have I2:Inv X pins σ H' {s1 with heap:=h2}:=I0.call' F.os un hok F.bare nx;have F2:Fly X.prog X.w X.stack H0 s0 e cls H' {s1 with heap:=h2}:=⟨F.os,F.bare,un,hok,⟨B,tt,by rw[gL];exact kU,nq⟩,F.new,F.free,q0⟩;refine wpAny_handleBy_cons (codeAny_handlers_test (nQ e pins σ H' _ _ _ (I2.hand e) ?_)) (by intro q;cases q);have ty:PySem.W.Looks (model X.prog X.w) h2 (typeOf (.ref e)) cls:=by
   obtain⟨ob,kg,hc⟩:=kU.there;subst hc;exact(EA kg).andThen .now
  refine(PySem.W.exm_one I2.kIn ty hit).here ?_;show codeAny _ _ _ _ _;refine codeAny_handlers_suite_as (wpAny_mono (VF (YZ _ _) (lands_againW (E:=λ_ _=>False) (Q:=λ_ s3=>∃h3,s3={s1 with heap:=h3}/\Heap.FlyingW B (X.env::X.outer) e cls (.ref tt) h3/\h2.UpToSlots h3) kU λh3 nS sm3=>⟨h3,rfl,nS,sm3⟩)) (λ_ s3 kG=> ?_) λ_ _ h3=>h3.1.elim);obtain⟨⟨h3,rfl,nS,sm3⟩,r9⟩:=kG;obtain⟨qQ,oR,tG⟩:=F2.moved (by rw[gL];exact kU) nq nS.1 sm3;have I3:Inv X pins σ H' {s1 with heap:=h3}:=I0.call' F.os qQ oR F.bare nx;obtain⟨qW,tK,mD,sY,sT,_⟩:=nS.first
  have qX:qW.dict=jr:=by
   obtain⟨ob,kg,_⟩:=kU.there;exact(r9.at kg mD).1.trans (q0 ob kg)
  have old:∀b o,s0.heap.get? b=iJ o->b≠e:=λb o q z=>by
   have:=F.new;rw[<-z,q] at this;cases this
  obtain⟨m0,⟨oL,ud,ug,oU,_⟩,_⟩:=id I0.loc;have I4:Inv X pins σ (upd H' e (zdW e cls)) {s1 with heap:=h3}:=by
   refine I3.adopt F.free ?_ (A9 (old _ _ oU)) (λy c' ec=> ?_) (λp nJ=>old _ _ (I0.pin p nJ).1) λ_=>zmf mD sY qX sT
   .cases q:X.s₀.heap.get? e with
    |none=>rfl
    |some o=>
     obtain⟨o',q'⟩:=I0.base.there e o q (by rw[hex];simp);exact absurd rfl (old _ _ q')
   .obtain⟨v,o,q,_⟩:=I0.cell y c' ec;exact old _ _ q
  have oH:=rN e F.free;refine zbO (X:=X.hand e) (I4.hand e) hN hi (.inl hl) (v:= .ref e) rfl (λs5 I5=> ?_) (.inr hl);refine wpAny_mono (hs e pins s5 _ _ _ I5 oH) (λf s6 q6=> ?_) λ_ _ z=>z.elim;have fin:∀{σ6:St} {H6:Hp} {R:qN->Prop},Inv (X.hand e) pins σ6 H6 s6->(∀s7,Inv X pins (σ6.set i jr) H6 s7->R s7)->
    wpAny (model X.prog X.w) X.A (do bindName X.env n .none;unbindBehindTheSuite X.env n hp) (λ_ s7=>R s7) X.xe s6:=λ{σ6 H6 R} I6 k=>by
   obtain⟨m6,qw,lI⟩:=id I6.loc;refine wpAny_nameGoes_keeps hl qw (by rw[I.ok.kind];rfl) λh' v lY ke=>k _ ?_;exact(I6.unhand I.ok).goes hN hi qw lI lY ke
  cases f with
  |next=>
   obtain⟨σ6,H6,I6,q⟩:=q6;exact fin I6 λs7 I7=>⟨_,H6,I7,q⟩
  |brk=>
   obtain⟨σ6,H6,I6,q⟩:=q6;exact fin I6 λs7 I7=>⟨_,H6,I7,q⟩
  |cont=>
   obtain⟨σ6,H6,I6,q⟩:=q6;exact fin I6 λs7 I7=>⟨_,H6,I7,q⟩
  |ret u=>
   obtain⟨v,σ6,H6,I6,r,q⟩:=q6;exact fin I6 λs7 I7=>⟨v,_,H6,I7,r,q⟩
open PySem.Builtin.Int (intBits)
def znE(i j:Int):Prop:=∃m n:Nat,intBits i<=m/\intBits j<=n/\m+n<=134217728
theorem WK:OpR X (binaryOp .Mult) (rI znE λi j=> .int (i*j)):=opI λ_ _ _ _ _ _ _ hc q=>by
 obtain⟨m,n,h1,h2,h3⟩:=hc;exact mul_int q (IntMulOk.of_le h1 h2 h3)
section
theorem zdX{Q:Unit->qN->Prop}(X:K.In s.heap)(I:Ci s.heap x ox D jr)(be:ux K D (.type "BaseException")=iJ jD)(hq:Q () s):
  wpAny M A (checkBuiltinCall "BaseException.__getattribute__" ⟨[.ref x,nameV],[]⟩) Q E s:=by
 obtain⟨hh,g,d,t,os⟩:=s;have hk:builtinKind "BaseException.__getattribute__"=iJ .slot:=by decide+kernel
 have hsplit:splitId "BaseException.__getattribute__"=iJ ("BaseException","__getattribute__"):=by decide+kernel
 have L0:=I.type (M:=M);have L1:=PySem.W.looks_mroIn (M:=M) X be;have ha:=F.args_bexc_ga (.ref x) nameV;simp only[checkBuiltinCall,hk,hsplit];refine wpAny_bind ?_;unfold isInstance;refine wpAny_bind (L0.at (L1.at ?_))
 repeat (first|wp_step)
 exact hq
theorem ziE{Q:pT qM->qN->Prop}(X:K.In s.heap)(I:Ci s.heap x ox D jr)(ga:uE K (.ref D) "__getattribute__"=iJ (iJ (.builtin "BaseException.__getattribute__")))(noga:uE K (.ref D) "__getattr__"=iJ jr)
  (be:ux K D (.type "BaseException")=iJ jD) (hf:CU K D jr "__class__"=iJ (.bind (.builtin "getset_descriptor.__get__") (.builtin "object.__class__"))) (hm:ux K D (.type "object")=iJ jD)
  (h:Q (iJ (.ref D)) {s with toks:=s.toks+1}):wpAny (model prog w) A (getAttr? (.ref x) "__class__") Q E s:=by
 obtain⟨hh,g,d,t,os⟩:=s;have L0:=I.type (M:=model prog w);have L1:=C6 (M:=model prog w) X ga;have L2:=C6 (M:=model prog w) X noga;have L3:=PySem.W.looks_find (M:=model prog w) X I hf;have hb:=F.attrBase_ValueError.ga.bind (.ref x);unfold getAttr? getAttrBy? getAttrBy;refine wpAny_bind (wpAny_mkText (wpAny_bind (wpAny_attempt (wpAny_holding (wpAny_bind (L0.at (wpAny_bind (L1.at ?_))))))));dsimp only;rw[if_neg (show ¬(onTheHeap (Value.ref D)&&(Value.builtin "BaseException.__getattribute__"==Value.builtin "object.__getattribute__"))=jD by rw[show(Value.builtin "BaseException.__getattribute__"==Value.builtin "object.__getattribute__")=nW by decide+kernel];simp)];unfold getAttrByItsOwn hookBefore;refine wpAny_bind ?_;show wpAny _ _ (typeLookup (.ref D) "__getattr__") _ _ _;refine L2.at ?_;refine wpAny_bind (wpAny_attempt (wpAny_holding ?_));unfold callGetattribute boundAndCalled;rw[if_neg ∅,hb];refine wpAny_bind (wpAny_pure ?_);dsimp only;refine wpAny_call (codeAny_call_builtin F.attrBase_ValueError.ga.plain F.entry_bexc_ga (zdX (ox:=ox) X I be ?_));unfold Builtin.«object.__getattribute__»;refine wpAny_bind (wpAny_of_eq (show slotArgs "__getattribute__" 1 {pos:=[Value.ref x]++[Value.str (Str.ofString "__class__") t]}=pure (.ref x,[Value.str (Str.ofString "__class__") t]) from rfl) ?_);dsimp only;refine wpAny_bind (wpAny_of_eq (show Builtin.ObjectAttr.attrName (Value.str (Str.ofString "__class__") t)=pure (Str.ofString "__class__") from rfl) ?_);refine wpAny_bind (L0.at (wpAny_bind (L3.at ?_)));dsimp only;show wpAny _ _ (do ret (<-holding [Value.builtin "object.__class__"] (call (.builtin "getset_descriptor.__get__") [.builtin "object.__class__",.ref x,.ref D]))) _ _ _;refine wpAny_bind (wpAny_holding (wpAny_call (PySem.W.class_get (ox:=ox) (od:=jr) X I hm ?_)));exact wpAny_pure (PySem.W.handed_on rfl (wpAny_pure h))
end
structure XD(K:uk)(D:qY):Prop where
 ga:uE K (.ref D) "__getattribute__"=iJ (iJ (.builtin "BaseException.__getattribute__"))
 noga:uE K (.ref D) "__getattr__"=iJ jr
 be:ux K D (.type "BaseException")=iJ jD
 hc:(Bb K D).isSome=jD
 ha:uE K (.ref D) "__class__"=iJ (iJ (.builtin "object.__class__"))
 hn:BR K (.builtin "object.__class__") "__get__"=iJ (iJ (.builtin "getset_descriptor.__get__"))
 htk:CO K (.builtin "object.__class__")=iJ jD
 hm:ux K D (.type "object")=iJ jD
set_option tactic.hygienic true in
theorem zjX{x D:qY}(e:XD K D):Eo K (.ref x) (.ref D) (λh=>∃ox,Ci h x ox D jr) where
 ty:=λ_ _ _ ⟨_,I⟩=>I.type
 it:=λ_ _ X _=>by
  obtain⟨cd,ip⟩:=B7.mp e.hc;unfold Bb at ip;split at ip
  .rename_i ho;intro A' Q' E' s' k q;unfold isType loadHead;exact wpAny_bind (wpAny_loadPart (k _ _ (X _ _ ho)) (wpAny_pure q))
  .cases ip
 ne:=λh tp dd ag n sl X nH=>by
  obtain⟨cd,ip⟩:=B7.mp e.hc;refine Bool.eq_false_iff.mpr λq=> ?_;have z:D=tp:=Value.ref.inj (beq_iff_eq.mp q);subst z;unfold Bb at ip;split at ip
  .rename_i ho;have y:=(X _ _ ho).symm.trans nH;cases y
  .cases ip
 ca:=λ{_ _ _ _ _ s} X I k=>by
  obtain⟨ox,I⟩:=I;obtain⟨cd,ip⟩:=B7.mp e.hc;have hf:CU K D jr "__class__"=iJ (.bind (.builtin "getset_descriptor.__get__") (.builtin "object.__class__")):=by
   unfold CU;rw[ip,uJ,e.ha,uJ];simp[e.hn,e.htk]
  exact ziE X I e.ga e.noga e.be hf e.hm k
inductive TyX(K:uk)(H:Hp):V->Value->Prop where
 |of {x:V} {t:Value} (h:zbk K H x t):TyX K H x t
 |exc {e D:Addr} (h:H e=iJ (zdW e (.ref D))) (k:XD K D):TyX K H (.ref e) (.ref D)
 |sqt {a:Addr} {xs:List V} (h:SqT K H a xs):TyX K H (.ref a) (.type "tuple")
 |sql {a:Addr} {xs:List V} (h:SqL K H a xs):TyX K H (.ref a) (.type "list")
theorem TyX.kit(I:Inv X pins σ H s)(rx:yq x u)(ty:TyX X.K H x t):∃Hh,Eo X.K u t Hh/\Hh s.heap:=by
 cases ty with
 |of ty=>
  cases ty with
  |non=>cases (show u=Value.none from rx);exact⟨_,PySem.W.kitx_none,Bd⟩
  |bl y=>cases (show u=Value.bool y from rx);exact⟨_,PySem.W.kitx_bool,Bd⟩
  |int i=>obtain⟨t,q⟩:=(show ∃t,u=Value.int i t from rx);cases q;exact⟨_,PySem.W.kitx_int,Bd⟩
  |str y=>obtain⟨t,q⟩:=(show ∃t,u=Value.str y t from rx);cases q;exact⟨_,PySem.W.kitx_str,Bd⟩
  |flt y=>obtain⟨t,q⟩:=(show ∃t,u=Value.float y t from rx);cases q;exact⟨_,PySem.W.kitx_float,Bd⟩
  | @lst a xs ea=>
   cases (show u=Value.ref a from rx);obtain⟨_,_,n,_,h1⟩:=(show xp X.prog X.w H s.heap a (.lst xs) from I.hok a _ ea);exact⟨_,Cy,⟨_,h1,rfl⟩⟩
  | @frz a ob xs ea=>
   cases (show u=Value.ref a from rx);obtain⟨_,_,_,n,_,h1⟩:=(show xp X.prog X.w H s.heap a (.frz ob (.lst xs)) from I.hok a _ ea);exact⟨_,Cy,⟨_,h1,rfl⟩⟩
  | @tup a xs ea=>
   cases (show u=Value.ref a from rx);obtain⟨_,_,_,p⟩:=(show xp X.prog X.w H s.heap a (.tup xs) from I.hok a _ ea);obtain⟨o,h1,h2,_⟩:=p;exact⟨_,Dp,⟨o,h1,h2⟩⟩
  | @dK a aq ea=>
   cases (show u=Value.ref a from rx);obtain⟨_,_,vs,_,p⟩:=(show xp X.prog X.w H s.heap a (.dK aq) from I.hok a _ ea);obtain⟨o,es,ep,h1,h2,_⟩:=p;exact⟨_,Du,⟨o,h1,h2.1⟩⟩
  | @dT a aq ea=>
   cases (show u=Value.ref a from rx);obtain⟨_,_,xs,_,o,es,ep,h1,h2,_⟩:=(show xp X.prog X.w H s.heap a (.dT aq) from I.hok a _ ea);exact⟨_,Du,⟨o,h1,h2.1⟩⟩
  | @ins a C dx fs ea cl ha hn htk hm=>
   cases (show u=Value.ref a from rx);obtain⟨mA,O,_⟩:=zbz I.hok ea;obtain⟨od,J,_⟩:=O.look;exact⟨_,PySem.W.kitx_own (cl.get _) cl.hd ha hn htk hm,J⟩
 | @sqt a xs h=>
  cases (show u=Value.ref a from rx);obtain⟨ag,_,⟨o,h1,h2,_⟩,_⟩:=I.tuple h;exact⟨_,Dp,⟨o,h1,h2⟩⟩
 | @sql a xs h=>
  cases (show u=Value.ref a from rx);obtain⟨ag,_,⟨o,n,h1,h2,_⟩,_⟩:=I.list h;exact⟨_,Cy,⟨o,h1,h2⟩⟩
 | @exc e D h k=>
  cases (show u=Value.ref e from rx);obtain⟨⟨ob,h1,h2,h3,vs,h4⟩,_⟩:=(show xp X.prog X.w H s.heap e (zdW e (.ref D)) from I.hok e _ h);refine⟨_,zjX k,ob,h1,h2,?_,?_⟩
  .unfold PySem.W.notCls;rw[h4]
  .rw[h3];trivial
noncomputable def ziF:V->pT qM
 | .ref a=>iJ (.ref a)
 | .ty n=>iJ (.type n)
 |_=>jr
theorem ze9(h:ziF c=iJ cv)(r:yq c u):u=cv:=by
 cases c with
 |ref a=>cases h;exact r
 |ty n=>cases h;exact r
 |_=>cases h
theorem yq.nb(r:yq x u):u≠ .builtin "__main__.__loader__#opaque":=by
 cases x with
 |non=>rintro rfl;cases r
 |bl b=>rintro rfl;cases r
 |int i=>rintro rfl;obtain⟨_,q⟩:=r;cases q
 |str i=>rintro rfl;obtain⟨_,q⟩:=r;cases q
 |byt i=>rintro rfl;obtain⟨_,q⟩:=r;cases q
 |flt i=>rintro rfl;obtain⟨_,q⟩:=r;cases q
 |ref a=>rintro rfl;cases r
 |ty a=>rintro rfl;cases r
def zjY(K:uk):pR V->Hp->VK->Prop:=λxs H Q=>∃x c cv t b,xs=[x,c]/\ziF c=iJ cv/\TyX K H x t/\v7 K t cv=iJ b/\Q (.bl b) H
theorem zjZ:wX X (.builtin "isinstance") (zjY X.K):=by
 intro pins s σ H xs us Q I r h;obtain⟨x,c,cv,t,b,rfl,hc,ty,e,q⟩:=h;obtain⟨u,w',rfl,ru,rw'⟩:=zeT r;obtain rfl:=ze9 hc rw';obtain⟨Hh,Z,p⟩:=ty.kit I ru;exact PySem.W.kia_one Z I.kIn p e ru.nb λtk=>⟨.bl b,H,I.tok tk,rfl,q⟩
def zj0(K:uk):pR V->Hp->VK->Prop:=λxs H Q=>∃x tp cs ag t b,xs=[x,.ref tp]/\H tp=iJ (.tup cs)/\cs.map ziF=ag.map iJ/\TyX K H x t/\B5 K t ag=iJ b/\Q (.bl b) H
theorem zds{cs:pR V}{ag us:pR qM}(h:cs.map ziF=ag.map iJ)(q:yd cs us):us=ag:=by
 induction q generalizing ag with
 |nil=>cases ag with
  |nil=>rfl
  |cons a r=>cases h
 |cons r t k=>cases ag with
  |nil=>cases h
  |cons a l=>
   rw[uV,uV] at h;injection h with h1 h2
   rw[ze9 h1 r,k h2]
theorem ziG:wX X (.builtin "isinstance") (zj0 X.K):=by
 intro pins s σ H xs us Q I r h;obtain⟨x,tp,cs,ag,t,b,rfl,ht,hc,ty,e,q⟩:=h;obtain⟨u,w',rfl,ru,rw'⟩:=zeT r;cases (show w'=Value.ref tp from rw');obtain⟨Hh,Z,p⟩:=ty.kit I ru;obtain⟨_,its',rv,o,h1,h2,n,h3⟩:=(show xp X.prog X.w H s.heap tp (.tup cs) from I.hok tp _ ht);obtain rfl:=zds hc rv;obtain⟨oc,od,pW,js⟩:=o;obtain rfl:oc=_:=h2;obtain rfl:pW=_:=h3.1;exact PySem.W.kia_tup Z I.kIn p h1 e ru.nb λtk=>⟨.bl b,H,I.tok tk,rfl,q⟩
theorem zbZ{t:qM}:v7 K t t=iJ jD:=by unfold v7;rw[if_pos (by simp)]
theorem zdY:v7 K (.type "bool") (.type "int")=iJ jD:=by
 have h:(fastBuiltinMro "bool").map (·.contains (.type "int"))=iJ jD:=by decide+kernel
 have hm:Am "int"=jD:=by decide+kernel
 unfold v7 Bk;rw[if_neg ∅];show(if Am "int"=jD then AW K (.type "bool") (.type "int") else jr)=_;rw[if_pos hm];exact h
theorem zdZ:v7 K (.type "int") (.type "bool")=iJ nW:=by
 have h:(fastBuiltinMro "int").map (·.contains (.type "bool"))=iJ nW:=by decide+kernel
 have hm:Am "bool"=jD:=by decide+kernel
 unfold v7 Bk;rw[if_neg ∅];show(if Am "bool"=jD then AW K (.type "int") (.type "bool") else jr)=_;rw[if_pos hm];exact h
end L2
namespace L2
open PySem PySem.Spec PyProof.Rows
inductive D where
 |non|bl (b:Bool)|int (i:Int)|str (x:Str)|tup (l:List D)|lst (l:List D)|ins (C:Addr) (ns:List Str) (l:List D)
mutual
inductive Is(K:uk)(H:Hp):V->D->Prop where
 |non:Is K H .non .non
 |bl (b:Bool):Is K H (.bl b) (.bl b)
 |int (i:Int):Is K H (.int i) (.int i)
 |str (x:Str):Is K H (.str x) (.str x)
 |tup {a:Addr} {xs:List V} {ds:List D}:SqT K H a xs->IsL K H xs ds->Is K H (.ref a) (.tup ds)
 |lst {a:Addr} {xs:List V} {ds:List D}:SqL K H a xs->IsL K H xs ds->Is K H (.ref a) (.lst ds)
 |ins {a C dx:Addr} {ns:List Str} {xs:List V} {ds:List D}:H a=iJ (.ins C dx (ns.zip xs))->ns.length=xs.length->IsL K H xs ds->Is K H (.ref a) (.ins C ns ds)
inductive IsL(K:uk)(H:Hp):List V->List D->Prop where
 |nil:IsL K H [] []
 |cons {v:V} {d:D} {vs:List V} {ds:List D}:Is K H v d->IsL K H vs ds->IsL K H (v::vs) (d::ds)
end
theorem Xc(h:H p=jr):TC H (upd H p o):=λb u e=>by rw[yi (Zv e h)];exact e
theorem IsL.len{vs:pR V}{ds:pR D}(h:IsL K H vs ds):vs.length=ds.length:=by
 induction vs generalizing ds with
 |nil=>cases h;rfl
 |cons v r i=>cases h with|cons _ l=>rw[uw,uw,i l]
theorem IsL.get{vs:pR V}{ds:pR D}{i:Nat}{d:D}(h:IsL K H vs ds)(e:ds[i]? =iJ d):∃v,vs[i]? =iJ v/\Is K H v d:=by
 induction vs generalizing ds i with
 |nil=>cases h;simp at e
 |cons v r k=>cases h with|cons q l=>cases i with
  |zero=>simp at e;subst e;exact⟨_,rfl,q⟩
  |succ i=>exact k l e
theorem Is.int_inv{v:V}{i:Int}(h:Is K H v (.int i)):v= .int i:=by cases h;rfl
theorem Is.bl_inv{v:V}{b:Bool}(h:Is K H v (.bl b)):v= .bl b:=by cases h;rfl
theorem Is.str_inv{v:V}{b:Str}(h:Is K H v (.str b)):v= .str b:=by cases h;rfl
theorem Is.non_inv{v:V}(h:Is K H v .non):v= .non:=by cases h;rfl
theorem Is.tup_inv{v:V}{ds:pR D}(h:Is K H v (.tup ds)):∃a xs,v= .ref a/\SqT K H a xs/\IsL K H xs ds:=by cases h with|tup a b=>exact⟨_,_,rfl,a,b⟩
theorem Is.lst_inv{v:V}{ds:pR D}(h:Is K H v (.lst ds)):∃a xs,v= .ref a/\SqL K H a xs/\IsL K H xs ds:=by cases h with|lst a b=>exact⟨_,_,rfl,a,b⟩
noncomputable abbrev dQ(a b:Int):D:= .tup [.int a,.int b]
section
variable{Q:VK}{ta tb tc:TE}{D':Tu}{v:V}{i:Nat}
end
local macro_rules|`(tactic|walk_at "rd")=>do
 let g(s:String):=(s.splitOn " ").toArray.mapM fun n=>`(tacticSeq|refine $(Lean.mkIdent (.mkSimple n)) ?_)
 let a<-g "qe qp nD"
 let b<-g "tP rp rA tQ rl qo tS tR rq qi qq rm ou qh oj qm om oo qf oh ql qj oq ot rB qd qk qg oi nC"
 `(tactic|repeat first $[| $a]*|refine qc rfl ?_ $[| $b]*)
end L2
namespace L2
open PySem PySem.Spec PyProof.Rows
section
variable{Q:VK}{D':Tu}{E:XK}
end
theorem Fun.okE{P:Program}{w:World}{base:Heap}{x qual:Str}{st:Stmt}{f:qY}{fd:FuncData}{N ps:pR Str}{k:Nat}{sp:Sp}(F:Fun K x qual st f fd)(S:zC N ps (zg st))(len:∀vs H Q E,sp vs H Q E->vs.length=ps.length)
  (jO:∀(aP:qM) (A:Around) (outer:pR Env) (s:qN) (H:Hp) (vs:pR V) (Q:VK) (E:XK),Zr k (A.deeper (envOfC qual (zg st) s.heap.objs.size f aP))->sp vs H Q E->
   ∃t,PSs (zaH (CXE P w) P w K mg base N qual (zg st) f aP A outer s H E) (XB st) t/\t {nx:=λ_ H'=>Q .non H',rt:=Q} (VB N vs) H):yh P w K mg base (CXE P w) (k+1) f fd ps sp:=by
 obtain⟨oc,od,kV,doc,pm,an,aP,ct,js,rfl,lk,ip⟩:=F.ex;exact zp9 lk ip S len λA outer s H vs Q E hr j9=>jO aP A outer s H vs Q E hr j9
theorem zoz{C D:qY}{b:Bool}(h1:ux K D (.type "BaseException")=iJ jD)(h2:(Bb K D).isSome=jD)(h3:y0 K (.ref D)=iJ (.type "type"))(h4:ux K C (.ref D)=iJ b):
  B4 K (.ref C) (.ref D)=iJ b:=by
 unfold B4;have e:AW K (.ref D) (.type "BaseException")=iJ jD:=h1;rw[e,if_pos ∅];unfold Bk;show(if ((Bb K D).isSome&&y0 K (.ref D)==iJ (.type "type"))=jD then AW K (.ref C) (.ref D) else jr)=iJ b;rw[h2,h3,if_pos ∅];exact h4
theorem WL{C D:qY}{b:Bool}(h2:(Bb K D).isSome=jD)(h3:y0 K (.ref D)=iJ (.type "type"))(h4:ux K C (.ref D)=iJ b)(h5:C=D->b=jD):
  v7 K (.ref C) (.ref D)=iJ b:=by
 unfold v7;by_cases h:C=D
 .rw[if_pos (by simp[h]),h5 h]
 .rw[if_neg (by simp[h])];unfold Bk;show(if ((Bb K D).isSome&&y0 K (.ref D)==iJ (.type "type"))=jD then AW K (.ref C) (.ref D) else jr)=iJ b;rw[h2,h3,if_pos ∅];exact h4
section
variable{Q:VK}{D':Tu}{E:XK}{EX:qM->Hp->Prop}
end
section
theorem zA(h:X.K=K:=by rfl):IxR X (zos K):=h ▸ zot
theorem yD(h:X.K=K:=by rfl):IxR X (zor K):=h ▸ zl2
theorem Wq(h:X.K=K:=by rfl):wX X (.builtin "isinstance") (zjY K):=h ▸ zjZ
theorem zgs(h:X.K=K:=by rfl):wX X (.builtin "isinstance") (zj0 K):=h ▸ ziG
theorem zP(h:X.K=K:=by rfl):wX X (.builtin "len") (λxs H Q=>∃p ys,xs=[.ref p]/\(SqL K H p ys\/SqT K H p ys)/\Q (.int ys.length) H):=h ▸ zdS
theorem zgt(h:X.K=K:=by rfl):wX X (.type "list") (λxs H Q=>∃p ys,xs=[.ref p]/\(SqL K H p ys\/SqT K H p ys)/\∀l,H l=jr->Q (.ref l) (upd H l (.lst ys))):=h ▸ zdT
theorem xq(h:X.K=K:=by rfl):wX X (.type "tuple") (λxs H Q=>∃p ys,xs=[.ref p]/\((SqL K H p ys/\∀l,H l=jr->Q (.ref l) (upd H l (.tup ys)))\/(SqT K H p ys/\Q (.ref p) H))):=h ▸ zcJ
theorem zj1(h:X.K=K:=by rfl):OpR X (compareOp .In) (rIn K nW):=h ▸ zix
theorem Wr(h:X.K=K:=by rfl):OpR X (compareOp .NotIn) (rIn K jD):=h ▸ zdR
theorem wK(h:X.K=K:=by rfl):SlR X (zjE K):=h ▸ zl3
theorem VH(hl:PE X l tl)(h:X.K=K:=by rfl):PI X tg l (zjr K tl):=h ▸ zlS hl
theorem wA(hl:PE X l tl)(h:X.K=K:=by rfl):PI X tg l (zoh K tl):=h ▸ zoi hl
theorem Yx(hc:X.calm=jD)(h:PGs X es t)(hK:X.K=K:=by rfl)
  (hn:(assignEach es X.env).length=n:=by rfl) (gL:(assignEach es X.env).findIdx? (·.1)=jr:=by rfl):PG X (.Tuple es k pos) (zod K n t):=hK ▸ zoe hc h hn gL
theorem xh:vP X sc [] []:=trivial
theorem xi(h:vP X sc r n):vP X sc (jr::r) (x::n):=h
theorem Ux(h1:X.N[i]? =iJ x)(h2:sc.names.lookup x=iJ .free)(h:vP X sc r n):vP X sc (iJ i::r) (x::n):=⟨⟨h1,h2⟩,h⟩
end
noncomputable def znF(osc sc:Scope):Bool:=sc.names.all (λy=>y.2 != .cell)&&sc.kind== .function&&sc.names.all (λy=>y.2 != .local||sc.names.lookup y.1==iJ .local)&&
 sc.names.all (λy=>y.2 != .free||(osc.names.lookup y.1==iJ .cell||osc.names.lookup y.1==iJ .free))
theorem blk{X:Cx}(hs:X.env.scope=osc)(h:znF osc sc=jD):Uw X sc:=by
 unfold znF at h;simp only[v9,y6,bne_iff_ne,ne_eq,beq_iff_eq,BF] at h;obtain⟨⟨⟨h1,h2⟩,h3⟩,h4⟩:=h;refine⟨h1,h2,λy hy e=>(h3 y hy).resolve_left λz=>z e,λy hy e=> ?_⟩;show X.env.scope.names.lookup y.1=_\/X.env.scope.names.lookup y.1=_;rw[hs];exact(h4 y hy).resolve_left λz=>z e
section
variable{g:TG}{tb:TS}{nx:St->Hp->Prop}{rt:VK}
end
mutual
noncomputable def D.depth:D->Nat
 | .tup l=>D.depths l+1
 | .lst l=>D.depths l+1
 | .ins _ _ _=>1000
 |_=>0
noncomputable def D.depths:pR D->Nat
 |[]=>0
 |d::r=>max (D.depth d) (D.depths r)
end
section
variable{Q:VK}{D':Tu}{cap:pR (pT Nat)}{wi:TI}{g:TG}{tt:TT}{te:TE}
variable{acc:qY}{H0:Hp}{Qh:Hp->Prop}
end
section
variable{σ:pR (pT V)}{H':Hp}{h':Heap}
end
structure ZA(z TI TO i1 i2:qY):Prop where
 TIz:TI≠z
 TOz:TO≠z
 i1z:i1≠z
 i2z:i2≠z
 TITO:TI≠TO
 TIi1:TI≠i1
 TIi2:TI≠i2
 TOi1:TO≠i1
 TOi2:TO≠i2
 i12:i1≠i2
section
variable{cap:pR (pT Nat)}{g:TG}{tt:TT}{te:TE}{acc:qY}{H0:Hp}{Qh:Hp->Prop}
structure zrn(J:It)(n:Nat)(f:Nat->pT (V×V))(ok:Hp->Prop):Prop where
 go:∀i H,ok H->i<n->J.go i H
 stop:∀H,ok H->J.stop n H
 yld:∀i H x H',ok H->i<n->J.yld i H x H'->∃p u v,x= .ref p/\H p=jr/\H'=upd H p (.tup [u,v])/\f i=iJ (u,v)
end
section
variable{Q:VK}{D':Tu}
end
section
variable{Q:VK}
end
open Classical in
noncomputable def frG(H H':Hp):Hp:=λb=>match H' b with
 |some (.lst xs)=>if H b=jr then iJ (.lst xs) else jr
 |o=>o
def Dom(H H':Hp):Prop:=∀b,H' b=jr->H b=jr
structure Acc(K:uk)(H0:Hp)(acc:qY)(ys:pR V)(ds:pR D)(H:Hp):Prop where
 at_:H acc=iJ (.lst ys)
 new:IsL K (frG (upd H0 acc (.lst [])) H) ys ds
 same:TC H0 H
 dom:Dom (upd H0 acc (.lst [])) H
theorem zaI(ns:pR Int):∀k,preSum (λi=>ns.getD i 0) k=(ns.take k).sum
 |0=>by simp[preSum]
 |k+1=>by
  unfold preSum;rw[zaI ns k,Dv,List.sum_append];cases h:ns[k]? <;>simp[uz,h]
def zqj(K:uk):pR V->Hp->VK->Prop:=λxs H Q=>∃(p:qY) (ns:pR Int),xs=[.ref p]/\SqL K H p (ns.map V.int)/\Q (.int ns.sum) H
theorem zaJ(hc:X.calm=jD)(hK:X.K=K:=by rfl):wX X (.builtin "sum") (zqj K):=by
 subst hK;intro pins s σ H xs us Q I r h;obtain⟨p,ns,rfl,hq,q⟩:=h;obtain⟨u,rfl,ru⟩:=Wo r;cases ru;obtain⟨ag,rv,pl,hz⟩:=I.list hq;have lt:p<s.heap.objs.size:=by
  obtain⟨o,n,e,_⟩:=id pl;exact Heap.lt_size e
 have hl:=rv.length;rw[um] at hl;refine call_sum_walkAnyS (wpAny_pyIter_list pl.isList ?_);have W:=(Walks.list (prog:=X.prog) (w:=X.w) (A:=X.A.in1) (I.ok.hd hc) s.heap.objs.size p (uR lt) ag.toArray).toS;refine⟨s.heap.objs.size,_,_,_,_,_,_,λi=>ns.getD i 0,rfl,W,?_,?_,?_,?_⟩
 .exact⟨⟨_,Heap.get?_push_size _ rfl,rfl,rfl⟩,Heap.IsList.push pl.isList _⟩
 .intro b hb;rw[Heap.size_push];rcases(by simpa using hb:b=s.heap.objs.size\/b=p) with rfl|rfl
  .exact A4 _
  .exact AY lt
 .intro i v hv;have hv:ag[i]? =iJ v:=by simpa using hv
  have hi:i<ns.length:=by rw[hl];exact(uq.1 hv).1
  obtain⟨u,hu,t,ru⟩:=rv.get (i:=i) (x:=V.int ns[i]) (by rw[uA,uo hi];rfl);rw[hu] at hv;cases hv;refine⟨t,?_⟩;rw[ru];show Value.int ns[i] t=Value.int (ns.getD i 0) t;rw[uz,uo hi,Bs]
 .intro s' t' m
  have I1:Inv X pins σ H {s with heap:=s'.heap,toks:=s'.toks}:=I.kept λb o e=>m.heap b o (λz=>by
   have z:b=s.heap.objs.size:=by simpa using z
   exact absurd (Heap.lt_size e) (by rw[z];exact Ad _)) (Heap.get?_push_of_some _ e)
  have e:({s with heap:=s'.heap,toks:=s'.toks}:qN)=s':=by
   have h1:=m.gens;have h2:=m.drawn;have h3:=m.os;cases s';simp only at h1 h2 h3;subst h1 h2 h3;rfl
  rw[e] at I1;refine⟨.int ns.sum,H,I1,⟨t',?_⟩,q⟩;rw[zaI];have:ag.toArray.size=ns.length:=by rw[uD,<-hl]
  rw[this,z8]
section
variable{Q:VK}
end
section
variable{v:V}
end
end L2
namespace L2
open PySem PySem.Spec PyProof.Rows PyProof
def zmg:V->pT Int->pT Int->Hp->VK->Prop:=λx lo hi H Q=>∃z,x= .str z/\z.length<=sizeLine/\Q (.str (Txt.slice z lo hi)) H
theorem zoA:SlR X zmg:=by
 intro pins s σ H x v vl vu lo hi sl Q I rx hs pl pu h;obtain⟨z,rfl,hz,q⟩:=h;obtain⟨t,rfl⟩:=rx;refine⟨"str",_,F.slot_str_getitem.lookup,typeIs_str _ _ _,?_⟩;obtain⟨l,m3,lZ⟩:∃l:pT (Int×Tok),vl=partValue l/\l.map (·.1)=lo:=by
  cases pl with
  |none=>exact⟨jr,rfl,rfl⟩
  |int i t=>exact⟨iJ (i,t),rfl,rfl⟩
 obtain⟨u,rL,rK⟩:∃l:pT (Int×Tok),vu=partValue l/\l.map (·.1)=hi:=by
  cases pu with
  |none=>exact⟨jr,rfl,rfl⟩
  |int i t=>exact⟨iJ (i,t),rfl,rfl⟩
 subst m3 rL lZ rK;exact wpAny_getItem_str_slice (l:=l) (u:=u) (st:=jr) hs rfl (post_val_or_str ⟨v5 (Txt.slice_le z _ _) hz,λt' k=>⟨.str _,H,I.tok _,⟨_,rfl⟩,q⟩⟩)
theorem zoB(h1:(Value.type a==Value.type b)=nW)(h:(fastBuiltinMro a).map (·.contains (.type b))=iJ nW)(hm:Am b=jD)(hs:AW K (.type a) (.type b)=(fastBuiltinMro a).map (·.contains (.type b))):v7 K (.type a) (.type b)=iJ nW:=by
 unfold v7 Bk;rw[if_neg (by rw[h1];decide)];show(if Am b=jD then AW K (.type a) (.type b) else jr)=_;rw[if_pos hm,hs,h]
end L2
namespace L2
open PySem PySem.Spec PyProof.Rows
open AutoSeq1 (wpAny_loadPart')
section
variable{w:World}
end
end L2
namespace L2
open PySem PySem.Spec PyProof.Rows
section
variable{w:World}
noncomputable abbrev zT1(h:Heap)(l1:qY):Heap:=h.push {cls:= .type "tuple_iterator",data:= .fields #[.ref l1,.int 0 0]}
noncomputable abbrev zT2(h:Heap)(l1 l2:qY):Heap:=(zT1 h l1).push {cls:= .type "tuple_iterator",data:= .fields #[.ref l2,.int 0 0]}
noncomputable abbrev zT3(h:Heap)(l1 l2:qY):Heap:=(zT2 h l1 l2).push {cls:= .type "tuple",data:= .seq #[.ref h.objs.size,.ref (zT1 h l1).objs.size]}
noncomputable abbrev zT4(h:Heap)(l1 l2:qY):Heap:=(zT3 h l1 l2).push {cls:= .type "tuple",data:= .seq #[.none,.none]}
noncomputable abbrev zT5(h:Heap)(l1 l2:qY):Heap:=(zT4 h l1 l2).push {cls:= .type "zip",data:= .fields #[.none,.bool nW,.bool nW,.ref (zT2 h l1 l2).objs.size,.ref (zT3 h l1 l2).objs.size]}
end
mutual
noncomputable def D.py:D->PyData
 | .non=> .none
 | .bl b=> .bool b
 | .int i=> .int i
 | .str x=> .str x
 | .tup l=> .tuple (D.pys l)
 | .lst l=> .list (D.pys l)
 | .ins _ _ _=> .none
noncomputable def D.pys:pR D->pR PyData
 |[]=>[]
 |d::r=>D.py d::D.pys r
end
mutual
def D.small(n:Nat):D->Prop
 | .int i=>i.natAbs<2^n
 | .tup l=>D.smalls n l
 | .lst l=>D.smalls n l
 | .non=>True
 | .bl _=>True
 | .str _=>False
 | .ins _ _ _=>False
def D.smalls(n:Nat):pR D->Prop
 |[]=>True
 |d::r=>D.small n d/\D.smalls n r
end
mutual
noncomputable def D.wt(n:Nat):D->Nat
 | .tup l=>D.wts n l
 | .lst l=>D.wts n l
 | .int _=>n
 |_=>0
noncomputable def D.wts(n:Nat):pR D->Nat
 |[]=>0
 |d::r=>D.wt n d+1+D.wts n r
end
theorem zgu{i:Int}{n:Nat}(hn:0<n)(h:i.natAbs<2^n):i.natAbs.log2<n:=by
 by_cases h0:i.natAbs=0
 .rw[h0];exact hn
 .exact (Nat.log2_lt h0).mpr h
structure zrc(n:Nat)(d:D):Prop where
 seq:∃l,d= .tup l\/d= .lst l
 small:D.small n d
 n0:8<=n
 n1:n<=1900
 deep:D.depth d<=40
 size:(n+3)*D.wt n d+n+1<=16777216
noncomputable abbrev zqk(t:qY)(i:Int):Obj:={cls:= .type "reversed",data:= .fields #[.ref t,rawInt i]}
noncomputable abbrev zrr(h:Heap)(a t:qY)(i:Int):Prop:=h.get? a=iJ (zqk t i)
section
variable{w:World}
end
section
def znG(K:uk):R2:=λx y H Q=>∃a b xs ys,x= .ref a/\y= .ref b/\SqT K H a xs/\SqT K H b ys/\xs.length+ys.length<=sizeLine/\(xs=[]->Q (.ref b) H)/\(xs≠[]->ys=[]->Q (.ref a) H)/\(xs≠[]->ys≠[]->∀p,H p=jr->Q (.ref p) (upd H p (.tup (xs++ys))))
theorem zmh(hK:X.K=K:=by rfl):OpR X (binaryOp .Add) (znG K):=by
 subst hK;intro pins s σ H x y v u Q I rx ry h;obtain⟨a,b,xs,ys,e1,e2,ha,hb,hz,q1,q2,q3⟩:=h;by_cases hx:xs=[]
 .subst e1 e2;cases rx;cases ry;obtain⟨ag,r1,p1,_⟩:=I.tuple ha;obtain⟨cE,r2,p2,_⟩:=I.tuple hb;obtain⟨⟨cls,dd,data,sl⟩,ho,hc,n,hd⟩:=id p1;obtain⟨⟨pP,nT,data2,lT⟩,lF,jb,n2,hd2⟩:=id p2;simp only at hc hd jb hd2;subst hc hd jb hd2;exact concat_meets ⟨_,ho,rfl⟩ ⟨_,lF,rfl⟩ noFill_tuple_add seq_tuple_add BZ BP (BI _ _) (tuple_addW0 a b ag.toArray cE.toArray n n2 dd nT sl lT (by have:=r1.nil_iff.mpr hx;simp[this])) ⟨ho,lF,⟨.ref b,H,I,rfl,q1 hx⟩⟩
 .exact zl0 pins s σ H x y v u Q I rx ry ⟨a,b,xs,ys,e1,e2,ha,hb,hx,hz,q2 hx,q3 hx⟩
end
end L2
namespace L2
open PySem PySem.Spec PyProof.Rows PyProof
def znH(K:uk):pR V->Hp->VK->Prop:=λxs H Q=>∃(p:qY) (ns:pR Int),xs=[.ref p]/\SqT K H p (ns.map V.int)/\Q (.int ns.sum) H
theorem zgv(hc:X.calm=jD)(hK:X.K=K:=by rfl):wX X (.builtin "sum") (znH K):=by
 subst hK;intro pins s σ H xs us Q I r h;obtain⟨p,ns,rfl,hq,q⟩:=h;obtain⟨u,rfl,ru⟩:=Wo r;cases ru;obtain⟨ag,rv,pl,hz⟩:=I.tuple hq;have lt:p<s.heap.objs.size:=pl.lt;have hl:=rv.length;rw[um] at hl;have pl':s.heap.IsTuple p ag.toArray:=pl;refine call_sum_walkAnyS (wpAny_pyIter_tuple pl' ?_);have W:=(Walks.tuple (prog:=X.prog) (w:=X.w) (A:=X.A.in1) (I.ok.hd hc) s.heap.objs.size p (uR lt) ag.toArray).toS;refine⟨s.heap.objs.size,_,_,_,_,_,_,λi=>ns.getD i 0,rfl,W,?_,?_,?_,?_⟩
 .exact⟨⟨_,Heap.get?_push_size _ rfl,rfl,rfl⟩,IsTup.push pl _⟩
 .intro b hb;rw[Heap.size_push];rcases(by simpa using hb:b=s.heap.objs.size\/b=p) with rfl|rfl
  .exact A4 _
  .exact AY lt
 .intro i v hv;have hv:ag[i]? =iJ v:=by simpa using hv
  have hi:i<ns.length:=by rw[hl];exact(uq.1 hv).1
  obtain⟨u,hu,t,ru⟩:=rv.get (i:=i) (x:=V.int ns[i]) (by rw[uA,uo hi];rfl);rw[hu] at hv;cases hv;refine⟨t,?_⟩;rw[ru];show Value.int ns[i] t=Value.int (ns.getD i 0) t;rw[uz,uo hi,Bs]
 .intro s' t' m
  have I1:Inv X pins σ H {s with heap:=s'.heap,toks:=s'.toks}:=I.kept λb o e=>m.heap b o (λz=>by
   have z:b=s.heap.objs.size:=by simpa using z
   exact absurd (Heap.lt_size e) (by rw[z];exact Ad _)) (Heap.get?_push_of_some _ e)
  have e:({s with heap:=s'.heap,toks:=s'.toks}:qN)=s':=by
   have h1:=m.gens;have h2:=m.drawn;have h3:=m.os;cases s';simp only at h1 h2 h3;subst h1 h2 h3;rfl
  rw[e] at I1;refine⟨.int ns.sum,H,I1,⟨t',?_⟩,q⟩;rw[zaI];have:ag.toArray.size=ns.length:=by rw[uD,<-hl]
  rw[this,z8]
theorem zdt(a:Array Nat):∀m:Nat,(y2 m).filterMap (λi=>a[i]?)=a.toList.take m
 |0=>rfl
 |m+1=>by
  rw[DK,List.filterMap_append,zdt a m,Dv];rw[D6];cases h:a[m]? <;>simp[h]
set_option tactic.hygienic true in
theorem zaK(h:1<=z.length):(Txt.slice z jr (iJ (-1))).cps.toList=z.cps.toList.take (z.length-1):=by
 have hl:z.length=z.cps.size:=rfl;have e1:C0 jr (iJ (-1)) 1 z.length=y2 (z.length-1):=by
  unfold C0 sliceRange;simp only[show(1:Int)>0 by decide,if_true,show(-1:Int)<0 by decide];have e2:max 0 (min (-1+(z.length:Int)) (z.length:Int))=((z.length-1:Nat):Int):=by omega
  rw[e2];have e3:(if (0:Int)<((z.length-1:Nat):Int) then (((z.length-1:Nat):Int)-0+1-1) / 1 else 0).toNat=z.length-1:=by
   rw[Int.ediv_one];split<;>omega
  rw[e3]
  conv=>rhs;rw[<-List.map_id (y2 (z.length-1))]
  refine List.map_congr_left λk _=> ?_;show(0+1*(k:Int)).toNat=k;omega
 unfold Txt.slice;rw[e1];split
 .rename_i hh;rw[Cz] at hh;simp at hh;omega
 .show (List.filterMap _ _).toArray.toList=_;rw[List.toList_toArray];exact zdt z.cps (z.length-1)
end L2
namespace L2
open PySem PySem.Spec PyProof.Rows
def zql(K:uk):pR V->Hp->VK->Prop:=λxs H Q=>∃(p:qY) (bs:pR Bool),xs=[.ref p]/\SqL K H p (bs.map V.bl)/\Q (.bl (bs.all id)) H
theorem ziH:∀(bs:pR Bool),(y2 bs.length).all (λi=>bs.getD i nW)=bs.all id:=λbs=>by
 rw[Bc,y6,y6];constructor
 .intro h b hb;obtain⟨i,hi,e⟩:=B2.1 hb;have:=h i (Cd.2 hi);rw[uz,uo hi,Bs,e] at this;exact this
 .intro h i hi;have hi:=Cd.1 hi;rw[uz,uo hi,Bs];exact h _ (Au hi)
theorem zgw{p:qY}{bs:pR Bool}(hc:X.calm=jD)(I:Inv X pins σ H s)(hq:SqL X.K H p (bs.map V.bl)){R:qM->qN->Prop}
  (k:∀Ia fp wr G n P St tr (s₂:qN),WalksS X.prog X.w X.A.in1 Ia fp wr G n P St->St 0 s₂->TruthOf X.prog X.w X.A.in1 P tr->n=bs.length->(tr=λi=>bs.getD i nW)->(∀s',Moved wr G s₂ s'->Inv X pins σ H s')->R (.ref Ia) s₂):
  wpAny (model X.prog X.w) X.A.in1 (pyIter (.ref p)) R X.xe s:=by
 obtain⟨ag,rv,pl,hz⟩:=I.list hq;have lt:p<s.heap.objs.size:=by
  obtain⟨o,n,e,_⟩:=id pl;exact Heap.lt_size e
 have hl:=rv.length;rw[um] at hl;refine wpAny_pyIter_list pl.isList ?_;have W:=(Walks.list (prog:=X.prog) (w:=X.w) (A:=X.A.in1) (I.ok.hd hc) s.heap.objs.size p (uR lt) ag.toArray).toS;refine k s.heap.objs.size _ _ _ _ _ _ (λi=>bs.getD i nW) _ W ?_ ?_ ?_ rfl ?_
 .exact⟨⟨_,Heap.get?_push_size _ rfl,rfl,rfl⟩,Heap.IsList.push pl.isList _⟩
 .intro i v s Q E hv hQ;have hv:ag[i]? =iJ v:=by simpa using hv
  have hi:i<bs.length:=by rw[hl];exact(uq.1 hv).1
  obtain⟨u,hu,ru⟩:=rv.get (i:=i) (x:=V.bl bs[i]) (by rw[uA,uo hi];rfl);have e0:u=v:=by
   rw[hu] at hv;exact y8 hv
  have ru:u=Value.bool bs[i]:=ru;rw[<-e0,ru];refine wpAny_truthy_bool ?_;have e:bs.getD i nW=bs[i]:=by rw[uz,uo hi,Bs]
  rw[<-e];exact hQ
 .rw[uD,<-hl]
 .intro s' m
  have I1:Inv X pins σ H {s with heap:=s'.heap,toks:=s'.toks}:=I.kept λb o e=>m.heap b o (λz=>by
   have z:b=s.heap.objs.size:=by simpa using z
   exact absurd (Heap.lt_size e) (by rw[z];exact Ad _)) (Heap.get?_push_of_some _ e)
  have e:({s with heap:=s'.heap,toks:=s'.toks}:qN)=s':=by
   have h1:=m.gens;have h2:=m.drawn;have h3:=m.os;cases s';simp only at h1 h2 h3;subst h1 h2 h3;rfl
  rw[e] at I1;exact I1
theorem Ws(hc:X.calm=jD)(hK:X.K=K:=by rfl):wX X (.builtin "all") (zql K):=by
 subst hK;intro pins s σ H xs us Q I r h;obtain⟨p,bs,rfl,hq,q⟩:=h;obtain⟨u,rfl,ru⟩:=Wo r;cases ru;refine call_all_walkS (zgw hc I hq λIa fp wr G n P St tr s₂ W h0 ht hn rM hm=>⟨Ia,fp,wr,G,n,P,St,tr,rfl,W,h0,ht,λs' m=>⟨.bl _,H,hm s' m,rfl,?_⟩⟩);rw[hn,rM,ziH];exact q
theorem Inv.lstR(I:Inv X pins σ H s)(hH:SqX X.K H l xs):xs.length<=sizeLine/\∃(ag:pR qM) (n:Nat),yd xs ag/\xs.length=ag.length/\s.heap.get? l=iJ {cls:= .type "list",data:= .seq ag.toArray n}:=by
 rcases hH with hH|⟨ag,n,hk,hz,r⟩
 .obtain⟨z,ag,n,r,e⟩:=hH.ok I.hok;exact⟨z,ag,n,r,r.length,e⟩
 .have hl:=r.length;have lZ:ag.toList.length=ag.size:=Bz;exact⟨⋯,ag.toList,n,r,r.length,I.kIn l _ hk⟩
def znI(K:uk):R2:=λx y H Q=>∃l b xs zs,x= .ref l/\y= .ref b/\SqX K H l xs/\SqX K H b zs/\xs.length+zs.length<=sizeLine/\∀p,H p=jr->Q (.ref p) (upd H p (.lst (xs++zs)))
theorem yO(hK:X.K=K:=by rfl):OpR X (binaryOp .Add) (znI K):=by
 subst hK;intro pins s σ H x y v u Q I rx ry h;obtain⟨l,b,xs,zs,rfl,rfl,hH,hB,hz,q⟩:=h;cases rx;cases ry;obtain⟨z,ag,n,r,hl,e⟩:=I.lstR hH;obtain⟨z2,cE,n2,r2,lZ,e2⟩:=I.lstR hB;refine PySem.P.add_list e e2 ?_ (by rw[uD,uD];omega);have ea:ag.toArray++cE.toArray=(ag++cE).toArray:=by simp
 rw[ea];exact⟨.ref _,_,I.lnew (t':=s.toks) (r.append r2) (by rw[ur];omega),rfl,q _ I.fresh⟩
theorem ziI(l:qY)(items:Array qM)(n:Nat)(b:qY)(ob:Obj)(T:String)(fG:Array qM)(n2:Nat)(hT:T="list"\/T="tuple")(my:(!items.isEmpty&&Builtin.List.listTooLong (items.size+fG.size))=nW)(jL:items.size<=sizeLine)(ji:items.size+fG.size<=sizeLine):
  Meets (Builtin.«list.extend» ⟨[.ref l,.ref b],[]⟩) (λ_ R s=>s.heap.get? l=iJ {cls:= .type "list",dict:=jr,data:= .seq items n,slots:= #[]}/\s.heap.get? b=iJ ob/\ob.cls= .type T/\ob.data= .seq fG n2/\R (.ok (.ret Value.none)) {s with heap:=s.heap.update l (Obj.mapSeq λx=>x++fG),toks:=s.toks}):=by
 intro prog w A R s h;obtain⟨hl,hb,hc,hd,hR⟩:=h;show wpAny _ _ (Builtin.List.listExtendWith (.ref l) (.ref b) .none) _ _ s;unfold Builtin.List.listExtendWith;refine wpAny_bind (wpAny_typeOf (T:=T) ⟨ob,hb,hc⟩ ?_);have mS:(Builtin.List.listSameRef (.ref l) (.ref b)||Value.type T==Value.type "list"||Value.type T==Value.type "tuple")=jD:=by
  rcases hT with rfl|rfl<;>simp
 rw[if_pos mS];refine wpAny_bind ?_;unfold Builtin.List.listItems;refine wpAny_bind (wpAny_seqItems hb hd (wpAny_pure ?_));refine wpAny_bind ?_;refine wpAny_bind (wpAny_seqItems hl rfl (wpAny_pure ?_));rw[if_neg (by rw[my];exact uQ)];have rC:(items++fG).size<=sizeLine+1:=by rw[Array.size_append];omega
 refine wpAny_bind (m:=Builtin.List.listUpdate (.ref l) (· ++fG)) ?_;show wpAny _ _ (updateSeq l (λx=>x++fG)) _ _ s;refine wpAny_updateSeq hl rfl (hz:=jL) (_hz':=rC) ?_;exact wpAny_pure hR
def zfa(K:uk):V->pR V->Hp->VK->Prop:=λx vs H Q=>∃l b xs zs,x= .ref l/\vs=[.ref b]/\H l=iJ (.lst xs)/\(SqX K H b zs\/SqT K H b zs)/\xs.length+zs.length<=sizeLine/\Q .non (upd H l (.lst (xs++zs)))
theorem zgx(hK:X.K=K:=by rfl):MtR X "list.extend" (zfa K):=by
 subst hK;intro pins s σ H x vs v us Q I rx rv h;obtain⟨l,b,xs,zs,rfl,rfl,hH,hB,hz,q⟩:=h;cases rx;obtain⟨u,rfl,ru⟩:=rv.one;cases ru;obtain⟨z,ag,n,r,hl,e⟩:=I.lstM hH;have key:∀{cE:pR qM} {ob:Obj} {T:String} {n2:Nat},yd zs cE->(T="list"\/T="tuple")->s.heap.get? b=iJ ob->ob.cls= .type T->ob.data= .seq cE.toArray n2->
   wpAny (model X.prog X.w) X.A (call (.builtin "list.extend") [.ref l,.ref b]) (EP X pins σ Q) X.xe s:=by
  intro cE ob T n2 r2 hT hb hc hd;have lZ:=r2.length;have iW:ag.toArray.size+cE.toArray.size<=sizeLine:=by rw[uD,uD];omega
  refine call_meets F.slot_list_extend ⟨_,e,rfl⟩ F.entry_list_extend (F.args_list_extend_2 _ _)
   (ziI l ag.toArray n b ob T cE.toArray n2 hT (by rw[zjH iW,z7]) (by rw[uD];omega) iW) ⟨e,hb,hc,hd,?_⟩
  refine⟨.non,_,I.lset (its':=ag++cE) hH e (by simp) (r.append r2) ?_,rfl,q⟩;rw[ur];omega
 rcases hB with hB|hB
 .obtain⟨z2,cE,n2,r2,lZ,e2⟩:=I.lstR hB;exact key r2 (.inl rfl) e2 rfl rfl
 .obtain⟨cE,r2,⟨ob,hb,hc,n2,hd⟩,_⟩:=I.tuple hB;exact key r2 (.inr rfl) hb hc hd
section
variable{w:World}
end
end L2
namespace HT
open PySem PyProof.Rows
section
theorem UJ{t sl:qY}{items:Array qM}{vl vu:qM}{lo hi:pT Int}(ht:IsTup s.heap t items)(hs:s.heap.IsSliceOf sl vl vu .none)(pl:IsPart vl lo)(pu:IsPart vu hi)
  (hw:sIx items.size 0 lo=0/\sIx items.size items.size hi=items.size) (h:Q (.ref t) s):wpAny (model prog w) A (getItem (.ref t) (.ref sl)) Q E s:=by
 obtain⟨os,jB,lL,kj⟩:=id hs;have n8:s.TypeIs (.ref sl) "slice":=⟨os,jB,lL⟩;unfold getItem
 try with_reducible refine wpAny_holding ?_
 first|refine wpAny_bind (wpAny_pure ?_)|skip
 refine wpAny_bind (wpAny_sequenceKey ht.typeIs ∅ ?_)
 refine wpAny_bind (wpAny_callSpecial?_slot (name:=Str.ofString "__getitem__") ht.typeIs y4
  (wpAny_call_entry y4 ht.typeIs entry_tuple_getitem ?_ (args_tuple_getitem _ _)))
 show wpAny _ _ (Builtin.Tuple.tupleItemsOf (.ref t)>>=_) _ _ s;refine wpAny_bind (tupleItemsOf_ ht ?_);refine wpAny_bind (wpAny_typeOf n8 ?_);rw[if_pos ∅];refine wpAny_bind (Wp hs pl pu ?_);have oz:((((sIx items.size 0 lo:Nat):Int)==0&&(1:Int)==1&&(sIx items.size items.size hi-sIx items.size 0 lo)==items.size)=jD):=by
  rw[hw.1,hw.2];simp
 show wpAny _ _ (if (((sIx items.size 0 lo:Nat):Int)==0&&(1:Int)==1&&(sIx items.size items.size hi-sIx items.size 0 lo)==items.size)=jD then _ else _) _ _ s;rw[if_pos oz];refine wpAny_bind ?_;unfold Builtin.Tuple.tupleIsExact;refine wpAny_bind (wpAny_typeOf ht.typeIs ?_);refine wpAny_pure ?_;rw[if_pos ∅];refine wpAny_bind (wpAny_rule ?_);exact wpAny_pure ⟨_,rfl,wpAny_pure h⟩
end
end HT
namespace L2
open PySem PySem.Spec PyProof.Rows
def zmi(K:uk):V->pT Int->pT Int->Hp->VK->Prop:=λx lo hi H Q=>∃a xs,x= .ref a/\SqT K H a xs/\
 (HT.sIx xs.length 0 lo=0/\HT.sIx xs.length xs.length hi=xs.length->Q (.ref a) H)/\(¬(HT.sIx xs.length 0 lo=0/\HT.sIx xs.length xs.length hi=xs.length)->∀p,H p=jr->Q (.ref p) (upd H p (.tup (zcH xs lo hi))))
theorem zmj(hK:X.K=K:=by rfl):SlR X (zmi K):=by
 subst hK;intro pins s σ H x v vl vu lo hi sl Q I rx hs pl pu h;obtain⟨a,xs,rfl,hx,q1,q2⟩:=h;by_cases hw:HT.sIx xs.length 0 lo=0/\HT.sIx xs.length xs.length hi=xs.length
 .cases rx;obtain⟨ag,r,ht,hz⟩:=I.tuple hx;have hlen:ag.toArray.size=xs.length:=by rw[uD];exact r.length.symm
  refine⟨"tuple",_,y4.lookup,ht.typeIs,?_⟩;exact HT.UJ ht hs pl pu (by rw[hlen];exact hw) ⟨.ref a,H,I,rfl,q1 hw⟩
 .exact zoq pins s σ H (.ref a) v vl vu lo hi sl Q I rx hs pl pu ⟨a,xs,rfl,hx,hw,q2 hw⟩
section
variable{tg:Expr}
end
section
theorem zj2{a b c}:starEach (.Tuple a b c::r) env=(nW,eval (.Tuple a b c) env)::starEach r env:=by rw[starEach];simp
theorem zmk{a b}:starEach (.List a b::r) env=(nW,eval (.List a b) env)::starEach r env:=by rw[starEach];simp
theorem zfb{a b c}:starEach (.Constant a b c::r) env=(nW,eval (.Constant a b c) env)::starEach r env:=by rw[starEach];simp
theorem zml{a b}:starEach (.Name a b::r) env=(nW,eval (.Name a b) env)::starEach r env:=by rw[starEach];simp
theorem zd0{a b c}:starEach (.Subscript a b c::r) env=(nW,eval (.Subscript a b c) env)::starEach r env:=by rw[starEach];simp
theorem zj3{a b c d}:starEach (.BinOp a b c d::r) env=(nW,eval (.BinOp a b c d) env)::starEach r env:=by rw[starEach];simp
theorem zmm{a b c d}:starEach (.Call a b c d::r) env=(nW,eval (.Call a b c d) env)::starEach r env:=by rw[starEach];simp
theorem zd1{a b c}:starEach (.Attribute a b c::r) env=(nW,eval (.Attribute a b c) env)::starEach r env:=by rw[starEach];simp
end
end L2
namespace L2
open PySem PySem.Spec PyProof.Rows PySem.Builtin
end L2
namespace L2
open PySem PySem.Spec PyProof.Rows PySem.Calls
section
variable{w:World}{T:String}{r d:qY}{n:Nat}{P:Nat->qM->Prop}{OK:Heap->Prop}
end
section
variable{w:World}{T:String}{r d:qY}{n:Nat}{P:Nat->qM->Prop}{OK:Heap->Prop}
end
end L2
namespace L2
open PySem
inductive Xv where
 |non|bl (b:Bool)|int (i:Int)|str (x:Str)|tup (xs:List Xv)|ct (xs:List Xv)|ref (n:Nat)
inductive Ce where
 |lst (xs:List Xv)
 |frz (xs:List Xv)
 |dk (aq:List (Key×Xv))
 |dt (aq:List (List Key×Xv))
 |ins (nm:Str) (fs:List (Str×Xv))
 |fdk (aq:List (Key×Xv))
 |dn (aq:List (NK×Xv×Xv))
 |exc (nm:Str)
abbrev Sto:=pR Ce
abbrev Rho:=pR (pT Xv)
noncomputable def Ce.fz:Ce->Bool
 | .frz _=>jD
 | .fdk _=>jD
 | .exc _=>jD
 |_=>nW
noncomputable def HO.mu:HO->Bool
 | .lst _=>jD
 | .dK _=>jD
 | .dT _=>jD
 | .dN _=>jD
 | .ins _ _ _=>jD
 | .set _ _=>jD
 |_=>nW
def Ys(H H':Hp):Prop:=∀b u,H b=iJ u->u.mu=nW->H' b=iJ u
theorem Ys.refl(H:Hp):Ys H H:=λ_ _ e _=>e
theorem Ys.trans(a:Ys H H1)(b:Ys H1 H2):Ys H H2:=λx u e m=>b x u (a x u e m) m
theorem Ys.same(S:TC H H'):Ys H H':=λb u e _=>S b u e
structure Ext(j:pR qY)(H:Hp)(j':pR qY)(H':Hp):Prop where
 pre:∀(n:Nat) a,j[n]? =iJ a->j'[n]? =iJ a
 imm:Ys H H'
theorem Ext.refl:Ext j H j H:=⟨λ_ _ e=>e,Ys.refl _⟩
theorem Ext.trans(a:Ext j H j1 H1)(b:Ext j1 H1 j2 H2):Ext j H j2 H2:=⟨λn x e=>b.pre n x (a.pre n x e),a.imm.trans b.imm⟩
theorem Ext.same(S:TC H H'):Ext j H j H':=⟨λ_ _ e=>e,Ys.same S⟩
mutual
inductive Xis(K:uk)(j:List Addr)(H:Hp):Xv->V->Prop where
 |non:Xis K j H .non .non
 |bl (b:Bool):Xis K j H (.bl b) (.bl b)
 |int (i:Int):Xis K j H (.int i) (.int i)
 |str (x:Str):Xis K j H (.str x) (.str x)
 |tup {a:Addr} {vs:List V} {xs:List Xv}:H a=iJ (.tup vs)->yp K j H xs vs->Xis K j H (.tup xs) (.ref a)
 |ct {a:Addr} {vs:List V} {xs:List Xv}:(∀H,SqT K H a vs)->yp K j H xs vs->Xis K j H (.ct xs) (.ref a)
 |ref {n:Nat} {a:Addr}:j[n]? =iJ a->Xis K j H (.ref n) (.ref a)
inductive yp(K:uk)(j:List Addr)(H:Hp):List Xv->List V->Prop where
 |nil:yp K j H [] []
 |cons {x:Xv} {v:V} {xs:List Xv} {vs:List V}:Xis K j H x v->yp K j H xs vs->yp K j H (x::xs) (v::vs)
end
theorem Xis.mono(S:Ext j H j' H'){x:Xv}{v:V}(h:Xis K j H x v):Xis K j' H' x v:=@Xis.rec K j H (λx v _=>Xis K j' H' x v) (λx v _=>yp K j' H' x v) .non (λb=> .bl b) (λb=> .int b) (λb=> .str b) (λh _ l=> .tup (S.imm _ _ h rfl) l) (λh _ l=> .ct h l) (λh=> .ref (S.pre _ _ h)) .nil (λ_ _ a b=> .cons a b) _ _ h
theorem yp.mono(S:Ext j H j' H'){x:pR Xv}{v:pR V}(h:yp K j H x v):yp K j' H' x v:=by
 induction x generalizing v with
 |nil=>cases h;exact .nil
 |cons x r i=>cases h with|cons a b=>exact .cons (a.mono S) (i b)
section
variable{j:pR qY}
theorem yp.len{xs:pR Xv}{vs:pR V}(h:yp K j H xs vs):vs.length=xs.length:=by
 induction xs generalizing vs with
 |nil=>cases h;rfl
 |cons v r i=>cases h with|cons _ l=>rw[uw,uw,i l]
theorem yp.get{xs:pR Xv}{vs:pR V}{i:Nat}{x:Xv}(h:yp K j H xs vs)(e:xs[i]? =iJ x):∃v,vs[i]? =iJ v/\Xis K j H x v:=by
 induction xs generalizing vs i with
 |nil=>simp at e
 |cons v r k=>cases h with|cons q l=>cases i with
  |zero=>simp at e;subst e;exact⟨_,rfl,q⟩
  |succ i=>have:=k l e;exact this
theorem yp.append{xs ys:pR Xv}{vs ws:pR V}(h:yp K j H xs vs)(g:yp K j H ys ws):yp K j H (xs++ys) (vs++ws):=by
 induction xs generalizing vs with
 |nil=>cases h;exact g
 |cons v r i=>cases h with|cons h l=>exact .cons h (i l)
theorem yp.one(h:Xis K j H x v):yp K j H [x] [v]:= .cons h .nil
theorem yp.take{xs:pR Xv}{vs:pR V}(n:Nat)(h:yp K j H xs vs):yp K j H (xs.take n) (vs.take n):=by
 induction n generalizing xs vs with
 |zero=>exact .nil
 |succ n i=>cases h with
  |nil=>exact .nil
  |cons h l=>exact .cons h (i l)
theorem yp.drop{xs:pR Xv}{vs:pR V}(n:Nat)(h:yp K j H xs vs):yp K j H (xs.drop n) (vs.drop n):=by
 induction n generalizing xs vs with
 |zero=>exact h
 |succ n i=>cases h with
  |nil=>exact .nil
  |cons h l=>exact i l
theorem yp.ints:∀ns:pR Int,yp K j H (ns.map Xv.int) (ns.map V.int)
 |[]=> .nil
 |n::r=> .cons (.int n) (yp.ints r)
theorem yp.set(hv:Xis K j H x v){xs:pR Xv}{vs:pR V}(n:Nat)(h:yp K j H xs vs):yp K j H (xs.set n x) (vs.set n v):=by
 induction n generalizing xs vs with
 |zero=>cases h with
  |nil=>exact .nil
  |cons _ l=>exact .cons hv l
 |succ n i=>cases h with
  |nil=>exact .nil
  |cons h l=>exact .cons h (i l)
theorem yp.dropLast(h:yp K j H xs vs):yp K j H xs.dropLast vs.dropLast:=by
 rw[D7,D7,h.len];exact h.take _
theorem yp.at_(h:yp K j H xs vs)(e:atI xs i=iJ x):∃v,atI vs i=iJ v/\Xis K j H x v:=by
 unfold atI at e ⊢;rw[h.len];cases e1:ixN xs.length i with
 |none=>rw[e1] at e;cases e
 |some m=>
  rw[e1] at e;obtain⟨v,e3,e4⟩:=h.get (i:=m) e;exact⟨v,e3,e4⟩
theorem Xis.int_inv(h:Xis K j H (.int i) v):v= .int i:=by cases h;rfl
theorem Xis.bl_inv(h:Xis K j H (.bl b) v):v= .bl b:=by cases h;rfl
theorem Xis.str_inv(h:Xis K j H (.str b) v):v= .str b:=by cases h;rfl
theorem Xis.non_inv(h:Xis K j H .non v):v= .non:=by cases h;rfl
theorem Xis.ref_inv(h:Xis K j H (.ref n) v):∃a,v= .ref a/\j[n]? =iJ a:=by cases h with|ref e=>exact⟨_,rfl,e⟩
theorem Xis.tup_inv(h:Xis K j H (.tup xs) v):∃a vs,v= .ref a/\H a=iJ (.tup vs)/\yp K j H xs vs:=by cases h with|tup a b=>exact⟨_,_,rfl,a,b⟩
theorem yp.cons_inv(h:yp K j H (x::xs) vs):∃v r,vs=v::r/\Xis K j H x v/\yp K j H xs r:=by cases h with|cons a b=>exact⟨_,_,rfl,a,b⟩
theorem yp.nil_inv(h:yp K j H [] vs):vs=[]:=by cases h;rfl
theorem yp.d1(h:yp K j H [a] vs):∃x,vs=[x]/\Xis K j H a x:=by
 obtain⟨x,r,rfl,hx,h⟩:=h.cons_inv;obtain rfl:=h.nil_inv;exact⟨x,rfl,hx⟩
theorem yp.d2(h:yp K j H [a,b] vs):∃x y,vs=[x,y]/\Xis K j H a x/\Xis K j H b y:=by
 obtain⟨x,r,rfl,hx,h⟩:=h.cons_inv;obtain⟨y,rfl,hy⟩:=h.d1;exact⟨x,y,rfl,hx,hy⟩
noncomputable def Xv.tupOf:Xv->pT (pR Xv)
 | .tup xs=>iJ xs
 | .ct xs=>iJ xs
 |_=>jr
theorem Xis.tupO(h:Xis K j H x v)(e:x.tupOf=iJ xs):∃a vs,v= .ref a/\SqT K H a vs/\yp K j H xs vs:=by
 cases h with
 |tup h l=>simp[Xv.tupOf] at e;subst e;exact⟨_,_,rfl,SqT.of h,l⟩
 |ct h l=>simp[Xv.tupOf] at e;subst e;exact⟨_,_,rfl,h H,l⟩
 |_=>simp[Xv.tupOf] at e
end
inductive KX{κ:Type}(K:uk)(j:List Addr)(H:Hp):List (κ×Xv)->List (κ×V)->Prop where
 |nil:KX K j H [] []
 |cons {k:κ} {x:Xv} {v:V} {r:List (κ×Xv)} {rs:List (κ×V)}:Xis K j H x v->KX K j H r rs->KX K j H ((k,x)::r) ((k,v)::rs)
theorem KX.mono{κ:Type}(S:Ext j H j' H'){xs:pR (κ×Xv)}{vs:pR (κ×V)}(h:KX K j H xs vs):KX K j' H' xs vs:=by
 induction h with
 |nil=>exact .nil
 |cons h l i=>exact .cons (h.mono S) i
mutual
noncomputable def zqm:Xv->pT NK
 | .int i=>iJ (.int i)
 | .str x=>iJ (.str x)
 | .tup l=>(zj4 l).map .tup
 | .ct l=>(zj4 l).map .tup
 | .non=>jr
 | .bl _=>jr
 | .ref _=>jr
noncomputable def zj4:pR Xv->pT (pR NK)
 |[]=>iJ []
 |x::r=>(zqm x).bind λk=>(zj4 r).map (k:: ·)
end
inductive NX(K:uk)(j:List Addr)(H:Hp):List (NK×Xv×Xv)->List (NK×Addr×V)->Prop where
 |nil:NX K j H [] []
 |cons {k:NK} {x y:Xv} {b:Addr} {v:V} {r:List (NK×Xv×Xv)} {rs:List (NK×Addr×V)}:zqm x=iJ k/\zlN k<=8->Xis K j H x (.ref b)->Xis K j H y v->NX K j H r rs->NX K j H ((k,x,y)::r) ((k,b,v)::rs)
theorem NX.mono(S:Ext j H j' H'){xs:pR (NK×Xv×Xv)}{vs:pR (NK×qY×V)}(h:NX K j H xs vs):NX K j' H' xs vs:=by
 induction h with
 |nil=>exact .nil
 |cons e h g l i=>exact .cons e (h.mono S) (g.mono S) i
def zcO(K:uk)(j:pR qY)(H:Hp)(a:qY):Ce->Prop
 | .lst xs=>∃vs,H a=iJ (.lst vs)/\yp K j H xs vs
 | .frz xs=>∃vs,((∃o,H a=iJ (.frz o (.lst vs)))\/∀H,SqX K H a vs)/\yp K j H xs vs
 | .dk aq=>∃ks:pR (Key×V),H a=iJ (.dK ks)/\KX K j H aq ks
 | .dt aq=>∃ks:pR (pR Key×V),H a=iJ (.dT ks)/\KX K j H aq ks
 | .ins nm fs=>∃(C dx:qY) (vs:pR (Str×V)),uC K mainGlobals nm=iJ (iJ (.ref C))/\H a=iJ (.ins C dx vs)/\KX K j H fs vs
 | .fdk aq=>∃(o:Obj) (ks:pR (Key×V)),H a=iJ (.frz o (.dK ks))/\KX K j H aq ks
 | .dn aq=>∃ks:pR (NK×qY×V),H a=iJ (.dN ks)/\NX K j H aq ks
 | .exc nm=>∃C:qY,uC K mainGlobals nm=iJ (iJ (.ref C))/\H a=iJ (zdW a (.ref C))
theorem zcO.mu{c:Ce}(h:zcO K j H a c)(z:c.fz=nW):∃o,H a=iJ o/\o.mu=jD:=by
 cases c with
 |frz=>cases z
 |fdk=>cases z
 |exc=>cases z
 |ins=>obtain⟨_,_,_,_,e,_⟩:=h;exact⟨_,e,rfl⟩
 |_=>obtain⟨_,e,_⟩:=h;exact⟨_,e,rfl⟩
theorem zcO.mono(S:Ext j H j' H'){c:Ce}(g:c.fz=nW->H' a=H a)(h:zcO K j H a c):zcO K j' H' a c:=by
 cases c with
 |frz=>
  obtain⟨_,⟨o,e⟩|e,l⟩:=h
  .exact⟨_,.inl ⟨o,S.imm _ _ e rfl⟩,l.mono S⟩
  .exact⟨_,.inr e,l.mono S⟩
 |ins=>obtain⟨_,_,_,n,e,l⟩:=h;exact⟨_,_,_,n,(g rfl).trans e,l.mono S⟩
 |fdk=>obtain⟨_,_,e,l⟩:=h;exact⟨_,_,S.imm _ _ e rfl,l.mono S⟩
 |exc=>obtain⟨C,n,e⟩:=h;exact⟨C,n,S.imm _ _ e rfl⟩
 |_=>obtain⟨_,e,l⟩:=h;exact⟨_,(g rfl).trans e,l.mono S⟩
structure Fm where
 H0:Hp
 j0:pR qY
 S0:Sto
structure En(K:uk)(F:Fm)(j:pR qY)(H:Hp)(σ:St)(ρ:Rho)(S:Sto):Prop where
 len:σ.length=ρ.length
 slot:∀(i:Nat) x,ρ[i]? =iJ (iJ x)->∃v,σ[i]? =iJ (iJ v)/\Xis K j H x v
 jl:j.length=S.length
 inj:∀(n m:Nat) a c d,j[n]? =iJ a->j[m]? =iJ a->S[n]? =iJ c->S[m]? =iJ d->c.fz=nW->d.fz=nW->n=m
 cel:∀(n:Nat) c a,S[n]? =iJ c->j[n]? =iJ a->zcO K j H a c
 ext:Ext F.j0 F.H0 j H
 old:∀(n:Nat) c,F.S0[n]? =iJ c->∃c',S[n]? =iJ c'/\(c'.fz=nW->c.fz=nW)/\(c.fz=jD->c'=c)
 l0:F.j0.length=F.S0.length
 keep:∀b u,F.H0 b=iJ u->H b=iJ u\/∃(n:Nat) (c:Ce),F.j0[n]? =iJ b/\F.S0[n]? =iJ c/\c.fz=nW
 fresh:∀(n:Nat) a,F.j0.length<=n->j[n]? =iJ a->F.H0 a=jr
 dom:∀b,H b=jr->F.H0 b=jr
section
variable{F:Fm}{j j':pR qY}{H':Hp}{σ':St}{ρ ρ':Rho}{S S':Sto}{v:V}{x:Xv}{a p:qY}{o:HO}{i n:Nat}{c c':Ce}
theorem En.heap(E:En K F j H σ ρ S)(Sm:TC H H'):En K F j H' σ ρ S:=by
 have X:Ext j H j H':=Ext.same Sm;refine⟨E.len,λi x e=> ?_,E.jl,E.inj,λn c a e1 e2=> ?_,E.ext.trans X,E.old,E.l0,λb u e=> ?_,E.fresh,λb e=>E.dom b ?_⟩
 .obtain⟨v,e1,e2⟩:=E.slot i x e;exact⟨v,e1,e2.mono X⟩
 .have h:=E.cel n c a e1 e2;refine h.mono X λz=> ?_;obtain⟨o,e,_⟩:=h.mu z;exact(Sm _ _ e).trans e.symm
 .rcases E.keep b u e with h|h
  .exact .inl (Sm _ _ h)
  .exact .inr h
 .cases e':H b with
  |none=>rfl
  |some u=>rw[Sm b u e'] at e;cases e
theorem En.new(E:En K F j H σ ρ S)(h:H p=jr):En K F j (upd H p o) σ ρ S/\Ext j H j (upd H p o):=⟨E.heap (Xc h),Ext.same (Xc h)⟩
theorem En.cell(E:En K F j H σ ρ S)(h:H p=jr)(hc:zcO K (j++[p]) (upd H p o) p c):En K F (j++[p]) (upd H p o) σ ρ (S++[c])/\Ext j H (j++[p]) (upd H p o):=by
 have X:Ext j H (j++[p]) (upd H p o):=⟨λn a e=>by rw[uB (uq.1 e).1];exact e,Ys.same (Xc h)⟩;have kK:∀{n:Nat} {a:qY},(j++[p])[n]? =iJ a->j[n]? =iJ a\/(n=j.length/\a=p):=λ{n a} e=>by
  by_cases hn:n<j.length
  .rw[uB hn] at e;exact .inl e
  .rw[uL ⋯] at e;cases hm:n-j.length with
   |zero=>rw[hm] at e;simp at e;exact .inr ⟨⋯,e.symm⟩
   |succ m=>rw[hm] at e;simp at e
 have sat:∀{n:Nat} {d:Ce},(S++[c])[n]? =iJ d->S[n]? =iJ d\/(n=S.length/\d=c):=λ{n d} e=>by
  by_cases hn:n<S.length
  .rw[uB hn] at e;exact .inl e
  .rw[uL ⋯] at e;cases hm:n-S.length with
   |zero=>rw[hm] at e;simp at e;exact .inr ⟨⋯,e.symm⟩
   |succ m=>rw[hm] at e;simp at e
 have lt:∀{n:Nat} {d:Ce},S[n]? =iJ d->n<S.length:=λe=>(uq.1 e).1;have lg:∀{n:Nat} {a:qY} {d:Ce},j[n]? =iJ a->S[n]? =iJ d->d.fz=nW->a≠p:=λ{n a d} e1 e2 z q=>by
  subst q;obtain⟨o',e,_⟩:=(E.cel n d a e2 e1).mu z;rw[h] at e;cases e
 refine⟨⟨E.len,λi x e=> ?_,by simp[E.jl],λn m a c1 c2 e1 e2 e3 e4 z1 z2=> ?_,λn d a e1 e2=> ?_,E.ext.trans X,λn d e=> ?_,E.l0,λb u e=> ?_,λn a hn e=> ?_,λb e=> ?_⟩,X⟩
 .obtain⟨v,e1,e2⟩:=E.slot i x e;exact⟨v,e1,e2.mono X⟩
 .rcases sat e3 with e3|⟨e3,_⟩
  .have h1:j[n]? =iJ a:=by
    rcases kK e1 with h1|⟨h1,_⟩
    .exact h1
    .have:=lt e3;rw[E.jl] at h1;omega
   rcases sat e4 with e4|⟨e4,_⟩
   .have h2:j[m]? =iJ a:=by
     rcases kK e2 with h2|⟨h2,_⟩
     .exact h2
     .have:=lt e4;rw[E.jl] at h2;omega
    exact E.inj n m a c1 c2 h1 h2 e3 e4 z1 z2
   .have:a=p:=by
     rcases kK e2 with h2|⟨_,h2⟩
     .have:=(uq.1 h2).1;rw[E.jl] at this;omega
     .exact h2
    exact absurd this (lg h1 e3 z1)
  .have:a=p:=by
    rcases kK e1 with h2|⟨_,h2⟩
    .have:=(uq.1 h2).1;rw[E.jl] at this;omega
    .exact h2
   rcases sat e4 with e4|⟨e4,_⟩
   .have h2:j[m]? =iJ a:=by
     rcases kK e2 with h2|⟨h2,_⟩
     .exact h2
     .have:=lt e4;rw[E.jl] at h2;omega
    exact absurd this (lg h2 e4 z2)
   .rw[e3,e4]
 .rcases sat e1 with e1|⟨e1,rfl⟩
  .have h2:j[n]? =iJ a:=by
    rcases kK e2 with h2|⟨h2,_⟩
    .exact h2
    .have:=lt e1;rw[E.jl] at h2;omega
   have hh:=E.cel n d a e1 h2;exact hh.mono X λz=>yi (lg h2 e1 z)
  .have:a=p:=by
    rcases kK e2 with h2|⟨_,h2⟩
    .have:=(uq.1 h2).1;rw[E.jl] at this;omega
    .exact h2
   subst this;exact hc
 .obtain⟨d',e1,e2⟩:=E.old n d e;exact⟨d',by rw[uB (lt e1)];exact e1,e2⟩
 .rcases E.keep b u e with h'|h'
  .exact .inl (Xc h _ _ h')
  .exact .inr h'
 .rcases kK e with e|⟨_,rfl⟩
  .exact E.fresh n a hn e
  .exact E.dom _ h
 .refine E.dom b ?_;cases e':H b with
  |none=>rfl
  |some u=>rw[Xc h b u e'] at e;cases e
set_option tactic.hygienic true in
theorem En.writeF(E:En K F j H σ ρ S)(hs:S[n]? =iJ c)(z:c.fz=nW)(hj:j[n]? =iJ a)(hc:∀X:Ext j H j (upd H a o),zcO K j (upd H a o) a c'):En K F j (upd H a o) σ ρ (S.set n c')/\Ext j H j (upd H a o):=by
 obtain⟨o0,h0,m0⟩:=(E.cel n c a hs hj).mu z
 have X:Ext j H j (upd H a o):=⟨λ_ _ e=>e,λb u e m=>by
  have:b≠a:=λq=>by subst q;rw[h0] at e;cases e;rw[m] at m0;cases m0
  rw[yi this];exact e⟩
 have sat:∀{m:Nat} {d:Ce},(S.set n c')[m]? =iJ d->(m=n/\d=c')\/(m≠n/\S[m]? =iJ d):=λ{m d} e=>by
  rw[Ai] at e;split at e
  .rename_i q;split at e
   .cases e;exact .inl ⟨q.symm,rfl⟩
   .cases e
  .rename_i q;exact .inr ⟨λr=>q r.symm,e⟩
 have qJ:∀{m:Nat} {d:Ce},(S.set n c')[m]? =iJ d->∃d',S[m]? =iJ d'/\(d.fz=nW->d'.fz=nW):=λ{m d} e=>by
  rcases sat e with⟨rfl,rfl⟩|⟨_,e⟩
  .exact⟨c,hs,λ_=>z⟩
  .exact⟨d,e,λy=>y⟩
 refine⟨⟨E.len,λi x e=> ?_,by simp[E.jl],λk m b c1 c2 e1 e2 e3 e4 z1 z2=> ?_,λm d b e1 e2=> ?_,E.ext.trans X,λm d e=> ?_,E.l0,λb u e=> ?_,E.fresh,λb e=> ?_⟩,X⟩
 .obtain⟨v,e1,e2⟩:=E.slot i x e;exact⟨v,e1,e2.mono X⟩
 .obtain⟨d1,f1,g1⟩:=qJ e3;obtain⟨d2,f2,g2⟩:=qJ e4;exact E.inj k m b d1 d2 e1 e2 f1 f2 (g1 z1) (g2 z2)
 .rcases sat e1 with⟨rfl,rfl⟩|⟨q,e1⟩
  .rw[hj] at e2;cases e2;exact hc X
  .refine (E.cel m d b e1 e2).mono X λzd=>yi λr=> ?_;subst r;exact q (E.inj m n b d c e2 hj e1 hs zd z)
 .obtain⟨d',e1,e2,e3⟩:=E.old m d e;by_cases q:m=n
  .subst q;rw[hs] at e1;cases e1;refine⟨c',by rw[Ai,if_pos rfl,if_pos (uq.1 hs).1],λ_=>e2 z,λy=> ?_⟩;rw[e2 z] at y;cases y
  .exact⟨d',by rw[Ai,if_neg (λr=>q r.symm)];exact e1,e2,e3⟩
 .by_cases q:b=a
  .subst q;by_cases hn:n<F.j0.length
   .have sI:F.j0[n]? =iJ b:=by
     have e1:F.j0[n]? =iJ F.j0[n]:=uo hn;have e2:=E.ext.pre n _ e1;rw[hj] at e2;cases e2;exact e1
    have jc:n<F.S0.length:=by rw[<-E.l0];exact hn
    obtain⟨d',f1,f2,_⟩:=E.old n _ (uo jc);rw[hs] at f1;cases f1;exact .inr ⟨n,_,sI,uo jc,f2 z⟩
   .rw[E.fresh n b ⋯ hj] at e;cases e
  .rcases E.keep b u e with h|h
   .exact .inl (by rw[yi q];exact h)
   .exact .inr h
 .by_cases q:b=a
  .subst q;rw[yH] at e;cases e
  .rw[yi q] at e;exact E.dom b e
theorem En.write(E:En K F j H σ ρ S)(hs:S[n]? =iJ c)(z:c.fz=nW)(hj:j[n]? =iJ a)(_:c'.fz=nW)(hc:∀X:Ext j H j (upd H a o),zcO K j (upd H a o) a c'):En K F j (upd H a o) σ ρ (S.set n c')/\Ext j H j (upd H a o):=E.writeF hs z hj hc
theorem En.slots(E:En K F j H σ ρ S)(hl:σ'.length=ρ'.length)(h:∀(i:Nat) x,ρ'[i]? =iJ (iJ x)->∃v,σ'[i]? =iJ (iJ v)/\Xis K j H x v):En K F j H σ' ρ' S:=
 ⟨hl,h,E.jl,E.inj,E.cel,E.ext,E.old,E.l0,E.keep,E.fresh,E.dom⟩
theorem En.back(E:En K F j H σ ρ S)(X:En K F j' H' σ' ρ' S')(e:Ext j H j' H'):En K F j' H' σ ρ S':=X.slots E.len λi x h=>by
 obtain⟨v,e1,e2⟩:=E.slot i x h;exact⟨v,e1,e2.mono e⟩
set_option tactic.hygienic true in
theorem En.set(E:En K F j H σ ρ S)(h:Xis K j H x v):En K F j H (σ.set i (iJ v)) (ρ.set i (iJ x)) S:=E.slots (by simp[E.len]) λk y e=>by
 rw[Ai] at e ⊢;split at e
 .rename_i q;subst q;split at e
  .rename_i hl;cases e;rw[if_pos rfl,if_pos (by rw[E.len];exact hl)];exact⟨v,rfl,h⟩
  .cases e
 .rename_i q;rw[if_neg q];exact E.slot k y e
theorem En.enter(E:En K F j H σ ρ S)(hl:σ'.length=ρ'.length)(h:∀(i:Nat) x,ρ'[i]? =iJ (iJ x)->∃v,σ'[i]? =iJ (iJ v)/\Xis K j H x v):En K ⟨H,j,S⟩ j H σ' ρ' S:=
 ⟨hl,h,E.jl,E.inj,E.cel,Ext.refl,λn c e=>⟨c,e,λz=>z,λ_=>rfl⟩,E.jl,λb u e=> .inl e,λn a hn e=>by have:=(uq.1 e).1;dsimp only at hn;omega,λb e=>e⟩
theorem En.leave(E:En K F j H σ ρ S)(X:En K ⟨H,j,S⟩ j' H' σ' ρ' S'):En K F j' H' σ ρ S'/\Ext j H j' H':=by
 have e:Ext j H j' H':=X.ext;refine⟨⟨E.len,λi x h=> ?_,X.jl,X.inj,X.cel,E.ext.trans e,λn c h=> ?_,E.l0,λb u h=> ?_,λn a hn h=> ?_,λb h=>E.dom b (X.dom b h)⟩,e⟩
 .obtain⟨v,e1,e2⟩:=E.slot i x h;exact⟨v,e1,e2.mono e⟩
 .obtain⟨c1,e1,e2,e3⟩:=E.old n c h;obtain⟨c2,f1,f2,f3⟩:=X.old n c1 e1;refine⟨c2,f1,λz=>e2 (f2 z),λz=> ?_⟩;obtain rfl:=e3 z;exact f3 z
 .rcases E.keep b u h with h1|h1
  .rcases X.keep b u h1 with h2|⟨n,c,h2,h3,h4⟩
   .exact .inl h2
   .by_cases hn:n<F.j0.length
    .have e1:F.j0[n]? =iJ F.j0[n]:=uo hn;have e2:=E.ext.pre n _ e1;have lQ:j[n]? =iJ b:=h2;rw[lQ] at e2;cases e2;have jc:n<F.S0.length:=by rw[<-E.l0];exact hn
     obtain⟨c1,f1,f2,_⟩:=E.old n _ (uo jc);have kG:S[n]? =iJ c:=h3;rw[kG] at f1;cases f1;exact .inr ⟨n,_,e1,uo jc,f2 h4⟩
    .have:=E.fresh n b ⋯ h2;rw[this] at h;cases h
  .exact .inr h1
 .by_cases hm:n<j.length
  .have e1:j[n]? =iJ j[n]:=uo hm;have e2:=e.pre n _ e1;rw[h] at e2;cases e2;exact E.fresh n _ hn e1
  .exact E.dom a (X.fresh n a (by dsimp only;omega) h)
theorem En.grow(E:En K F j H σ ρ S):En K F j H (σ++uI k jr) (ρ++uI k jr) S:=E.slots (by simp[E.len]) λi x e=>by
 by_cases hi:i<ρ.length
 .rw[uB hi] at e;rw[uB (by rw[E.len];exact hi)];exact E.slot i x e
 .rw[uL ⋯,BO] at e;split at e
  .cases e
  .cases e
end
inductive Rs(α:Type) where
 |ok (a:α) (S:Sto)
 |ex (c:Str) (S:Sto)
abbrev TwE:=Rho->Sto->pT (Rs Xv)
abbrev TwT:=Rho->Sto->pT (Rs Bool)
abbrev TwL:=Rho->Sto->pT (Rs (pR Xv))
abbrev TwO:=Rho->Sto->pT (Rs (pT Int))
abbrev TwG:=Xv->Rho->Sto->pT (Rs Rho)
abbrev zgy:=pR Xv->Rho->Sto->pT (Rs Rho)
abbrev TwI:=Rho->Sto->pT (Rs (Sto->pT (pR Xv)))
inductive Fl where
 |nx (ρ:Rho) (S:Sto)
 |bk (ρ:Rho) (S:Sto)
 |ct (ρ:Rho) (S:Sto)
 |rt (x:Xv) (S:Sto)
 |ex (c:Str) (S:Sto)
abbrev TwS:=Rho->Sto->pT Fl
noncomputable def rb{α β:Type}(m:pT (Rs α))(f:α->Sto->pT (Rs β)):pT (Rs β):=match m with
 |some (.ok a S)=>f a S
 |some (.ex c S)=>iJ (.ex c S)
 |none=>jr
noncomputable def sb{α:Type}(m:pT (Rs α))(f:α->Sto->pT Fl):pT Fl:=match m with
 |some (.ok a S)=>f a S
 |some (.ex c S)=>iJ (.ex c S)
 |none=>jr
theorem zB{α β:Type}{m:pT (Rs α)}{f:α->Sto->pT (Rs β)}{r:Rs β}(h:rb m f=iJ r):(∃a S,m=iJ (.ok a S)/\f a S=iJ r)\/∃c S,m=iJ (.ex c S)/\r= .ex c S:=by
 unfold rb at h;split at h
 .exact .inl ⟨_,_,rfl,h⟩
 .cases h;exact .inr ⟨_,_,rfl,rfl⟩
 .cases h
theorem wB{α:Type}{m:pT (Rs α)}{f:α->Sto->pT Fl}{r:Fl}(h:sb m f=iJ r):(∃a S,m=iJ (.ok a S)/\f a S=iJ r)\/∃c S,m=iJ (.ex c S)/\r= .ex c S:=by
 unfold sb at h;split at h
 .exact .inl ⟨_,_,rfl,h⟩
 .cases h;exact .inr ⟨_,_,rfl,rfl⟩
 .cases h
def PX(K:uk)(F:Fm)(j:pR qY)(H:Hp)(E:XK)(c:Str)(S':Sto):Prop:=
 ∀j' H' σ' ρ' C,Ext j H j' H'->En K F j' H' σ' ρ' S'->uC K mainGlobals c=iJ (iJ (.ref C))->E (.ref C) jr H'
theorem PX.mono{E:XK}(h:PX K F j H E c S')(e:Ext j H j1 H1):PX K F j1 H1 E c S':=λj' H' σ' ρ' C x y z=>h j' H' σ' ρ' C (e.trans x) y z
def Po{α:Type}(K:uk)(F:Fm)(j:pR qY)(H:Hp)(σ:St)(ρ:Rho)(E:XK)(P:α->pR qY->Hp->Prop):Rs α->Prop
 | .ok a S'=>∀j' H',Ext j H j' H'->En K F j' H' σ ρ S'->P a j' H'
 | .ex c S'=>PX K F j H E c S'
theorem Po.step{α:Type}{ρ:Rho}{E:XK}{P:α->pR qY->Hp->Prop}{r:Rs α}(h:Po K F j H σ ρ E P r)(e:Ext j H j1 H1):Po K F j1 H1 σ ρ E P r:=by
 cases r with
 |ok a S=>exact λj' H' x y=>h j' H' (e.trans x) y
 |ex c S=>exact PX.mono h e
noncomputable abbrev PoV(K:uk)(Q:VK):Xv->pR qY->Hp->Prop:=λx j' H'=>∀v,Xis K j' H' x v->Q v H'
def RE(K:uk)(E:XK)(t:TE)(m:TwE):Prop:=∀{F:Fm} {j:pR qY} {σ:St} {H:Hp} {ρ:Rho} {S:Sto} {r:Rs Xv} {Q:VK},En K F j H σ ρ S->m ρ S=iJ r->Po K F j H σ ρ E (PoV K Q) r->t σ H Q
def RT(K:uk)(E:XK)(t:TT)(m:TwT):Prop:=∀{F:Fm} {j:pR qY} {σ:St} {H:Hp} {ρ:Rho} {S:Sto} {r:Rs Bool} {Q:Bool->Hp->Prop},En K F j H σ ρ S->m ρ S=iJ r->Po K F j H σ ρ E (λb _ H'=>Q b H') r->t σ H Q
def RL(K:uk)(E:XK)(t:TA)(m:TwL):Prop:=∀{F:Fm} {j:pR qY} {σ:St} {H:Hp} {ρ:Rho} {S:Sto} {r:Rs (pR Xv)} {Q:pR V->Hp->Prop},En K F j H σ ρ S->m ρ S=iJ r->Po K F j H σ ρ E (λxs j' H'=>∀vs,yp K j' H' xs vs->Q vs H') r->t σ H Q
def RO(K:uk)(E:XK)(t:TO)(m:TwO):Prop:=∀{F:Fm} {j:pR qY} {σ:St} {H:Hp} {ρ:Rho} {S:Sto} {r:Rs (pT Int)} {Q:pT Int->Hp->Prop},En K F j H σ ρ S->m ρ S=iJ r->Po K F j H σ ρ E (λo _ H'=>Q o H') r->t σ H Q
def PoG(K:uk)(F:Fm)(j:pR qY)(H:Hp)(E:XK)(R:St->Hp->Prop):Rs Rho->Prop
 | .ok ρ' S'=>∀σ' j' H',Ext j H j' H'->En K F j' H' σ' ρ' S'->R σ' H'
 | .ex c S'=>PX K F j H E c S'
theorem PoG.step{E:XK}{R:St->Hp->Prop}{r:Rs Rho}(h:PoG K F j H E R r)(e:Ext j H j1 H1):PoG K F j1 H1 E R r:=by
 cases r with
 |ok a S=>exact λσ' j' H' x y=>h σ' j' H' (e.trans x) y
 |ex c S=>exact PX.mono h e
def RG(K:uk)(E:XK)(t:TG)(g:TwG):Prop:=∀{F:Fm} {j:pR qY} {σ:St} {H:Hp} {ρ:Rho} {S:Sto} {r:Rs Rho} {x:Xv} {v:V} {R:St->Hp->Prop},En K F j H σ ρ S->Xis K j H x v->g x ρ S=iJ r->PoG K F j H E R r->t v σ H R
def RGs(K:uk)(E:XK)(t:TGs)(g:zgy):Prop:=∀{F:Fm} {j:pR qY} {σ:St} {H:Hp} {ρ:Rho} {S:Sto} {r:Rs Rho} {xs:pR Xv} {vs:pR V} {R:St->Hp->Prop},En K F j H σ ρ S->yp K j H xs vs->g xs ρ S=iJ r->PoG K F j H E R r->t vs σ H R
def zmn(K:uk)(F:Fm)(j:pR qY)(H:Hp)(E:XK)(D':Tu):Fl->Prop
 | .nx ρ S=>∀σ j' H',Ext j H j' H'->En K F j' H' σ ρ S->D'.nx σ H'
 | .bk ρ S=>∀σ j' H',Ext j H j' H'->En K F j' H' σ ρ S->D'.bk σ H'
 | .ct ρ S=>∀σ j' H',Ext j H j' H'->En K F j' H' σ ρ S->D'.ct σ H'
 | .rt x S=>∀v σ ρ j' H',Ext j H j' H'->En K F j' H' σ ρ S->Xis K j' H' x v->D'.rt v H'
 | .ex c S=>PX K F j H E c S
theorem zmn.step{E:XK}{fl:Fl}(h:zmn K F j H E D' fl)(e:Ext j H j1 H1):zmn K F j1 H1 E D' fl:=by
 cases fl with
 |rt=>exact λv σ ρ j' H' x y z=>h v σ ρ j' H' (e.trans x) y z
 |ex=>exact PX.mono h e
 |_=>exact λσ j' H' x y=>h σ j' H' (e.trans x) y
def RS(K:uk)(E:XK)(t:TS)(m:TwS):Prop:=∀{F:Fm} {j:pR qY} {D':Tu} {σ:St} {H:Hp} {ρ:Rho} {S:Sto} {fl:Fl},En K F j H σ ρ S->m ρ S=iJ fl->zmn K F j H E D' fl->t D' σ H
def zoC(K:uk)(j:pR qY)(H:Hp)(J:It)(get:Sto->pT (pR Xv)):Prop:=∀{F:Fm} {j':pR qY} {H':Hp} {σ:St} {ρ:Rho} {S:Sto} {xs:pR Xv} (i:Nat),Ext j H j' H'->En K F j' H' σ ρ S->get S=iJ xs->
 (∀x,xs[i]? =iJ x->J.go i H'/\∀v H'',J.yld i H' v H''->TC H' H''/\Xis K j' H'' x v)/\(i=xs.length->J.stop i H')
def RI(K:uk)(E:XK)(t:TI)(m:TwI):Prop:=∀{F:Fm} {j:pR qY} {σ:St} {H:Hp} {ρ:Rho} {S:Sto} {r:Rs (Sto->pT (pR Xv))} {R:It->Hp->Prop},En K F j H σ ρ S->m ρ S=iJ r->Po K F j H σ ρ E (λget j' H'=>∀J,zoC K j' H' J get->R J H') r->t σ H R
abbrev Op2:=Xv->Xv->Sto->pT (Xv×Sto)
abbrev Opn:=pR Xv->Sto->pT (Xv×Sto)
def Xy(K:uk)(r:R2)(f:Op2):Prop:=∀{F:Fm} {j:pR qY} {σ:St} {H:Hp} {ρ:Rho} {S S':Sto} {x y z:Xv} {u v:V} {Q:VK},En K F j H σ ρ S->Xis K j H x u->Xis K j H y v->f x y S=iJ (z,S')->(∀w j' H',Ext j H j' H'->En K F j' H' σ ρ S'->Xis K j' H' z w->Q w H')->r u v H Q
def zqn(K:uk)(r:V->Hp->VK->Prop)(f:Xv->Sto->pT (Xv×Sto)):Prop:=∀{F:Fm} {j:pR qY} {σ:St} {H:Hp} {ρ:Rho} {S S':Sto} {x z:Xv} {u:V} {Q:VK},En K F j H σ ρ S->Xis K j H x u->f x S=iJ (z,S')->(∀w j' H',Ext j H j' H'->En K F j' H' σ ρ S'->Xis K j' H' z w->Q w H')->r u H Q
def Td(K:uk)(r:pR V->Hp->VK->Prop)(f:Opn):Prop:=∀{F:Fm} {j:pR qY} {σ:St} {H:Hp} {ρ:Rho} {S S':Sto} {xs:pR Xv} {z:Xv} {vs:pR V} {Q:VK},En K F j H σ ρ S->yp K j H xs vs->f xs S=iJ (z,S')->(∀w j' H',Ext j H j' H'->En K F j' H' σ ρ S'->Xis K j' H' z w->Q w H')->r vs H Q
noncomputable def za(i:Nat):TwE:=λρ S=>match ρ[i]? with
 |some (iJ x)=>iJ (.ok x S)
 |_=>jr
noncomputable def eC(x:Xv):TwE:=λ_ S=>iJ (.ok x S)
noncomputable abbrev q8(n:Int):=eC (.int n)
noncomputable abbrev tL(z:Str):=eC (.str z)
noncomputable def okP(o:pT (Xv×Sto)):pT (Rs Xv):=o.map λp=> .ok p.1 p.2
theorem wm{o:pT (Xv×Sto)}{r:Rs Xv}(h:okP o=iJ r):∃z S,o=iJ (z,S)/\r= .ok z S:=by
 cases o with
 |none=>cases h
 |some p=>cases h;exact⟨_,_,rfl,rfl⟩
noncomputable def eOp(f:Op2)(a b:TwE):TwE:=λρ S=>rb (a ρ S) λx S1=>rb (b ρ S1) λy S2=>okP (f x y S2)
noncomputable def eUn(f:Xv->Sto->pT (Xv×Sto))(a:TwE):TwE:=λρ S=>rb (a ρ S) λx S1=>okP (f x S1)
noncomputable def bE(m:TwE):TwT:=λρ S=>rb (m ρ S) λx S1=>match x with
 | .bl b=>iJ (.ok b S1)
 |_=>jr
noncomputable def eB(m:TwT):TwE:=λρ S=>rb (m ρ S) λb S1=>iJ (.ok (.bl b) S1)
noncomputable def Wt(a b:TwT):TwT:=λρ S=>rb (a ρ S) λx S1=>if x then b ρ S1 else iJ (.ok nW S1)
noncomputable def bOr(a b:TwT):TwT:=λρ S=>rb (a ρ S) λx S1=>if x then iJ (.ok jD S1) else b ρ S1
noncomputable def Xd(a:TwT):TwT:=λρ S=>rb (a ρ S) λx S1=>iJ (.ok (!x) S1)
noncomputable def zcP(a b:TwE):TwE:=λρ S=>rb (bE a ρ S) λx S1=>if x then b ρ S1 else iJ (.ok (.bl nW) S1)
noncomputable def eOr(a b:TwE):TwE:=λρ S=>rb (bE a ρ S) λx S1=>if x then iJ (.ok (.bl jD) S1) else b ρ S1
noncomputable def evL:pR TwE->TwL
 |[]=>λ_ S=>iJ (.ok [] S)
 |m::r=>λρ S=>rb (m ρ S) λx S1=>rb (evL r ρ S1) λxs S2=>iJ (.ok (x::xs) S2)
noncomputable def yS(ms:pR TwE):TwE:=λρ S=>rb (evL ms ρ S) λxs S1=>iJ (.ok (.tup xs) S1)
noncomputable def yM(ms:pR TwE):TwE:=λρ S=>rb (evL ms ρ S) λxs S1=>iJ (.ok (.ref S1.length) (S1++[.lst xs]))
noncomputable def eFn(f:Opn)(ms:pR TwE):TwE:=λρ S=>rb (evL ms ρ S) λxs S1=>okP (f xs S1)
noncomputable def zoD(f:Xv->Xv->pT Xv):Op2:=λx y S=>(f x y).map λz=>(z,S)
noncomputable def zqo(f:Xv->pT Xv):Xv->Sto->pT (Xv×Sto):=λx S=>(f x).map λz=>(z,S)
theorem zj5{S S':Sto}(h:(o.map λz=>(z,S))=iJ (z,S')):o=iJ z/\S'=S:=by
 cases o with
 |none=>cases h
 |some p=>cases h;exact⟨rfl,rfl⟩
section
variable{E:XK}{F:Fm}{j:pR qY}{ρ:Rho}{S:Sto}
theorem Po.val{Q:VK}(k:Po K F j H σ ρ E (PoV K Q) (.ok x S))(En0:En K F j H σ ρ S)(h:Xis K j H x v):Q v H:=k j H Ext.refl En0 v h
set_option tactic.hygienic true in
theorem zt(i:Nat):RE K E (zlP i) (za i):=by
 intro F j σ H ρ S r Q En0 e k;unfold za at e;split at e
 .rename_i x ex;cases e;obtain⟨v,e1,e2⟩:=En0.slot i _ ex;exact⟨v,e1,k.val En0 e2⟩
 .cases e
theorem zfc(h:∀j H,Xis K j H x v):RE K E (tC v) (eC x):=λEn0 e k=>by
 cases e;exact k.val En0 (h _ _)
theorem xn(i:Int):RE K E (tC (.int i)) (q8 i):=zfc λ_ _=> .int i
theorem xG(x:Str):RE K E (tC (.str x)) (eC (.str x)):=zfc λ_ _=> .str x
theorem znJ(b:Bool):RE K E (tC (.bl b)) (eC (.bl b)):=zfc λ_ _=> .bl b
theorem zj6:RE K E (tC .non) (eC .non):=zfc λ_ _=> .non
theorem wn{r:R2}{f:Op2}{ta tb:TE}{a b:TwE}(ho:Xy K r f)(ha:RE K E ta a)(hb:RE K E tb b):RE K E (tOp r ta tb) (eOp f a b):=by
 intro F j σ H ρ S r Q En0 e k;rcases zB e with⟨x,S1,e1,e⟩|⟨c,S1,e1,rfl⟩
 .refine ha En0 e1 λj1 H1 X1 E1 u hu=> ?_;rcases zB e with⟨y,S2,e2,e⟩|⟨c,S2,e2,rfl⟩
  .obtain⟨z,S3,e3,rfl⟩:=wm e;exact hb E1 e2 λj2 H2 X2 E2 v hv=>ho E2 (hu.mono X2) hv e3 λw j3 H3 X3 E3 hw=>k _ _ (X1.trans (X2.trans X3)) E3 _ hw
  .exact hb E1 e2 (PX.mono k X1)
 .exact ha En0 e1 k
theorem zqp{r:V->Hp->VK->Prop}{f:Xv->Sto->pT (Xv×Sto)}{ta:TE}{a:TwE}(ho:zqn K r f)(ha:RE K E ta a):RE K E (tUn r ta) (eUn f a):=by
 intro F j σ H ρ S r Q En0 e k;rcases zB e with⟨x,S1,e1,e⟩|⟨c,S1,e1,rfl⟩
 .obtain⟨z,S3,e3,rfl⟩:=wm e;exact ha En0 e1 λj1 H1 X1 E1 u hu=>ho E1 hu e3 λw j3 H3 X3 E3 hw=>k _ _ (X1.trans X3) E3 _ hw
 .exact ha En0 e1 k
theorem zcQ(h:RE K E t m):RT K E (tB t) (bE m):=by
 intro F j σ H ρ S r Q En0 e k;rcases zB e with⟨x,S1,e1,e⟩|⟨c,S1,e1,rfl⟩
 .split at e
  .cases e;exact h En0 e1 λj1 H1 X1 E1 u hu=>⟨_,hu.bl_inv,k _ _ X1 E1⟩
  .cases e
 .exact h En0 e1 k
theorem vQ(h:RE K E t m):RT K E (zjy t) (bE m):=zcQ h
theorem zoE(ha:RT K E t a)(hb:RT K E u b):RT K E (zpR t u) (Wt a b):=by
 intro F j σ H ρ S r Q En0 e k;rcases zB e with⟨x,S1,e1,e⟩|⟨c,S1,e1,rfl⟩
 .refine ha En0 e1 λj1 H1 X1 E1=> ?_;cases x with
  |true=>exact hb E1 e (k.step X1)
  |false=>cases e;exact k _ _ X1 E1
 .exact ha En0 e1 k
theorem znK(ha:RT K E t a)(hb:RT K E u b):RT K E (tOr t u) (bOr a b):=by
 intro F j σ H ρ S r Q En0 e k;rcases zB e with⟨x,S1,e1,e⟩|⟨c,S1,e1,rfl⟩
 .refine ha En0 e1 λj1 H1 X1 E1=> ?_;cases x with
  |true=>cases e;exact k _ _ X1 E1
  |false=>exact hb E1 e (k.step X1)
 .exact ha En0 e1 k
theorem zj7(ha:RT K E t a):RT K E (zpS t) (Xd a):=by
 intro F j σ H ρ S r Q En0 e k;rcases zB e with⟨x,S1,e1,e⟩|⟨c,S1,e1,rfl⟩
 .cases e;exact ha En0 e1 λj1 H1 X1 E1=>k _ _ X1 E1
 .exact ha En0 e1 k
theorem zgz{ta tb:TE}{a b:TwE}(ha:RE K E ta a)(hb:RE K E tb b):RE K E (znq ta tb) (zcP a b):=by
 intro F j σ H ρ S r Q En0 e k;rcases zB e with⟨x,S1,e1,e⟩|⟨c,S1,e1,rfl⟩
 .rcases zB e1 with⟨y,S2,e2,e1⟩|⟨c,S2,e2,z⟩
  .split at e1
   .cases e1;refine ha En0 e2 λj1 H1 X1 E1 u hu=>⟨_,hu.bl_inv,?_⟩;cases x with
    |true=>exact hb E1 e (k.step X1)
    |false=>cases e;exact k _ _ X1 E1 _ (.bl nW)
   .cases e1
  .cases z
 .rcases zB e1 with⟨y,S2,e2,e1⟩|⟨c,S2,e2,z⟩
  .split at e1<;>cases e1
  .cases z;exact ha En0 e2 k
theorem zqq{ta tb:TE}{a b:TwE}(ha:RE K E ta a)(hb:RE K E tb b):RE K E (zpT ta tb) (eOr a b):=by
 intro F j σ H ρ S r Q En0 e k;rcases zB e with⟨x,S1,e1,e⟩|⟨c,S1,e1,rfl⟩
 .rcases zB e1 with⟨y,S2,e2,e1⟩|⟨c,S2,e2,z⟩
  .split at e1
   .cases e1;refine ha En0 e2 λj1 H1 X1 E1 u hu=>⟨_,hu.bl_inv,?_⟩;cases x with
    |true=>cases e;exact k _ _ X1 E1 _ (.bl jD)
    |false=>exact hb E1 e (k.step X1)
   .cases e1
  .cases z
 .rcases zB e1 with⟨y,S2,e2,e1⟩|⟨c,S2,e2,z⟩
  .split at e1<;>cases e1
  .cases z;exact ha En0 e2 k
theorem zj8(ha:RE K E ta a):RE K E (znr ta) (eB (Xd (bE a))):=by
 intro F j σ H ρ S r Q En0 e k;rcases zB e with⟨x,S1,e1,e⟩|⟨c,S1,e1,rfl⟩
 .rcases zB e1 with⟨y,S2,e2,e1⟩|⟨c,S2,e2,z⟩
  .rcases zB e2 with⟨z,S3,e3,e2⟩|⟨c,S3,e3,z⟩
   .split at e2
    .cases e2;cases e1;cases e;exact ha En0 e3 λj1 H1 X1 E1 u hu=>⟨_,hu.bl_inv,k _ _ X1 E1 _ (.bl _)⟩
    .cases e2
   .cases z
  .cases z
 .rcases zB e1 with⟨y,S2,e2,e1⟩|⟨c,S2,e2,z⟩
  .cases e1
  .cases z;rcases zB e2 with⟨z,S3,e3,e2⟩|⟨c,S3,e3,z⟩
   .split at e2<;>cases e2
   .cases z;exact ha En0 e3 k
noncomputable def Xv.isNon:Xv->Bool
 | .non=>jD
 |_=>nW
noncomputable def zoF:Xv->Sto->pT (Xv×Sto):=zqo λx=>iJ (.bl x.isNon)
noncomputable def zhu:Xv->Sto->pT (Xv×Sto):=zqo λx=>iJ (.bl (!x.isNon))
theorem zhv(h:Xis K j H x v):decide (v= .non)=x.isNon:=by cases h<;>simp[Xv.isNon]
theorem zoG(ha:RE K E ta a):RE K E (zpQ ta) (eUn zoF a):=by
 intro F j σ H ρ S r Q En0 e k;rcases zB e with⟨x,S1,e1,e⟩|⟨c,S1,e1,rfl⟩
 .cases e;exact ha En0 e1 λj1 H1 X1 E1 u hu=>k _ _ X1 E1 _ (by rw[zhv hu];exact .bl _)
 .exact ha En0 e1 k
theorem zmo(ha:RE K E ta a):RE K E (znp ta) (eUn zhu a):=by
 intro F j σ H ρ S r Q En0 e k;rcases zB e with⟨x,S1,e1,e⟩|⟨c,S1,e1,rfl⟩
 .cases e;exact ha En0 e1 λj1 H1 X1 E1 u hu=>k _ _ X1 E1 _ (by rw[zhv hu];exact .bl _)
 .exact ha En0 e1 k
theorem zG:RL K E zeU (evL []):=λEn0 e k=>by
 cases e;exact k _ _ Ext.refl En0 [] .nil
theorem zp(ha:RE K E ta m)(hr:RL K E tr (evL ms)):RL K E (UP ta tr) (evL (m::ms)):=by
 intro F j σ H ρ S r Q En0 e k;rcases zB e with⟨x,S1,e1,e⟩|⟨c,S1,e1,rfl⟩
 .refine ha En0 e1 λj1 H1 X1 E1 u hu=> ?_;rcases zB e with⟨xs,S2,e2,e⟩|⟨c,S2,e2,rfl⟩
  .cases e;exact hr E1 e2 λj2 H2 X2 E2 vs hv=>k _ _ (X1.trans X2) E2 (u::vs) (.cons (hu.mono X2) hv)
  .exact hr E1 e2 (PX.mono k X1)
 .exact ha En0 e1 k
theorem WM{ms:pR TwE}{ρ:Rho}{S S':Sto}{xs:pR Xv}(h:evL ms ρ S=iJ (.ok xs S')):xs.length=ms.length:=by
 induction ms generalizing S xs with
 |nil=>cases h;rfl
 |cons m ms i=>
  rcases zB h with⟨x,S1,e1,h⟩|⟨c,S1,e1,z⟩
  .rcases zB h with⟨ys,S2,e2,h⟩|⟨c,S2,e2,z⟩
   .cases h;rw[uw,uw,i e2]
   .cases z
  .cases z
theorem WN(h:RL K E t (evL ms))(hl:ms.length<=1000:=by simp):RE K E (zon t) (yS ms):=by
 intro F j σ H ρ S r Q En0 e k;rcases zB e with⟨xs,S1,e1,e⟩|⟨c,S1,e1,rfl⟩
 .cases e;refine h En0 e1 λj1 H1 X1 E1 vs hv=>⟨?_,λp hp=> ?_⟩
  .rw[hv.len,WM e1];exact v5 hl ∅
  .obtain⟨E2,X2⟩:=E1.new (o:= .tup vs) hp;exact k _ _ (X1.trans X2) E2 _ (.tup yH (hv.mono X2))
 .exact h En0 e1 k
theorem En.lst(En0:En K F j H σ ρ S)(hv:yp K j H xs vs)(hp:H p=jr):En K F (j++[p]) (upd H p (.lst vs)) σ ρ (S++[.lst xs])/\Ext j H (j++[p]) (upd H p (.lst vs))/\Xis K (j++[p]) (upd H p (.lst vs)) (.ref S.length) (.ref p):=by
 have X:Ext j H (j++[p]) (upd H p (.lst vs)):=⟨λn a e=>by rw[uB (uq.1 e).1];exact e,Ys.same (Xc hp)⟩;obtain⟨E1,_⟩:=En0.cell (o:= .lst vs) (c:= .lst xs) hp ⟨vs,yH,hv.mono X⟩;exact⟨E1,X,.ref (by rw[<-En0.jl];simp)⟩
theorem zaL(h:RL K E t (evL ms))(hl:ms.length<=1000:=by simp):RE K E (zp8 t) (yM ms):=by
 intro F j σ H ρ S r Q En0 e k;rcases zB e with⟨xs,S1,e1,e⟩|⟨c,S1,e1,rfl⟩
 .cases e;refine h En0 e1 λj1 H1 X1 E1 vs hv=>⟨?_,λp hp=> ?_⟩
  .rw[hv.len,WM e1];exact v5 hl ∅
  .obtain⟨E2,X2,h2⟩:=E1.lst hv hp;exact k _ _ (X1.trans X2) E2 _ h2
 .exact h En0 e1 k
theorem zbd{r:pR V->Hp->VK->Prop}(hr:Td K r f)(h:RL K E t (evL ms)):RE K E (tCB r t) (eFn f ms):=by
 intro F j σ H ρ S r Q En0 e k;rcases zB e with⟨xs,S1,e1,e⟩|⟨c,S1,e1,rfl⟩
 .obtain⟨z,S3,e3,rfl⟩:=wm e;exact h En0 e1 λj1 H1 X1 E1 vs hv=>hr E1 hv e3 λw j3 H3 X3 E3 hw=>k _ _ (X1.trans X3) E3 _ hw
 .exact h En0 e1 k
end
noncomputable def ya(S:Sto):Xv->pT (pR Xv)
 | .ref n=>match S[n]? with
  |some (.lst xs)=>iJ xs
  |some (.frz xs)=>iJ xs
  |_=>jr
 |_=>jr
noncomputable def XE(S:Sto)(x:Xv):pT (pR Xv):=match x.tupOf with
 |some xs=>iJ xs
 |none=>ya S x
noncomputable def Tf(S:Sto):Xv->pT (Nat×pR Xv)
 | .ref n=>match S[n]? with
  |some (.lst xs)=>iJ (n,xs)
  |_=>jr
 |_=>jr
section
variable{E:XK}{F:Fm}{j:pR qY}{ρ:Rho}{S:Sto}{x:Xv}{v:V}
theorem En.lstAt(E0:En K F j H σ ρ S)(hx:Xis K j H x v)(h:L2.ya S x=iJ xs):∃a vs,v= .ref a/\SqX K H a vs/\yp K j H xs vs:=by
 cases x<;>simp only[L2.ya,reduceCtorEq] at h
 obtain⟨a,rfl,hj⟩:=hx.ref_inv;split at h
 .cases h;obtain⟨vs,e1,e2⟩:=E0.cel _ _ _ (by assumption) hj;exact⟨a,vs,rfl,SqX.of e1,e2⟩
 .cases h;obtain⟨vs,e1,e2⟩:=E0.cel _ _ _ (by assumption) hj;refine⟨a,vs,rfl,?_,e2⟩;rcases e1 with⟨o,e1⟩|e1
  .exact .inl (.inr ⟨o,e1⟩)
  .exact e1 H
 .cases h
theorem En.seqAt(E0:En K F j H σ ρ S)(hx:Xis K j H x v)(h:L2.XE S x=iJ xs):∃a vs,v= .ref a/\(SqX K H a vs\/SqT K H a vs)/\yp K j H xs vs:=by
 unfold L2.XE at h;split at h
 .cases h;obtain⟨a,vs,e1,e2,e3⟩:=hx.tupO (by assumption);exact⟨a,vs,e1,.inr e2,e3⟩
 .obtain⟨a,vs,e1,e2,e3⟩:=E0.lstAt hx h;exact⟨a,vs,e1,.inl e2,e3⟩
theorem zdu(h:Tf S x=iJ (n,xs)):x= .ref n/\S[n]? =iJ (.lst xs):=by
 cases x<;>simp only[Tf,reduceCtorEq] at h
 split at h
 .cases h;exact⟨rfl,by assumption⟩
 .cases h
theorem En.wl(E0:En K F j H σ ρ S)(hx:Xis K j H x v)(h:Tf S x=iJ (n,xs)):∃a vs,v= .ref a/\j[n]? =iJ a/\H a=iJ (.lst vs)/\yp K j H xs vs:=by
 obtain⟨rfl,hs⟩:=zdu h;obtain⟨a,rfl,hj⟩:=hx.ref_inv;obtain⟨vs,e1,e2⟩:=E0.cel _ _ _ hs hj;exact⟨a,vs,rfl,hj,e1,e2⟩
theorem En.wr(E0:En K F j H σ ρ S)(h:Tf S x=iJ (n,xs))(hj:j[n]? =iJ a)(hw:yp K j H ys ws):En K F j (upd H a (.lst ws)) σ ρ (S.set n (.lst ys))/\Ext j H j (upd H a (.lst ws)):=
 E0.write (zdu h).2 rfl hj rfl λX=>⟨ws,yH,hw.mono X⟩
theorem tyL(h:SqL K H a vs):tyV K "list" (.ref a) H:= .inl ⟨rfl,vs,h⟩
noncomputable def zS:Op2:=λx y S=>match x.tupOf,y with
 |some xs,.int i=>(atI xs i).map λz=>(z,S)
 |_,_=>jr
noncomputable def vN:Op2:=λx y S=>match ya S x,y with
 |some xs,.int i=>(atI xs i).map λz=>(z,S)
 |_,_=>jr
noncomputable def zb0:Op2:=zoD λx y=>match x,y with
 | .str z,.int i=>if z.length<=sizeLine then (atI z.cps.toList i).map λc=> .str ⟨#[c]⟩ else jr
 |_,_=>jr
set_option tactic.hygienic true in
theorem zgA:Xy K (zos K) zS:=by
 intro F j σ H ρ S S' x y z u v Q E0 hx hy h k;unfold zS at h;split at h
 .rename_i xs i ex;cases e:atI xs i with
  |none=>rw[e] at h;cases h
  |some z'=>
   rw[e] at h;cases h;obtain⟨a,vs,rfl,h1,h2⟩:=hx.tupO ex;obtain⟨w,e1,e2⟩:=h2.at_ e;exact⟨a,vs,_,w,rfl,hy.int_inv,h1,e1,k _ _ _ Ext.refl E0 e2⟩
 .cases h
set_option tactic.hygienic true in
theorem WP:Xy K (zor K) vN:=by
 intro F j σ H ρ S S' x y z u v Q E0 hx hy h k;unfold vN at h;split at h
 .rename_i xs i ex;cases e:atI xs i with
  |none=>rw[e] at h;cases h
  |some z'=>
   rw[e] at h;cases h;obtain⟨a,vs,rfl,h1,h2⟩:=E0.lstAt hx ex;obtain⟨w,e1,e2⟩:=h2.at_ e;exact⟨a,vs,_,w,rfl,hy.int_inv,h1.sql,e1,k _ _ _ Ext.refl E0 e2⟩
 .cases h
set_option tactic.hygienic true in
theorem zj9:Xy K zqc zb0:=by
 intro F j σ H ρ S S' x y z u v Q E0 hx hy h k;obtain⟨h',rfl⟩:=zj5 h;dsimp only at h';split at h'
 .split at h'
  .rename_i zz i hz;cases e:atI zz.cps.toList i with
   |none=>rw[e] at h';cases h'
   |some c=>
    rw[e] at h';cases h';exact⟨zz,i,c,hx.str_inv,hy.int_inv,hz,e,k _ _ _ Ext.refl E0 (.str _)⟩
  .cases h'
 .cases h'
noncomputable def oNo:TwO:=λ_ S=>iJ (.ok jr S)
noncomputable def vg(m:TwE):TwO:=λρ S=>rb (m ρ S) λx S1=>match x with
 | .int i=>iJ (.ok (iJ i) S1)
 |_=>jr
theorem zfd:RO K E zhm oNo:=λE0 e k=>by
 cases e;exact k _ _ Ext.refl E0
theorem TF(h:RE K E t m):RO K E (znz t) (vg m):=by
 intro F j σ H ρ S r Q En0 e k;rcases zB e with⟨x,S1,e1,e⟩|⟨c,S1,e1,rfl⟩
 .split at e
  .cases e;exact h En0 e1 λj1 H1 X1 E1 u hu=>⟨_,hu.int_inv,k _ _ X1 E1⟩
  .cases e
 .exact h En0 e1 k
noncomputable def XX{α:Type}(xs:pR α)(lo hi:pT Int):pR α:=(xs.drop (HT.sIx xs.length 0 lo)).take (HT.sIx xs.length xs.length hi-HT.sIx xs.length 0 lo)
theorem yp.cut(h:yp K j H xs vs)(lo hi:pT Int):yp K j H (XX xs lo hi) (zcH vs lo hi):=by
 unfold zcH XX;rw[h.len];exact(h.drop _).take _
noncomputable def eSl(f:Xv->pT Int->pT Int->Sto->pT (Xv×Sto))(m:TwE)(lo hi:TwO):TwE:=λρ S=>rb (m ρ S) λx S1=>rb (lo ρ S1) λy S2=>rb (hi ρ S2) λz S3=>okP (f x y z S3)
def zhw(K:uk)(r:V->pT Int->pT Int->Hp->VK->Prop)(f:Xv->pT Int->pT Int->Sto->pT (Xv×Sto)):Prop:=∀{F:Fm} {j:pR qY} {σ:St} {H:Hp} {ρ:Rho} {S S':Sto} {x z:Xv} {lo hi:pT Int} {u:V} {Q:VK},En K F j H σ ρ S->Xis K j H x u->f x lo hi S=iJ (z,S')->(∀w j' H',Ext j H j' H'->En K F j' H' σ ρ S'->Xis K j' H' z w->Q w H')->r u lo hi H Q
theorem zka{r:V->pT Int->pT Int->Hp->VK->Prop}{f:Xv->pT Int->pT Int->Sto->pT (Xv×Sto)}{te:TE}{tl th:TO}{m:TwE}{lo hi:TwO}(ho:zhw K r f)(hm:RE K E te m)(hl:RO K E tl lo)(hh:RO K E th hi):RE K E (tSl r te tl th) (eSl f m lo hi):=by
 intro F j σ H ρ S r Q En0 e k;rcases zB e with⟨x,S1,e1,e⟩|⟨c,S1,e1,rfl⟩
 .refine hm En0 e1 λj1 H1 X1 E1 u hu=> ?_;rcases zB e with⟨y,S2,e2,e⟩|⟨c,S2,e2,rfl⟩
  .refine hl E1 e2 λj2 H2 X2 E2=> ?_;rcases zB e with⟨z,S3,e3,e⟩|⟨c,S3,e3,rfl⟩
   .obtain⟨w,S4,e4,rfl⟩:=wm e;exact hh E2 e3 λj3 H3 X3 E3=>ho E3 (hu.mono (X2.trans X3)) e4 λw j4 H4 X4 E4 hw=>k _ _ (X1.trans (X2.trans (X3.trans X4))) E4 _ hw
   .exact hh E2 e3 (PX.mono k (X1.trans X2))
  .exact hl E1 e2 (PX.mono k X1)
 .exact hm En0 e1 k
noncomputable def Yy:Xv->pT Int->pT Int->Sto->pT (Xv×Sto):=λx lo hi S=>(ya S x).map λxs=>(.ref S.length,S++[.lst (XX xs lo hi)])
theorem zqr:zhw K (zjE K) Yy:=by
 intro F j σ H ρ S S' x z lo hi u Q E0 hx h k;unfold Yy at h;cases e:ya S x with
 |none=>rw[e] at h;cases h
 |some xs=>
  rw[e] at h;cases h;obtain⟨a,vs,rfl,h1,h2⟩:=E0.lstAt hx e;refine⟨a,vs,rfl,h1.sql,λp hp=> ?_⟩;obtain⟨E1,X1,h3⟩:=E0.lst (h2.cut lo hi) hp;exact k _ _ _ X1 E1 h3
noncomputable def zfe:Xv->pT Int->pT Int->Sto->pT (Xv×Sto):=λx lo hi S=>match x with
 | .str z=>if z.length<=sizeLine then iJ (.str (Txt.slice z lo hi),S) else jr
 |_=>jr
theorem zqs:zhw K zmg zfe:=by
 intro F j σ H ρ S S' x z lo hi u Q E0 hx h k;unfold zfe at h;split at h
 .split at h
  .cases h;exact⟨_,hx.str_inv,by assumption,k _ _ _ Ext.refl E0 (.str _)⟩
  .cases h
 .cases h
noncomputable def zgB:Xv->pT Int->pT Int->Sto->pT (Xv×Sto):=λx lo hi S=>match x with
 | .tup xs=>iJ (.tup (XX xs lo hi),S)
 |_=>jr
theorem ziJ{α:Type}{xs:pR α}(h:HT.sIx xs.length 0 lo=0/\HT.sIx xs.length xs.length hi=xs.length):XX xs lo hi=xs:=by
 unfold XX;rw[h.1,h.2];simp
set_option tactic.hygienic true in
theorem zqt:zhw K (zmi K) zgB:=by
 intro F j σ H ρ S S' x z lo hi u Q E0 hx h k;unfold zgB at h;split at h
 .rename_i xs;cases h;obtain⟨a,vs,rfl,h1,h2⟩:=hx.tup_inv;refine⟨a,vs,rfl,SqT.of h1,λhw=>k _ _ _ Ext.refl E0 ?_,λ_ p hp=> ?_⟩
  .rw[h2.len] at hw;rw[ziJ hw];exact hx
  .obtain⟨E1,X1⟩:=E0.new (o:= .tup (zcH vs lo hi)) hp;exact k _ _ _ X1 E1 (.tup yH ((h2.cut lo hi).mono X1))
 .cases h
theorem zb1{te:TE}{tl th:TO}{m:TwE}{lo hi:TwO}(hm:RE K E te m)(hl:RO K E tl lo)(hh:RO K E th hi):RE K E (tSl (zjE K) te tl th) (eSl Yy m lo hi):= @zka K E (zjE K) Yy te tl th m lo hi (@zqr K) hm hl hh
theorem zoH{te:TE}{tl th:TO}{m:TwE}{lo hi:TwO}(hm:RE K E te m)(hl:RO K E tl lo)(hh:RO K E th hi):RE K E (tSl zmg te tl th) (eSl zfe m lo hi):= @zka K E zmg zfe te tl th m lo hi (@zqs K) hm hl hh
theorem zoI{te:TE}{tl th:TO}{m:TwE}{lo hi:TwO}(hm:RE K E te m)(hl:RO K E tl lo)(hh:RO K E th hi):RE K E (tSl (zmi K) te tl th) (eSl zgB m lo hi):= @zka K E (zmi K) zgB te tl th m lo hi (@zqt K) hm hl hh
abbrev OpM:=Xv->pR Xv->Sto->pT (Xv×Sto)
def zff(K:uk)(r:V->pR V->Hp->VK->Prop)(f:OpM):Prop:=∀{F:Fm} {j:pR qY} {σ:St} {H:Hp} {ρ:Rho} {S S':Sto} {x z:Xv} {ys:pR Xv} {u:V} {vs:pR V} {Q:VK},En K F j H σ ρ S->Xis K j H x u->yp K j H ys vs->f x ys S=iJ (z,S')->(∀w j' H',Ext j H j' H'->En K F j' H' σ ρ S'->Xis K j' H' z w->Q w H')->r u vs H Q
noncomputable def eMt(f:OpM)(o:TwE)(ms:pR TwE):TwE:=λρ S=>rb (o ρ S) λx S1=>(ya S1 x).bind λ_=>rb (evL ms ρ S1) λys S2=>okP (f x ys S2)
theorem zb2{r:V->pR V->Hp->VK->Prop}(hr:zff K r f)(ho:RE K E to o)(ht:RL K E t (evL ms)):RE K E (tBM K "list" r to t) (eMt f o ms):=by
 intro F j σ H ρ S r Q En0 e k;rcases zB e with⟨x,S1,e1,e⟩|⟨c,S1,e1,rfl⟩
 .refine ho En0 e1 λj1 H1 X1 E1 u hu=> ?_;cases el:L2.ya S1 x with
  |none=>rw[el] at e;cases e
  |some l=>
   rw[el] at e;obtain⟨a,vs,rfl,h1,_⟩:=E1.lstAt hu el;refine⟨tyL h1.sql,?_⟩;rcases zB e with⟨ys,S2,e2,e⟩|⟨c,S2,e2,rfl⟩
   .obtain⟨z,S3,e3,rfl⟩:=wm e;exact ht E1 e2 λj2 H2 X2 E2 ws hw=>hr E2 (hu.mono X2) hw e3 λw j3 H3 X3 E3 hz=>k _ _ (X1.trans (X2.trans X3)) E3 _ hz
   .exact ht E1 e2 (PX.mono k X1)
 .exact ho En0 e1 k
theorem zkb{r:V->pR V->Hp->VK->Prop}(hr:zff K r f)(ho:RE K E to o):RE K E (zqd K "list" r to) (eMt f o []):=by
 intro F j σ H ρ S r Q En0 e k;exact zb2 hr ho zG En0 e k
noncomputable def yn:OpM:=λx ys S=>match Tf S x,ys with
 |some (n,xs),[y]=>if xs.length<sizeLine then iJ (.non,S.set n (.lst (xs++[y]))) else jr
 |_,_=>jr
set_option tactic.hygienic true in
theorem YT:zff K zho yn:=by
 intro F j σ H ρ S S' x z ys u vs Q E0 hx hy h k;unfold yn at h;split at h
 .rename_i n xs y e;split at h
  .rename_i hl;cases h;obtain⟨a,ws,rfl,hj,h1,h2⟩:=E0.wl hx e;obtain⟨w,rfl,hw⟩:=hy.d1;obtain⟨E1,X1⟩:=E0.wr e hj (h2.append (.one hw));exact⟨a,ws,w,rfl,rfl,h1,by rw[h2.len];exact hl,k _ _ _ X1 E1 .non⟩
  .cases h
 .cases h
noncomputable def ziK:OpM:=λx ys S=>match Tf S x,ys with
 |some (n,xs),[]=>(xs[xs.length-1]?).map λy=>(y,S.set n (.lst xs.dropLast))
 |_,_=>jr
set_option tactic.hygienic true in
theorem zkc:zff K zqe ziK:=by
 intro F j σ H ρ S S' x z ys u vs Q E0 hx hy h k;unfold ziK at h;split at h
 .rename_i n xs e;cases e1:xs[xs.length-1]? with
  |none=>rw[e1] at h;cases h
  |some y=>
   rw[e1] at h;cases h;obtain⟨a,ws,rfl,hj,h1,h2⟩:=E0.wl hx e;obtain rfl:=hy.nil_inv;obtain⟨w,f1,f2⟩:=h2.get e1;obtain⟨E1,X1⟩:=E0.wr e hj h2.dropLast;exact⟨a,ws,w,rfl,rfl,h1,by rw[h2.len];exact f1,k _ _ _ X1 E1 (f2.mono X1)⟩
 .cases h
noncomputable def TH:OpM:=λx ys S=>match Tf S x,ys with
 |some (n,xs),[y]=>(XE S y).bind λzs=>if xs.length+zs.length<=sizeLine then iJ (.non,S.set n (.lst (xs++zs))) else jr
 |_,_=>jr
set_option tactic.hygienic true in
theorem zdv:zff K (zfa K) TH:=by
 intro F j σ H ρ S S' x z ys u vs Q E0 hx hy h k;unfold TH at h;split at h
 .rename_i n xs y e;cases e1:XE S y with
  |none=>rw[e1] at h;cases h
  |some zs=>
   rw[e1] at h;dsimp only[Ck] at h;split at h
   .rename_i hl;cases h;obtain⟨a,ws,rfl,hj,h1,h2⟩:=E0.wl hx e;obtain⟨w,rfl,hw⟩:=hy.d1;obtain⟨b,ts,rfl,g1,g2⟩:=E0.seqAt hw e1;obtain⟨E1,X1⟩:=E0.wr e hj (h2.append g2);exact⟨a,b,ws,ts,rfl,rfl,h1,g1,by rw[h2.len,g2.len];exact hl,k _ _ _ X1 E1 .non⟩
   .cases h
 .cases h
noncomputable def zo(a b:TwS):TwS:=λρ S=>match a ρ S with
 |some (.nx ρ1 S1)=>b ρ1 S1
 |r=>r
noncomputable def zF:TwS:=λρ S=>iJ (.nx ρ S)
noncomputable def Yk:TwS:=λ_ _=>jr
noncomputable def zH(m:TwE)(g:TwG):TwS:=λρ S=>sb (m ρ S) λx S1=>sb (g x ρ S1) λρ1 S2=>iJ (.nx ρ1 S2)
noncomputable def yY(m:TwE):TwS:=λρ S=>sb (m ρ S) λ_ S1=>iJ (.nx ρ S1)
noncomputable def zJ(m:TwE):TwS:=λρ S=>sb (m ρ S) λx S1=>iJ (.rt x S1)
noncomputable def sIf(c:TwT)(a b:TwS):TwS:=λρ S=>sb (c ρ S) λx S1=>if x then a ρ S1 else b ρ S1
noncomputable def zbn(r:pT Fl)(go:Rho->Sto->pT Fl):pT Fl:=match r with
 |some (.nx ρ S)=>go ρ S
 |some (.ct ρ S)=>go ρ S
 |some (.bk ρ S)=>iJ (.nx ρ S)
 |r=>r
noncomputable def Vu(get:Sto->pT (pR Xv))(g:TwG)(b:TwS):Nat->Nat->Rho->Sto->pT Fl
 |0,_,_,_=>jr
 |f+1,i,ρ,S=>(get S).bind λxs=>match xs[i]? with
  |none=>if i=xs.length then iJ (.nx ρ S) else jr
  |some x=>sb (g x ρ S) λρ1 S1=>zbn (b ρ1 S1) λρ2 S2=>Vu get g b f (i+1) ρ2 S2
noncomputable def UK(m:TwI)(g:TwG)(b:TwS):TwS:=λρ S=>sb (m ρ S) λget S1=>(get S1).bind λxs=>Vu get g b (xs.length+1) 0 ρ S1
noncomputable def VI(c:TwT)(b:TwS):Nat->Rho->Sto->pT Fl
 |0,_,_=>jr
 |n+1,ρ,S=>sb (c ρ S) λx S1=>if x then zbn (b ρ S1) λρ2 S2=>VI c b n ρ2 S2 else iJ (.nx ρ S1)
noncomputable def sWh(n:Nat)(c:TwT)(b:TwS):TwS:=λρ S=>VI c b n ρ S
noncomputable def gN(i:Nat):TwG:=λx ρ S=>iJ (.ok (ρ.set i (iJ x)) S)
noncomputable def XF:zgy:=λxs ρ S=>match xs with
 |[]=>iJ (.ok ρ S)
 |_=>jr
noncomputable def xf(g:TwG)(gs:zgy):zgy:=λxs ρ S=>match xs with
 |x::r=>rb (g x ρ S) λρ1 S1=>gs r ρ1 S1
 |_=>jr
noncomputable def gT(n:Nat)(gs:zgy):TwG:=λx ρ S=>x.tupOf.bind λl=>if l.length=n then gs l ρ S else jr
noncomputable def zd2(o mi:TwE):TwG:=λd ρ S=>rb (o ρ S) λx S1=>rb (mi ρ S1) λy S2=>match Tf S2 x,y with
 |some (n,xs),.int i=>(ixN xs.length i).map λk=> .ok ρ (S2.set n (.lst (xs.set k d)))
 |_,_=>jr
theorem xC:RG K E (zhe i) (gN i):=λE0 hx e k=>by
 cases e;exact k _ _ _ Ext.refl (E0.set hx)
theorem zmp:RGs K E zpZ XF:=by
 intro F j σ H ρ S r xs vs R E0 hv e k;unfold XF at e;split at e
 .cases e;obtain rfl:=hv.nil_inv;exact⟨rfl,k _ _ _ Ext.refl E0⟩
 .cases e
theorem zkd(h1:RG K E t g)(h2:RGs K E u gs):RGs K E (znu t u) (xf g gs):=by
 intro F j σ H ρ S r xs vs R E0 hv e k;unfold xf at e;split at e
 .obtain⟨w,ws,rfl,hw,lx⟩:=hv.cons_inv;rcases zB e with⟨ρ1,S1,e1,e⟩|⟨c,S1,e1,rfl⟩
  .exact⟨w,ws,rfl,h1 E0 hw e1 λσ1 j1 H1 X1 E1=>h2 E1 (lx.mono X1) e (k.step X1)⟩
  .exact⟨w,ws,rfl,h1 E0 hw e1 k⟩
 .cases e
set_option tactic.hygienic true in
theorem zoJ{n:Nat}{t:TGs}{gs:zgy}(h:RGs K E t gs):RG K E (zod K n t) (gT n gs):=by
 intro F j σ H ρ S r x v R E0 hx e k;unfold gT at e;cases ex:x.tupOf with
 |none=>rw[ex] at e;cases e
 |some l=>
  rw[ex] at e;dsimp only[Ck] at e;split at e
  .rename_i hn;obtain⟨a,vs,rfl,h1,h2⟩:=hx.tupO ex;exact⟨a,vs,rfl,h1,by rw[h2.len];exact hn,h E0 h2 e k⟩
  .cases e
set_option tactic.hygienic true in
theorem zke(ho:RE K E to o)(hi:RE K E ti mi):RG K E (zp0 to ti znA) (zd2 o mi):=by
 intro F j σ H ρ S r d vd R E0 hd e k;rcases zB e with⟨x,S1,e1,e⟩|⟨c,S1,e1,rfl⟩
 .refine ho E0 e1 λj1 H1 X1 E1 u hu=> ?_;rcases zB e with⟨y,S2,e2,e⟩|⟨c,S2,e2,rfl⟩
  .refine hi E1 e2 λj2 H2 X2 E2 w hw=> ?_;split at e
   .rename_i n xs i ex;cases e3:ixN xs.length i with
    |none=>rw[e3] at e;cases e
    |some m=>
     rw[e3] at e;cases e;obtain⟨a,vs,rfl,hj,h1,h2⟩:=E2.wl (hu.mono X2) ex;obtain⟨E3,X3⟩:=E2.wr ex hj (h2.set (hd.mono (X1.trans X2)) m);exact⟨a,vs,i,m,rfl,hw.int_inv,h1,by rw[h2.len];exact e3,k _ _ _ (X1.trans (X2.trans X3)) E3⟩
   .cases e
  .exact hi E1 e2 (PX.mono k X1)
 .exact ho E0 e1 k
theorem we:RS K E zns zF:=λE0 e k=>by
 cases e;exact k _ _ _ Ext.refl E0
theorem Wu:RS K E t Yk:=λ_ e _=>by cases e
set_option tactic.hygienic true in
theorem yl(ha:RS K E t a)(hb:RS K E u b):RS K E (zpV t u) (zo a b):=by
 intro F j D' σ H ρ S fl E0 e k;unfold zo at e;split at e
 .rename_i ρ1 S1 e1;exact ha (D':={D' with nx:=u D'}) E0 e1 λσ1 j1 H1 X1 E1=>hb E1 e (k.step X1)
 .rename_i hn;refine ha (D':={D' with nx:=u D'}) E0 e ?_;cases fl with
  |nx ρ1 S1=>exact absurd e (hn ρ1 S1)
  |bk ρ1 S1=>exact k
  |ct ρ1 S1=>exact k
  |rt x S1=>exact k
  |ex c S1=>exact k
theorem va(h:RE K E te m)(hg:RG K E g g'):RS K E (zof te g) (zH m g'):=by
 intro F j D' σ H ρ S fl E0 e k;rcases wB e with⟨x,S1,e1,e⟩|⟨c,S1,e1,rfl⟩
 .refine h E0 e1 λj1 H1 X1 E1 u hu=> ?_;rcases wB e with⟨ρ1,S2,e2,e⟩|⟨c,S2,e2,rfl⟩
  .cases e;exact hg E1 hu e2 λσ2 j2 H2 X2 E2=>k _ _ _ (X1.trans X2) E2
  .exact hg E1 hu e2 (PX.mono k X1)
 .exact h E0 e1 k
theorem ZC(h:RE K E te m):RS K E (znt te) (yY m):=by
 intro F j D' σ H ρ S fl E0 e k;rcases wB e with⟨x,S1,e1,e⟩|⟨c,S1,e1,rfl⟩
 .cases e;exact h E0 e1 λj1 H1 X1 E1 u hu=>k _ _ _ X1 E1
 .exact h E0 e1 k
theorem xS(h:RE K E te m):RS K E (zpW te) (zJ m):=by
 intro F j D' σ H ρ S fl E0 e k;rcases wB e with⟨x,S1,e1,e⟩|⟨c,S1,e1,rfl⟩
 .cases e;exact h E0 e1 λj1 H1 X1 E1 u hu=>k _ _ _ _ _ X1 E1 hu
 .exact h E0 e1 k
theorem Xe(hc:RT K E c m)(ha:RS K E t a)(hb:RS K E u b):RS K E (zpX c t u) (sIf m a b):=by
 intro F j D' σ H ρ S fl E0 e k;rcases wB e with⟨x,S1,e1,e⟩|⟨c,S1,e1,rfl⟩
 .refine hc E0 e1 λj1 H1 X1 E1=> ?_;cases x with
  |true=>exact ha E1 e (k.step X1)
  |false=>exact hb E1 e (k.step X1)
 .exact hc E0 e1 k
set_option tactic.hygienic true in
theorem zdw{go:Rho->Sto->pT Fl}(h:zbn r go=iJ fl):∃f,r=iJ f/\((∃ρ S,(f= .nx ρ S\/f= .ct ρ S)/\go ρ S=iJ fl)\/(∃ρ S,f= .bk ρ S/\fl= .nx ρ S)\/(f=fl/\((∃x S,fl= .rt x S)\/∃c S,fl= .ex c S))):=by
 unfold zbn at h;split at h
 .exact⟨_,rfl,.inl ⟨_,_,.inl rfl,h⟩⟩
 .exact⟨_,rfl,.inl ⟨_,_,.inr rfl,h⟩⟩
 .cases h;exact⟨_,rfl,.inr (.inl ⟨_,_,rfl,rfl⟩)⟩
 .rename_i n1 n2 n3;refine⟨fl,h,.inr (.inr ⟨rfl,?_⟩)⟩;cases fl with
  |nx ρ S=>exact absurd h (n1 ρ S)
  |ct ρ S=>exact absurd h (n2 ρ S)
  |bk ρ S=>exact absurd h (n3 ρ S)
  |rt x S=>exact .inl ⟨x,S,rfl⟩
  |ex c S=>exact .inr ⟨c,S,rfl⟩
set_option tactic.hygienic true in
theorem zoK{wi:TI}{g:TG}{tb:TS}{m:TwI}{g':TwG}{b:TwS}(hi:RI K E wi m)(hg:RG K E g g')(hb:RS K E tb b):RS K E (zp1 wi g tb) (UK m g' b):=by
 intro F j D' σ H ρ S fl E0 e k;rcases wB e with⟨get,S1,e1,e⟩|⟨c,S1,e1,rfl⟩
 .refine hi E0 e1 λj1 H1 X1 E1 J ok=> ?_;cases eg:get S1 with
  |none=>rw[eg] at e;cases e
  |some xs=>
   rw[eg] at e;refine⟨λi n σ H=>∃j2 ρ2 S2,Ext j1 H1 j2 H/\En K F j2 H σ ρ2 S2/\Vu get g' b n i ρ2 S2=iJ fl,⟨xs.length+1,j1,ρ,S1,Ext.refl,E1,e⟩,?_⟩;rintro i n σ2 H2 ⟨j2,ρ2,S2,X2,E2,e2⟩;cases n with
   |zero=>cases e2
   |succ n=>
    unfold Vu at e2;cases lR:get S2 with
    |none=>rw[lR] at e2;cases e2
    |some ys=>
     rw[lR] at e2;dsimp only[Ck] at e2;obtain⟨go,stop⟩:=ok i X2 E2 lR;split at e2
     .split at e2
      .rename_i hl;cases e2;exact .inl ⟨stop hl,k _ _ _ (X1.trans X2) E2⟩
      .cases e2
     .rename_i x ex;obtain⟨g1,g2⟩:=go x ex;refine .inr ⟨g1,λσ' H'=>∃j3 ρ3 S3,Ext j1 H1 j3 H'/\En K F j3 H' σ' ρ3 S3/\Vu get g' b n (i+1) ρ3 S3=iJ fl,λ_ _ z=>⟨n,A4 _,z⟩,λv H3 hy=> ?_⟩;obtain⟨Sm,hv⟩:=g2 v H3 hy;have E3:=E2.heap Sm;have X3:Ext j2 H2 j2 H3:=Ext.same Sm;rcases wB e2 with⟨ρ4,S4,e4,e2⟩|⟨c,S4,e4,rfl⟩
      .refine hg E3 hv e4 λσ4 j4 H4 X4 E4=> ?_;obtain⟨f5,e5,h5⟩:=zdw e2;refine hb E4 e5 ?_;have X14:=X2.trans (X3.trans X4);rcases h5 with⟨ρ6,S6,h6,e6⟩|⟨ρ6,S6,rfl,rfl⟩|⟨rfl,h6⟩
       .rcases h6 with rfl|rfl
        .exact λσ5 j5 H5 X5 E5=>⟨j5,ρ6,S6,X14.trans X5,E5,e6⟩
        .exact λσ5 j5 H5 X5 E5=>⟨j5,ρ6,S6,X14.trans X5,E5,e6⟩
       .exact λσ5 j5 H5 X5 E5=>k _ _ _ (X1.trans (X14.trans X5)) E5
       .rcases h6 with⟨x6,S6,rfl⟩|⟨c6,S6,rfl⟩
        .exact λv σ5 ρ5 j5 H5 X5 E5 hv=>k v σ5 ρ5 _ _ (X1.trans (X14.trans X5)) E5 hv
        .exact PX.mono k (X1.trans X14)
      .exact hg E3 hv e4 (PX.mono k (X1.trans (X2.trans X3)))
 .exact hi E0 e1 k
theorem TJ{c:TT}{tb:TS}{m:TwT}{b:TwS}{n:Nat}(hc:RT K E c m)(hb:RS K E tb b):RS K E (zjp c tb) (sWh n m b):=by
 intro F j D' σ H ρ S fl E0 e k;refine⟨λn σ2 H2=>∃j2 ρ2 S2,Ext j H j2 H2/\En K F j2 H2 σ2 ρ2 S2/\VI m b n ρ2 S2=iJ fl,⟨n,j,ρ,S,Ext.refl,E0,e⟩,?_⟩;rintro n σ2 H2 ⟨j2,ρ2,S2,X2,E2,e2⟩;cases n with
 |zero=>cases e2
 |succ n=>
  unfold VI at e2;rcases wB e2 with⟨x,S3,e3,e2⟩|⟨c,S3,e3,rfl⟩
  .refine hc E2 e3 λj3 H3 X3 E3=> ?_;have X13:=X2.trans X3;cases x with
   |false=>cases e2;exact k _ _ _ X13 E3
   |true=>
    obtain⟨f5,e5,h5⟩:=zdw e2;refine⟨λσ' H'=>∃j3 ρ3 S3,Ext j H j3 H'/\En K F j3 H' σ' ρ3 S3/\VI m b n ρ3 S3=iJ fl,λσ' H' z=>⟨n,A4 _,z⟩,hb E3 e5 ?_⟩;rcases h5 with⟨ρ6,S6,h6,e6⟩|⟨ρ6,S6,rfl,rfl⟩|⟨rfl,h6⟩
    .rcases h6 with rfl|rfl
     .exact λσ5 j5 H5 X5 E5=>⟨j5,ρ6,S6,X13.trans X5,E5,e6⟩
     .exact λσ5 j5 H5 X5 E5=>⟨j5,ρ6,S6,X13.trans X5,E5,e6⟩
    .exact λσ5 j5 H5 X5 E5=>k _ _ _ (X13.trans X5) E5
    .rcases h6 with⟨x6,S6,rfl⟩|⟨c6,S6,rfl⟩
     .exact λv σ5 ρ5 j5 H5 X5 E5 hv=>k v σ5 ρ5 _ _ (X13.trans X5) E5 hv
     .exact PX.mono k X13
  .exact hc E2 e3 (PX.mono k X2)
noncomputable def iL(m:TwE):TwI:=λρ S=>rb (m ρ S) λx S1=>(ya S1 x).map λ_=> .ok (λS=>ya S x) S1
noncomputable def iT(m:TwE):TwI:=λρ S=>rb (m ρ S) λx S1=>x.tupOf.map λl=> .ok (λ_=>iJ l) S1
theorem zhx(h:RE K E t m):RI K E (zjr K t) (iL m):=by
 intro F j σ H ρ S r R En0 e k;rcases zB e with⟨x,S1,e1,e⟩|⟨c,S1,e1,rfl⟩
 .cases el:ya S1 x with
  |none=>rw[el] at e;cases e
  |some l=>
   rw[el] at e;cases e;refine h En0 e1 λj1 H1 X1 E1 u hu=> ?_;obtain⟨a,vs,rfl,h1,_⟩:=E1.lstAt hu el;refine⟨a,rfl,⟨vs,h1.sql⟩,k _ _ X1 E1 _ ?_⟩;intro F2 j2 H2 σ2 ρ2 S2 xs i X2 E2 e2;obtain⟨a',ws,ea,g1,g2⟩:=E2.lstAt (hu.mono X2) e2;cases ea;refine⟨λy ey=> ?_,λhle=>⟨ws,g1.sql,by rw[g2.len];omega⟩⟩;obtain⟨w,f1,f2⟩:=g2.get ey;refine⟨⟨ws,w,g1.sql,f1⟩,?_⟩;rintro v' H' ⟨rfl,hx⟩;have:=hx ws g1.sql;rw[f1] at this;cases this;exact⟨TC.refl _,f2⟩
 .exact h En0 e1 k
theorem zkf(h:RE K E t m):RI K E (zoh K t) (iT m):=by
 intro F j σ H ρ S r R En0 e k;rcases zB e with⟨x,S1,e1,e⟩|⟨c,S1,e1,rfl⟩
 .cases el:x.tupOf with
  |none=>rw[el] at e;cases e
  |some l=>
   rw[el] at e;cases e;refine h En0 e1 λj1 H1 X1 E1 u hu=> ?_;obtain⟨a,vs,rfl,h1,_⟩:=hu.tupO el;refine⟨a,rfl,⟨vs,h1⟩,k _ _ X1 E1 _ ?_⟩;intro F2 j2 H2 σ2 ρ2 S2 xs i X2 E2 e2;cases e2;obtain⟨a',ws,ea,g1,g2⟩:=(hu.mono X2).tupO el;cases ea;refine⟨λy ey=> ?_,λhle=>⟨ws,g1,by rw[g2.len];omega⟩⟩;obtain⟨w,f1,f2⟩:=g2.get ey;refine⟨⟨ws,w,g1,f1⟩,?_⟩;rintro v' H' ⟨rfl,hx⟩;have:=hx ws g1;rw[f1] at this;cases this;exact⟨TC.refl _,f2⟩
 .exact h En0 e1 k
noncomputable def Yl(lo:Int)(n:Nat):pR Xv:=(y2 n).map λ(k:Nat)=>Xv.int (lo+(k:Int))
noncomputable def iR1(m:TwE):TwI:=λρ S=>rb (m ρ S) λx S1=>match x with
 | .int j=>if -(2^62)<=j/\j<2^62 then iJ (.ok (λ_=>iJ (Yl 0 j.toNat)) S1) else jr
 |_=>jr
theorem zkg:zoC K j H (Itr lo n) (λ_=>iJ (Yl lo n)):=by
 intro F2 j2 H2 σ2 ρ2 S2 xs i X2 E2 e2;cases e2;refine⟨λd hd=> ?_,λhle=> ?_⟩
 .unfold Yl at hd;rw[uA] at hd;have hi:i<n:=by
   apply CD;intro hn;rw[x5 (by simp;omega)] at hd;cases hd
  rw[AI hi] at hd;cases hd;refine⟨hi,?_⟩;rintro x H' ⟨rfl,rfl⟩;exact⟨TC.refl _,.int _⟩
 .unfold Yl at hle;simp at hle;show n<=i;omega
set_option tactic.hygienic true in
theorem ziL(h:RE K E t m):RI K E (znv (UP t zeU)) (iR1 m):=by
 intro F j σ H ρ S r R En0 e k;rcases zB e with⟨x,S1,e1,e⟩|⟨c,S1,e1,rfl⟩
 .split at e
  .split at e
   .rename_i hb;cases e;exact h En0 e1 λj1 H1 X1 E1 u hu=>⟨_,by rw[hu.int_inv],hb.1,hb.2,k _ _ X1 E1 _ zkg⟩
   .cases e
  .cases e
 .exact h En0 e1 k
end
noncomputable def rn{α β:Type}(m:pT (Rs α))(f:α->Sto->pT β):pT β:=match m with
 |some (.ok a S)=>f a S
 |_=>jr
theorem zd3{α β:Type}{m:pT (Rs α)}{f:α->Sto->pT β}{r:β}(h:rn m f=iJ r):∃a S,m=iJ (.ok a S)/\f a S=iJ r:=by
 unfold rn at h;split at h
 .exact⟨_,_,rfl,h⟩
 .cases h
noncomputable def zd4(cap:pR (pT Nat))(ρ:Rho):Rho:=cap.map λo=>o.bind λi=>(ρ[i]?).join
noncomputable def vR(get:Sto->pT (pR Xv))(g:TwG)(c:TwT)(e:TwE)(ρc:Rho):Nat->Nat->pR Xv->Sto->pT (Rs Xv)
 |0,_,_,_=>jr
 |f+1,i,es,S=>(get S).bind λxs=>match xs[i]? with
  |none=>if i=xs.length then iJ (.ok (.ref S.length) (S++[.lst es])) else jr
  |some x=>rn (g x ρc S) λρ1 S1=>rn (c ρ1 S1) λb S2=>if b then rn (e ρ1 S2) λy S3=>if es.length<sizeLine then vR get g c e ρc f (i+1) (es++[y]) S3 else jr
    else vR get g c e ρc f (i+1) es S2
noncomputable def xu(cap:pR (pT Nat))(m:TwI)(g:TwG)(c:TwT)(e:TwE):TwE:=λρ S=>rb (m ρ S) λget S1=>(get S1).bind λxs=>vR get g c e (zd4 cap ρ) (xs.length+1) 0 [] S1
noncomputable def xF:TwT:=λ_ S=>iJ (.ok jD S)
section
variable{E:XK}{ρ ρ':Rho}{S S':Sto}
theorem zd5:RT K E (λ_ H Q=>Q jD H) xF:=λE1 e k=>by
 cases e;exact k _ _ Ext.refl E1
def UT(j:pR qY)(S:Sto)(a:qY):Prop:=∀(n:Nat) c,j[n]? =iJ a->S[n]? =iJ c->c.fz=jD
theorem En.notIn(E1:En K F j H σ ρ S)(h:H a=jr):UT j S a:=λn c e1 e2=>by
 cases z:c.fz with
 |true=>rfl
 |false=>
  obtain⟨o,e,_⟩:=(E1.cel n c a e2 e1).mu z;rw[h] at e;cases e
theorem En.outside(E1:En K F j H σ ρ S)(h:UT j S a)(h0:H a=iJ o0)(m0:o0.mu=jD)(hf:F.H0 a=jr):En K F j (upd H a o) σ ρ S/\Ext j H j (upd H a o):=by
 have X:Ext j H j (upd H a o):=⟨λ_ _ e=>e,λb u e m=>by
  have:b≠a:=λq=>by subst q;rw[h0] at e;cases e;rw[m] at m0;cases m0
  rw[yi this];exact e⟩
 refine⟨⟨E1.len,λi x e=> ?_,E1.jl,E1.inj,λn c b e1 e2=> ?_,E1.ext.trans X,E1.old,E1.l0,λb u e=> ?_,E1.fresh,λb e=> ?_⟩,X⟩
 .obtain⟨v,e1,e2⟩:=E1.slot i x e;exact⟨v,e1,e2.mono X⟩
 .refine (E1.cel n c b e1 e2).mono X λz=>yi λq=> ?_;subst q;rw[h n c e2 e1] at z;cases z
 .have hb:b≠a:=λq=>by subst q;rw[hf] at e;cases e
  rcases E1.keep b u e with h|h
  .exact .inl (by rw[yi hb];exact h)
  .exact .inr h
 .have hb:b≠a:=λq=>by subst q;rw[yH] at e;cases e
  rw[yi hb] at e;exact E1.dom b e
theorem En.adopt(E1:En K F j H σ ρ S)(h:UT j S a)(hf:F.H0 a=jr)(hc:zcO K (j++[a]) H a c):En K F (j++[a]) H σ ρ (S++[c])/\Ext j H (j++[a]) H:=by
 have X:Ext j H (j++[a]) H:=⟨λn b e=>by rw[uB (uq.1 e).1];exact e,Ys.refl _⟩;have lt:∀{n:Nat} {d:Ce},S[n]? =iJ d->n<S.length:=λe=>(uq.1 e).1;have at_:∀{n:Nat} {b:qY} {d:Ce},(j++[a])[n]? =iJ b->(S++[c])[n]? =iJ d->(j[n]? =iJ b/\S[n]? =iJ d)\/(n=S.length/\b=a/\d=c):=λ{n b d} e1 e2=>by
  by_cases hn:n<S.length
  .rw[uB hn] at e2;rw[uB (by rw[E1.jl];exact hn)] at e1;exact .inl ⟨e1,e2⟩
  .rw[uL ⋯] at e2;rw[uL (by rw[E1.jl];omega),E1.jl] at e1;cases hm:n-S.length with
   |zero=>rw[hm] at e1 e2;simp at e1 e2;exact .inr ⟨⋯,e1.symm,e2.symm⟩
   |succ m=>rw[hm] at e1;simp at e1
 refine⟨⟨E1.len,λi x e=> ?_,by simp[E1.jl],λn m b c1 c2 e1 e2 e3 e4 z1 z2=> ?_,λn d b e1 e2=> ?_,E1.ext.trans X,λn d e=> ?_,E1.l0,E1.keep,λn b hn e=> ?_,E1.dom⟩,X⟩
 .obtain⟨v,e1,e2⟩:=E1.slot i x e;exact⟨v,e1,e2.mono X⟩
 .rcases at_ e1 e3 with⟨f1,f2⟩|⟨f1,f2,f3⟩
  .rcases at_ e2 e4 with⟨g1,g2⟩|⟨g1,g2,g3⟩
   .exact E1.inj n m b c1 c2 f1 g1 f2 g2 z1 z2
   .subst g2;rw[h n c1 f1 f2] at z1;cases z1
  .rcases at_ e2 e4 with⟨g1,g2⟩|⟨g1,g2,g3⟩
   .subst f2;rw[h m c2 g1 g2] at z2;cases z2
   .rw[f1,g1]
 .rcases at_ e2 e1 with⟨f1,f2⟩|⟨f1,rfl,rfl⟩
  .exact (E1.cel n d b f2 f1).mono X λ_=>rfl
  .exact hc
 .obtain⟨d',e1,e2⟩:=E1.old n d e;exact⟨d',by rw[uB (lt e1)];exact e1,e2⟩
 .by_cases hm:n<j.length
  .rw[uB hm] at e;exact E1.fresh n b hn e
  .rw[uL ⋯] at e;cases hk:n-j.length with
   |zero=>rw[hk] at e;simp at e;subst e;exact hf
   |succ m=>rw[hk] at e;simp at e
theorem ziM(E1:En K F j H σ ρ S):(YY cap σ).length=(zd4 cap ρ).length/\∀(i:Nat) x,(zd4 cap ρ)[i]? =iJ (iJ x)->∃v,(YY cap σ)[i]? =iJ (iJ v)/\Xis K j H x v:=by
 refine⟨by simp[YY,zd4],λi x h=> ?_⟩;unfold zd4 at h;unfold YY;rw[uA] at h ⊢;cases e:cap[i]? with
 |none=>rw[e] at h;cases h
 |some o=>
  rw[e] at h;cases o with
  |none=>simp at h
  |some k=>
   simp only[CT,uJ,z9] at h ⊢;cases q:ρ[k]? with
   |none=>rw[q] at h;simp at h
   |some z=>
    rw[q] at h;simp at h;subst h;obtain⟨v,e1,e2⟩:=E1.slot k x q;exact⟨v,by rw[e1];rfl,e2⟩
set_option tactic.hygienic true in
theorem zd6(hi:RI K E wi m)(hg:RG K E0 g g')(hc:RT K E0 tt c)(he:RE K E0 te e):RE K E (zjM cap wi g tt te) (xu cap m g' c e):=by
 intro F j σ H ρ S r Q En0 h k;rcases zB h with⟨get,S1,e1,h⟩|⟨c1,S1,e1,rfl⟩
 .refine hi En0 e1 λj1 H1 X1 E1 J ok acc iM=> ?_;cases eg:get S1 with
  |none=>rw[eg] at h;cases h
  |some xs=>
   rw[eg] at h;have hf:F.H0 acc=jr:=E1.dom acc iM;obtain⟨Ea,Xa⟩:=E1.new (o:= .lst []) iM
   refine⟨λi n ys H2=>∃j2 S2 es,Ext j1 H1 j2 H2/\En K F j2 H2 σ ρ S2/\H2 acc=iJ (.lst ys)/\yp K j2 H2 es ys/\UT j2 S2 acc/\vR get g' c e (zd4 cap ρ) n i es S2=iJ r,
    ⟨xs.length+1,j1,S1,[],Xa,Ea,yH,.nil,E1.notIn iM,h⟩,?_⟩
   rintro i n ys H2 ⟨j2,S2,es,X2,E2,h2,nO,nin,e2⟩;cases n with
   |zero=>cases e2
   |succ n=>
    unfold vR at e2;cases lR:get S2 with
    |none=>rw[lR] at e2;cases e2
    |some zs=>
     rw[lR] at e2;dsimp only[Ck] at e2;obtain⟨go,stop⟩:=ok i X2 E2 lR;split at e2
     .split at e2
      .rename_i hl;cases e2;obtain⟨E3,X3⟩:=E2.adopt (c:= .lst es) nin hf ⟨ys,h2,nO.mono ⟨λn b e=>by rw[uB (uq.1 e).1];exact e,Ys.refl _⟩⟩;exact .inl ⟨stop hl,k _ _ (X1.trans (X2.trans X3)) E3 _ (.ref (by rw[<-E2.jl];simp))⟩
      .cases e2
     .rename_i x ex;obtain⟨g1,g2⟩:=go x ex;refine .inr ⟨g1,λv H3 hy=> ?_⟩;obtain⟨Sm,hv⟩:=g2 v H3 hy;have E3:=E2.heap Sm;have X3:Ext j2 H2 j2 H3:=Ext.same Sm;have h3:H3 acc=iJ (.lst ys):=Sm _ _ h2;obtain⟨cl,cs⟩:=ziM (cap:=cap) E3;have I0:=E3.enter cl cs;obtain⟨ρ4,S4,e4,e2⟩:=zd3 e2;obtain⟨b,S5,e5,e2⟩:=zd3 e2;have behind:∀{j6:pR qY} {H6:Hp} {σ6:St} {ρ6:Rho} {S6:Sto},En K ⟨H3,j2,S2⟩ j6 H6 σ6 ρ6 S6->En K F j6 H6 σ ρ S6/\Ext j2 H2 j6 H6/\H6 acc=iJ (.lst ys)/\UT j6 S6 acc:=λ{j6 H6 σ6 ρ6 S6} X=>by
       obtain⟨E6,X6⟩:=E3.leave X;refine⟨E6,X3.trans X6,?_,λn d q1 q2=> ?_⟩
       .rcases X.keep acc _ h3 with q|⟨n,d,q1,q2,q3⟩
        .exact q
        .rw[nin n d q1 q2] at q3;cases q3
       .by_cases hn:n<j2.length
        .have p1:j2[n]? =iJ j2[n]:=uo hn;have p2:=X6.pre n _ p1;rw[q1] at p2;cases p2;have jc:n<S2.length:=by rw[<-E2.jl];exact hn
         obtain⟨d',f1,_,f3⟩:=X.old n _ (uo jc);rw[q2] at f1;cases f1;have hz:=nin n _ p1 (uo jc);rw[f3 hz];exact hz
        .have q:=X.fresh n acc (by dsimp only;omega) q1;have q:H3 acc=jr:=q;rw[h3] at q;cases q
      refine hg I0 hv e4 λσ4 j4 H4 X4 I4=>hc I4 e5 λj5 H5 X5 I5=> ?_;cases b with
      |true=>
       rw[if_pos rfl];rw[if_pos rfl] at e2;obtain⟨y,S6,e6,e2⟩:=zd3 e2;split at e2
       .rename_i iW;refine he I5 e6 λj6 H6 X6 I6 w hw=> ?_;obtain⟨E6,X26,h6,kq⟩:=behind I6;obtain⟨E7,X7⟩:=E6.outside (o:= .lst (ys++[w])) kq h6 rfl hf;refine⟨h6,by rw[nO.len];exact iW,n,A4 _,j6,S6,es++[y],X2.trans (X26.trans X7),E7,yH,((nO.mono X26).append (.one hw)).mono X7,kq,e2⟩
       .cases e2
      |false=>
       rw[if_neg (by simp)];rw[if_neg (by simp)] at e2;obtain⟨E6,X26,h6,kq⟩:=behind I5;exact⟨n,A4 _,j5,S5,es,X2.trans X26,E6,h6,nO.mono X26,kq,e2⟩
 .exact hi En0 e1 k
theorem zgC(h:RE K E (zjM cap wi g tt te) m):RS K E (ze6 i cap wi g tt te) (zH m (gN i)):=by
 intro F j D' σ H ρ S fl E1 e k;rcases wB e with⟨x,S1,e1,e⟩|⟨c,S1,e1,rfl⟩
 .cases e;exact h (Q:=λv H2=>D'.nx (σ.set i (iJ v)) H2) E1 e1 λj1 H1 X1 E1 u hu=>k _ _ _ X1 (E1.set hu)
 .exact h (Q:=λv H2=>D'.nx (σ.set i (iJ v)) H2) E1 e1 k
abbrev TwF:=pR Xv->Sto->pT (Rs Xv)
noncomputable def zN(n k:Nat)(b:TwS):TwF:=λxs S=>if xs.length=n then match b (xs.map iJ++uI k jr) S with
  |some (.rt x S')=>iJ (.ok x S')
  |some (.nx _ S')=>iJ (.ok .non S')
  |some (.ex c S')=>iJ (.ex c S')
  |_=>jr
 else jr
def zqu(K:uk)(F:Fm)(Q:VK)(E:XK):Rs Xv->Prop
 | .ok x S'=>∀v j' H' σ ρ,En K F j' H' σ ρ S'->Xis K j' H' x v->Q v H'
 | .ex c S'=>∀j' H' σ ρ C,En K F j' H' σ ρ S'->uC K mainGlobals c=iJ (iJ (.ref C))->E (.ref C) jr H'
def sTw(K:uk)(n:Nat)(tw:TwF):Sp:=λvs H Q E=>vs.length=n/\∃(j:pR qY) (S:Sto) (xs:pR Xv) (r:Rs Xv),En K ⟨H,j,S⟩ j H (vs.map iJ) (xs.map iJ) S/\tw xs S=iJ r/\zqu K ⟨H,j,S⟩ Q E r
set_option tactic.hygienic true in
theorem yb{N:pR Str}{Q:VK}(hN:N.length=n+k)(h:RS K E t b)(hs:sTw K n (zN n k b) vs H Q E):t {nx:=λ_ H'=>Q .non H',rt:=Q} (VB N vs) H:=by
 obtain⟨hn,j,S,xs,r,E1,e,ret⟩:=hs;have es:VB N vs=vs.map iJ++uI k jr:=by
  unfold VB;rw[hN,hn,Nat.add_sub_cancel_left]
 rw[es];unfold zN at e;split at e
 .split at e
  .rename_i x S' e1;cases e;exact h E1.grow e1 λv σ ρ j' H' X E' hv=>ret _ _ _ _ _ E' hv
  .rename_i ρ' S' e1;cases e;exact h E1.grow e1 λσ j' H' X E'=>ret _ _ _ _ _ E' .non
  .rename_i c S' e1;cases e;exact h E1.grow e1 λj' H' σ' ρ' C X E' hC=>ret _ _ _ _ _ E' hC
  .cases e
 .cases e
theorem wf{P:Program}(hl:ps.length=n:=by rfl):yh P w K mg base CX k f fd ps (sTw K n λ_ _=>jr):=
 ⟨λvs H Q E h=>h.1.trans hl.symm,λA outer s H args us vs Q E hr he hb hv hs=>by
  obtain⟨_,_,_,_,_,_,z,_⟩:=hs
  cases z⟩
noncomputable def zf(tw:TwF)(ms:pR TwE):TwE:=λρ S=>rb (evL ms ρ S) λxs S1=>tw xs S1
theorem zgD(hv:yp K j H xs vs):(vs.map iJ).length=(xs.map iJ).length/\∀(i:Nat) x,(xs.map iJ)[i]? =iJ (iJ x)->∃v,(vs.map iJ)[i]? =iJ (iJ v)/\Xis K j H x v:=by
 refine⟨by simp[hv.len],λi x h=> ?_⟩;rw[uA] at h ⊢;cases e:xs[i]? with
 |none=>rw[e] at h;cases h
 |some y=>
  rw[e] at h;simp at h;subst h;obtain⟨v,e1,e2⟩:=hv.get e;exact⟨v,by rw[e1];rfl,e2⟩
theorem Uy{Q:VK}(E1:En K F j H σ ρ S)(hv:yp K j H xs vs)(hn:vs.length=n)(et:tw xs S=iJ r)(k:Po K F j H σ ρ E' (PoV K Q) r):sTw K n tw vs H Q E':=by
 obtain⟨l,s⟩:=zgD hv;refine⟨hn,j,S,xs,r,E1.enter l s,et,?_⟩;cases r with
 |ok x S'=>
  intro v j' H' σ' ρ' X hx;obtain⟨E2,X2⟩:=E1.leave X;exact k j' H' X2 E2 v hx
 |ex c S'=>
  intro j' H' σ' ρ' C X hC;obtain⟨E2,X2⟩:=E1.leave X;exact k j' H' σ ρ C X2 E2 hC
theorem yF(h:RL K E t (evL ms))(hn:ms.length=n:=by rfl):RE K E (znx (sTw K n tw) [] E t) (zf tw ms):=by
 intro F j σ H ρ S r Q En0 e k;rcases zB e with⟨xs,S1,e1,e⟩|⟨c,S1,e1,rfl⟩
 .refine h En0 e1 λj1 H1 X1 E1 vs hv=> ?_;rw[z6];exact Uy E1 hv (by rw[hv.len,WM e1,hn]) e (k.step X1)
 .exact h En0 e1 k
end
def zb3(K:uk):Sp:=λvs H Q _=>∃(a:qY) (ns:pR Int),vs=[V.ref a]/\zl8 H/\SqX K H a (ns.map V.int)/\ns.length<=63/\∀H',Q (.bl jD) H'
theorem zoL{P:Program}(Fn:yh P w K mg base CX k f fd ps (sTw K 1 tw))
  (h:∀ns:pR Int,ns.length<=63->∃S,tw [.ref 0] [.frz (ns.map Xv.int)]=iJ (.ok (.bl jD) S)):yh P w K mg base CX k f fd ps (zb3 K):=by
 refine Fn.imp ?_;rintro vs H Q E ⟨a,ns,rfl,hO,hS,hl,q⟩;obtain⟨S',e⟩:=h ns hl;refine⟨rfl,[a],[.frz (ns.map Xv.int)],[.ref 0],_,?_,e,λv j' H' σ ρ E' hv=> ?_⟩
 .refine⟨rfl,λi x e=> ?_,rfl,λn m b c d _ _ e3 _ z _=> ?_,λn c b e1 e2=> ?_,Ext.refl,λn c e=>⟨c,e,λz=>z,λ_=>rfl⟩,rfl,λb u e=> .inl e,λn b hn e=> ?_,λb e=>e⟩
  .cases i with
   |zero=>simp at e;subst e;exact⟨_,rfl,.ref rfl⟩
   |succ i=>simp at e
  .cases n with
   |zero=>simp at e3;subst e3;cases z
   |succ n=>simp at e3
  .cases n with
   |zero=>
    simp at e1 e2;subst e1 e2;refine⟨ns.map V.int,?_,yp.ints ns⟩;rcases hS with (hS|⟨o,hS⟩)|hS
    .rcases hO a with z|⟨o,xs,z⟩
     .rw[z] at hS;cases hS
     .rw[z] at hS;cases hS
    .exact .inl ⟨o,hS⟩
    .exact .inr λH=> .inr hS
   |succ n=>simp at e1
  .dsimp only at hn;have:=(uq.1 e).1;omega
 .rw[hv.bl_inv];exact q H'
end L2
variable{ρ:L2.Rho}{S:L2.Sto}{P:L2.Xv->L2.Sto->Prop}{N:L2.Rho->L2.Sto->Prop}{R:L2.Xv->L2.Sto->Prop}
namespace L2
open PySem PySem.Spec PyProof.Rows
open PySem.Builtin.Int (intBits)
noncomputable def xI(g:Int->Int->Xv):Op2:=λx y S=>match x,y with
 | .int a,.int b=>iJ (g a b,S)
 |_,_=>jr
noncomputable def xIC(c:Int->Int->Bool)(g:Int->Int->Xv):Op2:=λx y S=>match x,y with
 | .int a,.int b=>if c a b then iJ (g a b,S) else jr
 |_,_=>jr
noncomputable def xk:Op2:=xI λi j=> .int (i+j)
noncomputable def zb4:Op2:=xI λi j=> .int (i-j)
noncomputable def zmq:Op2:=xIC (λi j=>decide ((-(2^64)<i/\i<2^64)\/(-(2^64)<j/\j<2^64))) λi j=> .int (i*j)
noncomputable def Wv:Op2:=xIC (λi j=>decide (intBits i+intBits j<=134217728)) λi j=> .int (i*j)
noncomputable def zcR:Op2:=xIC (λ_ j=>decide (0<j)) λi j=> .int (i % j)
noncomputable def ziN:Op2:=xIC (λi j=>decide (0<=j/\j<=1000000/\i.natAbs<2^64)) λi j=> .int (i^j.toNat)
noncomputable def dLt:Op2:=xI λi j=> .bl (decide (i<j))
noncomputable def dLe:Op2:=xI λi j=> .bl (decide (i<=j))
noncomputable def dGt:Op2:=xI λi j=> .bl (decide (j<i))
noncomputable def Zs:Op2:=xI λi j=> .bl (decide (i=j))
noncomputable def zd7:Op2:=xI λi j=> .bl (!decide (i=j))
noncomputable def zd8:Xv->Sto->pT (Xv×Sto):=λx S=>match x with
 | .int i=>iJ (.int (-i),S)
 |_=>jr
section
variable{E:XK}{F:Fm}{j j':pR qY}{H':Hp}{σ':St}{ρ':Rho}{S':Sto}{x:Xv}{v:V}{ta tb:TE}{a b:TwE}
theorem zkh{g:Int->Int->V}{g':Int->Int->Xv}(hg:∀i k j H,Xis K j H (g' i k) (g i k)):Xy K (rI0 g) (xI g'):=by
 intro F j σ H ρ S S' x y z u v Q E1 hx hy h k;unfold xI at h;split at h
 .cases h;exact⟨_,_,hx.int_inv,hy.int_inv,k _ _ _ Ext.refl E1 (hg _ _ _ _)⟩
 .cases h
theorem zmr{C:Int->Int->Prop}{c:Int->Int->Bool}{g:Int->Int->V}{g':Int->Int->Xv}(hc:∀i j,c i j=jD->C i j)(hg:∀i k j H,Xis K j H (g' i k) (g i k)):Xy K (rI C g) (xIC c g'):=by
 intro F j σ H ρ S S' x y z u v Q E1 hx hy h k;unfold xIC at h;split at h
 .split at h
  .cases h;exact⟨_,_,hx.int_inv,hy.int_inv,hc _ _ (by assumption),k _ _ _ Ext.refl E1 (hg _ _ _ _)⟩
  .cases h
 .cases h
theorem zb5{p:Int->Int->Bool}(ha:RE K E ta a)(hb:RE K E tb b):RE K E (zeP p ta tb) (eOp (xI λi j=> .bl (p i j)) a b):=
 wn (r:=rI0 λi j=> .bl (p i j)) (zkh λi k _ _=> .bl _) ha hb
theorem Tg:Xy K (rI0 λi j=> .int (i+j)) xk:=zkh λ_ _ _ _=> .int _
theorem zki:Xy K (rI0 λi j=> .int (i-j)) zb4:=zkh λ_ _ _ _=> .int _
theorem zkj:Xy K (rI zjt λi j=> .int (i*j)) zmq:=zmr (λi j h=>by simpa [zjt] using h) λ_ _ _ _=> .int _
theorem zhy:Xy K (rI znE λi j=> .int (i*j)) Wv:=zmr (λi j h=>⟨intBits i,intBits j,uv _,uv _,by simpa using h⟩) λ_ _ _ _=> .int _
theorem zkk:Xy K (rI (λ_ j=>0<j) λi j=> .int (i % j)) zcR:=zmr (λi j h=>by simpa using h) λ_ _ _ _=> .int _
theorem zkl:Xy K (rI zok λi j=> .int (i^j.toNat)) ziN:=zmr (λi j h=>by simpa [zok] using h) λ_ _ _ _=> .int _
theorem zqv(ha:RE K E ta a)(hb:RE K E tb b):RE K E (tLt ta tb) (eOp dLt a b):=zb5 ha hb
theorem zqw(ha:RE K E ta a)(hb:RE K E tb b):RE K E (tLe ta tb) (eOp dLe a b):=zb5 ha hb
theorem zqx(ha:RE K E ta a)(hb:RE K E tb b):RE K E (tGt ta tb) (eOp dGt a b):=zb5 ha hb
theorem zd9(ha:RE K E ta a)(hb:RE K E tb b):RE K E (zpO ta tb) (eOp Zs a b):=zb5 ha hb
theorem zgE(ha:RE K E ta a)(hb:RE K E tb b):RE K E (zpP ta tb) (eOp zd7 a b):=zb5 ha hb
theorem zkm:zqn K (rU λi=> .int (-i)) zd8:=by
 intro F j σ H ρ S S' x z u Q E1 hx h k;unfold zd8 at h;split at h
 .cases h;exact⟨_,hx.int_inv,k _ _ _ Ext.refl E1 (.int _)⟩
 .cases h
noncomputable def zQ:Op2:=λx y S=>match x,y with
 | .str a,.str b=>if a.length+b.length<=sizeLine then iJ (.str (a++b),S) else jr
 |_,_=>jr
theorem zhz:Xy K (λx y H Q=>∃i j,x= .str i/\y= .str j/\i.length+j.length<=sizeLine/\Q (.str (i++j)) H) zQ:=by
 intro F j σ H ρ S S' x y z u v Q E1 hx hy h k;unfold zQ at h;split at h
 .split at h
  .cases h;exact⟨_,_,hx.str_inv,hy.str_inv,by assumption,k _ _ _ Ext.refl E1 (.str _)⟩
  .cases h
 .cases h
noncomputable def zfg:Op2:=λx y S=>match x,y with
 | .tup a,.tup b=>if a.length+b.length<=sizeLine then iJ (.tup (a++b),S) else jr
 |_,_=>jr
set_option tactic.hygienic true in
theorem zhA:Xy K (znG K) zfg:=by
 intro F j σ H ρ S S' x y z u v Q E1 hx hy h k;unfold zfg at h;split at h
 .split at h
  .rename_i hz;cases h;obtain⟨p,xs,rfl,h1,h2⟩:=hx.tup_inv;obtain⟨q,ys,rfl,g1,g2⟩:=hy.tup_inv;refine⟨p,q,xs,ys,rfl,rfl,SqT.of h1,SqT.of g1,by rw[h2.len,g2.len];exact hz,λe=> ?_,λ_ e=> ?_,λ_ _ l hl=> ?_⟩
   .subst e;obtain rfl:=Aa.1 h2.len.symm;exact k _ _ _ Ext.refl E1 hy
   .subst e;obtain rfl:=Aa.1 g2.len.symm;refine k _ _ _ Ext.refl E1 ?_;rw[z6];exact hx
   .obtain⟨E2,X2⟩:=E1.new (o:= .tup (xs++ys)) hl;exact k _ _ _ X2 E2 (.tup yH ((h2.append g2).mono X2))
  .cases h
 .cases h
noncomputable def yI:Op2:=λx y S=>match ya S x,ya S y with
 |some a,iJ b=>if a.length+b.length<=sizeLine then iJ (.ref S.length,S++[.lst (a++b)]) else jr
 |_,_=>jr
set_option tactic.hygienic true in
theorem zhB:Xy K (znI K) yI:=by
 intro F j σ H ρ S S' x y z u v Q E1 hx hy h k;unfold yI at h;split at h
 .rename_i l1 l2 e1 e2;split at h
  .rename_i hz;cases h;obtain⟨p,xs,rfl,h1,h2⟩:=E1.lstAt hx e1;obtain⟨q,ys,rfl,g1,g2⟩:=E1.lstAt hy e2;refine⟨p,q,xs,ys,rfl,rfl,h1,g1,by rw[h2.len,g2.len];exact hz,λl hl=> ?_⟩;obtain⟨E2,X2,h3⟩:=E1.lst (h2.append g2) hl;exact k _ _ _ X2 E2 h3
  .cases h
 .cases h
noncomputable def zhC(g:Int->Int->Xv):Opn:=λxs S=>match xs with
 |[.int i,.int j]=>iJ (g i j,S)
 |_=>jr
theorem zhD{g:Int->Int->V}{g':Int->Int->Xv}(hg:∀i k j H,Xis K j H (g' i k) (g i k)):Td K (λxs H Q=>∃i j,xs=[V.int i,V.int j]/\Q (g i j) H) (zhC g'):=by
 intro F j σ H ρ S S' xs z vs Q E1 hv h k;unfold zhC at h;split at h
 .cases h;obtain⟨x,y,rfl,hx,hy⟩:=hv.d2;exact⟨_,_,by rw[hx.int_inv,hy.int_inv],k _ _ _ Ext.refl E1 (hg _ _ _ _)⟩
 .cases h
noncomputable def zoM:Opn:=zhC λi j=> .int (if j<i then j else i)
noncomputable def zfh:Opn:=zhC λi j=> .int (if j>i then j else i)
theorem zkn:Td K (λxs H Q=>∃i j,xs=[V.int i,V.int j]/\Q (.int (if j<i then j else i)) H) zoM:=zhD λ_ _ _ _=> .int _
theorem zko:Td K (λxs H Q=>∃i j,xs=[V.int i,V.int j]/\Q (.int (if j>i then j else i)) H) zfh:=zhD λ_ _ _ _=> .int _
noncomputable def xO:Opn:=λxs S=>match xs with
 |[x]=>(XE S x).map λl=>(.int l.length,S)
 |_=>jr
set_option tactic.hygienic true in
theorem zaM:Td K (λxs H Q=>∃p ys,xs=[V.ref p]/\(SqL K H p ys\/SqT K H p ys)/\Q (.int ys.length) H) xO:=by
 intro F j σ H ρ S S' xs z vs Q E1 hv h k;unfold xO at h;split at h
 .rename_i x;cases e:XE S x with
  |none=>rw[e] at h;cases h
  |some l=>
   rw[e] at h;cases h;obtain⟨w,rfl,hx⟩:=hv.d1;obtain⟨a,ws,rfl,h1,h2⟩:=E1.seqAt hx e;refine⟨a,ws,rfl,?_,k _ _ _ Ext.refl E1 (by rw[h2.len];exact .int _)⟩;rcases h1 with h1|h1
   .exact .inl h1.sql
   .exact .inr h1
 .cases h
noncomputable def VJ:Opn:=λxs S=>match xs with
 |[.str z]=>if z.length<=sizeLine then iJ (.int z.length,S) else jr
 |_=>jr
theorem zhE:Td K (λxs H Q=>∃z,xs=[V.str z]/\z.length<=sizeLine/\Q (.int z.length) H) VJ:=by
 intro F j σ H ρ S S' xs z vs Q E1 hv h k;unfold VJ at h;split at h
 .split at h
  .cases h;obtain⟨x,rfl,hx⟩:=hv.d1;exact⟨_,by rw[hx.str_inv],by assumption,k _ _ _ Ext.refl E1 (.int _)⟩
  .cases h
 .cases h
noncomputable def zhF:Opn:=λxs S=>match xs with
 |[x]=>(XE S x).map λl=>(.ref S.length,S++[.lst l])
 |_=>jr
set_option tactic.hygienic true in
theorem zhG:Td K (λxs H Q=>∃p ys,xs=[V.ref p]/\(SqL K H p ys\/SqT K H p ys)/\∀l,H l=jr->Q (.ref l) (upd H l (.lst ys))) zhF:=by
 intro F j σ H ρ S S' xs z vs Q E1 hv h k;unfold zhF at h;split at h
 .rename_i x;cases e:XE S x with
  |none=>rw[e] at h;cases h
  |some l=>
   rw[e] at h;cases h;obtain⟨w,rfl,hx⟩:=hv.d1;obtain⟨a,ws,rfl,h1,h2⟩:=E1.seqAt hx e;refine⟨a,ws,rfl,?_,λp hp=> ?_⟩
   .rcases h1 with h1|h1
    .exact .inl h1.sql
    .exact .inr h1
   .obtain⟨E2,X2,h3⟩:=E1.lst h2 hp;exact k _ _ _ X2 E2 h3
 .cases h
noncomputable def vS:Opn:=λxs S=>match xs with
 |[.tup l]=>iJ (.tup l,S)
 |[x]=>(ya S x).map λl=>(.tup l,S)
 |_=>jr
set_option tactic.hygienic true in
theorem VL:Td K (λxs H Q=>∃p ys,xs=[V.ref p]/\((SqL K H p ys/\∀l,H l=jr->Q (.ref l) (upd H l (.tup ys)))\/(SqT K H p ys/\Q (.ref p) H))) vS:=by
 intro F j σ H ρ S S' xs z vs Q E1 hv h k;unfold vS at h;split at h
 .cases h;obtain⟨w,rfl,hx⟩:=hv.d1;obtain⟨a,ws,rfl,h1,h2⟩:=hx.tup_inv;exact⟨a,ws,rfl,.inr ⟨SqT.of h1,k _ _ _ Ext.refl E1 hx⟩⟩
 .rename_i x _;cases e:ya S x with
  |none=>rw[e] at h;cases h
  |some l=>
   rw[e] at h;cases h;obtain⟨w,rfl,hx⟩:=hv.d1;obtain⟨a,ws,rfl,h1,h2⟩:=E1.lstAt hx e;refine⟨a,ws,rfl,.inl ⟨h1.sql,λp hp=> ?_⟩⟩;obtain⟨E2,X2⟩:=E1.new (o:= .tup ws) hp;exact k _ _ _ X2 E2 (.tup yH (h2.mono X2))
 .cases h
noncomputable def Ww:pR Xv->pT (pR Int)
 |[]=>iJ []
 | .int i::r=>(Ww r).map (i:: ·)
 |_::_=>jr
theorem TK{xs:pR Xv}{ns:pR Int}{vs:pR V}(e:Ww xs=iJ ns)(h:yp K j H xs vs):vs=ns.map V.int:=by
 induction xs generalizing ns vs with
 |nil=>cases e;exact h.nil_inv
 |cons x r i=>
  obtain⟨v,ws,rfl,h1,h2⟩:=h.cons_inv;cases x<;>try cases e
  have e:(Ww r).map _=iJ ns:=e
  rw[uH] at e;obtain⟨ms,e2,rfl⟩:=e;rw[h1.int_inv,i e2 h2];rfl
noncomputable def TL:pR Xv->pT (pR Bool)
 |[]=>iJ []
 | .bl i::r=>(TL r).map (i:: ·)
 |_::_=>jr
theorem zfi{xs:pR Xv}{ns:pR Bool}{vs:pR V}(e:TL xs=iJ ns)(h:yp K j H xs vs):vs=ns.map V.bl:=by
 induction xs generalizing ns vs with
 |nil=>cases e;exact h.nil_inv
 |cons x r i=>
  obtain⟨v,ws,rfl,h1,h2⟩:=h.cons_inv;cases x<;>try cases e
  have e:(TL r).map _=iJ ns:=e
  rw[uH] at e;obtain⟨ms,e2,rfl⟩:=e;rw[h1.bl_inv,i e2 h2];rfl
noncomputable def zgF:Opn:=λxs S=>match xs with
 |[x]=>((ya S x).bind Ww).map λns=>(.int ns.sum,S)
 |_=>jr
set_option tactic.hygienic true in
theorem zkp:Td K (zqj K) zgF:=by
 intro F j σ H ρ S S' xs z vs Q E1 hv h k;unfold zgF at h;split at h
 .rename_i x;cases e:ya S x with
  |none=>rw[e] at h;cases h
  |some l=>
   rw[e] at h;cases e2:Ww l with
   |none=>simp[e2] at h
   |some ns=>
    simp[e2] at h;obtain⟨rfl,rfl⟩:=h;obtain⟨w,rfl,hx⟩:=hv.d1;obtain⟨p,ws,rfl,h1,h2⟩:=E1.lstAt hx e;refine⟨p,ns,rfl,?_,k _ _ _ Ext.refl E1 (.int _)⟩;rw[<-TK e2 h2];exact h1.sql
 .cases h
noncomputable def zfj:Opn:=λxs S=>match xs with
 |[x]=>(x.tupOf.bind Ww).map λns=>(.int ns.sum,S)
 |_=>jr
set_option tactic.hygienic true in
theorem zhH:Td K (znH K) zfj:=by
 intro F j σ H ρ S S' xs z vs Q E1 hv h k;unfold zfj at h;split at h
 .rename_i x;cases e:x.tupOf with
  |none=>rw[e] at h;cases h
  |some l=>
   rw[e] at h;cases e2:Ww l with
   |none=>simp[e2] at h
   |some ns=>
    simp[e2] at h;obtain⟨rfl,rfl⟩:=h;obtain⟨w,rfl,hx⟩:=hv.d1;obtain⟨p,ws,rfl,h1,h2⟩:=hx.tupO e;refine⟨p,ns,rfl,?_,k _ _ _ Ext.refl E1 (.int _)⟩;rw[<-TK e2 h2];exact h1
 .cases h
noncomputable def zb6:Opn:=λxs S=>match xs with
 |[x]=>((ya S x).bind TL).map λns=>(.bl (ns.all id),S)
 |_=>jr
set_option tactic.hygienic true in
theorem zkq:Td K (zql K) zb6:=by
 intro F j σ H ρ S S' xs z vs Q E1 hv h k;unfold zb6 at h;split at h
 .rename_i x;cases e:ya S x with
  |none=>rw[e] at h;cases h
  |some l=>
   rw[e] at h;cases e2:TL l with
   |none=>simp[e2] at h
   |some ns=>
    simp only[uJ,e2,CT,z9,Cu] at h;obtain⟨rfl,rfl⟩:=h;obtain⟨w,rfl,hx⟩:=hv.d1;obtain⟨p,ws,rfl,h1,h2⟩:=E1.lstAt hx e;refine⟨p,ns,rfl,?_,k _ _ _ Ext.refl E1 (.bl _)⟩;rw[<-zfi e2 h2];exact h1.sql
 .cases h
noncomputable def yz(neg:Bool):Op2:=λx y S=>match x,y with
 | .int a,.int b=>iJ (.bl (neg !=decide (a=b)),S)
 | .str a,.str b=>iJ (.bl (neg !=decide (a=b)),S)
 | .bl a,.bl b=>iJ (.bl (neg !=decide (a=b)),S)
 | .non,.non=>iJ (.bl (neg !=jD),S)
 | .int _,.str _=>iJ (.bl (neg !=nW),S)
 | .str _,.int _=>iJ (.bl (neg !=nW),S)
 |_,_=>jr
theorem zb7:Xy K rEq (yz nW):=by
 intro F j σ H ρ S S' x y z u v Q E1 hx hy h k;cases hx<;>cases hy<;>simp only[yz,reduceCtorEq,z9,Cu,DS] at h<;>obtain⟨rfl,rfl⟩:=h<;>refine⟨rfl,k _ _ _ Ext.refl E1 ?_⟩<;>simp<;>exact .bl _
theorem zgG:Xy K rNe (yz jD):=by
 intro F j σ H ρ S S' x y z u v Q E1 hx hy h k;cases hx<;>cases hy<;>simp only[yz,reduceCtorEq,z9,Cu,De] at h<;>obtain⟨rfl,rfl⟩:=h<;>refine⟨rfl,k _ _ _ Ext.refl E1 ?_⟩<;>simp<;>exact .bl _
noncomputable def VM:Xv->Bool
 | .non=>jD
 | .bl _=>jD
 | .int _=>jD
 | .str _=>jD
 |_=>nW
noncomputable def zb8:Xv->Xv->Bool
 | .non,.non=>jD
 | .bl a,.bl b=>a==b
 | .bl a,.int b=>(if a then 1 else 0)==b
 | .int a,.bl b=>a==(if b then 1 else 0)
 | .int a,.int b=>a==b
 | .str a,.str b=>a==b
 |_,_=>nW
noncomputable def dIn(neg:Bool):Op2:=λx y S=>(XE S y).bind λl=>if VM x&&l.all VM then iJ (.bl (neg !=l.any λz=>zb8 z x),S) else jr
theorem zfk(h:Xis K j H x v):UQ v=VM x:=by cases h<;>rfl
theorem zoN(h:Xis K j H x v)(g:Xis K j H y w)(fx:VM x=jD)(fy:VM y=jD):eqV v w=zb8 x y:=by cases h<;>cases g<;>first|rfl|cases fx|cases fy
theorem zhI{xs:pR Xv}{vs:pR V}(h:yp K j H xs vs):vs.all UQ=xs.all VM:=by
 induction xs generalizing vs with
 |nil=>cases h;rfl
 |cons v r i=>cases h with|cons h l=>rw[Aq,Aq,zfk h,i l]
theorem zhJ(hx:Xis K j H x v)(fx:VM x=jD){xs:pR Xv}{vs:pR V}(h:yp K j H xs vs)(f:xs.all VM=jD):inV v vs=xs.any λz=>zb8 z x:=by
 unfold inV;induction xs generalizing vs with
 |nil=>cases h;rfl
 |cons y r i=>cases h with|cons h l=>rw[Aq,v9] at f;rw[C1,C1,zoN h hx f.1 fx,i l f.2]
set_option tactic.hygienic true in
theorem zfl:Xy K (rIn K neg) (dIn neg):=by
 intro F j σ H ρ S S' x y z u v Q E1 hx hy h k;unfold dIn at h;cases e:XE S y with
 |none=>rw[e] at h;cases h
 |some l=>
  rw[e] at h;dsimp only[Ck] at h;split at h
  .rename_i hf;have hf:=Bool.and_eq_true_iff.1 hf;cases h;obtain⟨p,ws,rfl,h1,h2⟩:=E1.seqAt hy e;refine⟨p,ws,rfl,?_,by rw[zfk hx];exact hf.1,by rw[zhI h2];exact hf.2,k _ _ _ Ext.refl E1 ?_⟩
   .rcases h1 with h1|h1
    .exact .inl h1.sql
    .exact .inr h1
   .rw[zhJ hx hf.1 h2 hf.2];cases neg<;>simp<;>exact .bl _
  .cases h
noncomputable def ZZ(f:Xv->pT D):pR Xv->pT (pR D)
 |[]=>iJ []
 |x::r=>(f x).bind λd=>(ZZ f r).map (d:: ·)
noncomputable def wo(S:Sto):Nat->Xv->pT D
 |0,x=>match x with
  | .non=>iJ .non
  | .bl b=>iJ (.bl b)
  | .int i=>iJ (.int i)
  | .str s=>iJ (.str s)
  |_=>jr
 |n+1,x=>match x with
  | .non=>iJ .non
  | .bl b=>iJ (.bl b)
  | .int i=>iJ (.int i)
  | .str s=>iJ (.str s)
  | .tup l=>(ZZ (wo S n) l).map .tup
  | .ct l=>(ZZ (wo S n) l).map .tup
  | .ref m=>(ya S (.ref m)).bind λl=>(ZZ (wo S n) l).map .lst
theorem TM{f:Xv->pT D}(hf:∀x v d,Xis K j H x v->f x=iJ d->Is K H v d/\D.depth d<=n){xs:pR Xv}{vs:pR V}{ds:pR D}(h:yp K j H xs vs)(e:ZZ f xs=iJ ds):IsL K H vs ds/\D.depths ds<=n:=by
 induction xs generalizing vs ds with
 |nil=>cases h;cases e;exact⟨.nil,by simp[D.depths]⟩
 |cons x r i=>cases h with|cons h l=>
  unfold ZZ at e;rw[v8] at e;obtain⟨d,e1,e⟩:=e;rw[uH] at e;obtain⟨es,e2,rfl⟩:=e;obtain⟨a1,a2⟩:=hf _ _ _ h e1;obtain⟨b1,b2⟩:=i l e2;exact⟨.cons a1 b1,by unfold D.depths;omega⟩
theorem zbB(E1:En K F j H σ ρ S):∀(n:Nat) (x:Xv) (v:V) (d:D),Xis K j H x v->wo S n x=iJ d->Is K H v d/\D.depth d<=n
 |0,x,v,d,h,e=>by
  cases h<;>simp only[wo,z9,reduceCtorEq] at e<;>subst e<;>refine⟨by constructor,by simp[D.depth]⟩
 |n+1,x,v,d,h,e=>by
  have ih:=zbB E1 n;cases h with
  |non=>simp only[wo,z9] at e;subst e;exact⟨.non,by simp[D.depth]⟩
  |bl b=>simp only[wo,z9] at e;subst e;exact⟨.bl b,by simp[D.depth]⟩
  |int b=>simp only[wo,z9] at e;subst e;exact⟨.int b,by simp[D.depth]⟩
  |str b=>simp only[wo,z9] at e;subst e;exact⟨.str b,by simp[D.depth]⟩
  | @tup a vs l h1 h2=>
   simp only[wo] at e;cases e2:ZZ (wo S n) l with
   |none=>rw[e2] at e;cases e
   |some ds=>
    rw[e2] at e;cases e;obtain⟨a1,a2⟩:=TM ih h2 e2;exact⟨.tup (SqT.of h1) a1,by unfold D.depth;omega⟩
  | @ct a vs l h1 h2=>
   simp only[wo] at e;cases e2:ZZ (wo S n) l with
   |none=>rw[e2] at e;cases e
   |some ds=>
    rw[e2] at e;cases e;obtain⟨a1,a2⟩:=TM ih h2 e2;exact⟨.tup (h1 H) a1,by unfold D.depth;omega⟩
  | @ref m a h1=>
   simp only[wo] at e;cases e1:ya S (.ref m) with
   |none=>rw[e1] at e;cases e
   |some l=>
    rw[e1] at e;cases e2:ZZ (wo S n) l with
    |none=>simp[e2] at e
    |some ds=>
     simp[e2] at e;subst e;obtain⟨a',vs,ea,g1,g2⟩:=E1.lstAt (.ref h1) e1;cases ea;obtain⟨a1,a2⟩:=TM ih g2 e2;exact⟨.lst g1.sql a1,by unfold D.depth;omega⟩
noncomputable def D.many:D->Bool
 | .tup _=>jD
 | .lst _=>jD
 |_=>nW
noncomputable def zkr(c:String)(S:Sto):Xv->pT Bool
 | .non=>iJ nW
 | .int _=>iJ (c=="int")
 | .bl _=>iJ (c=="bool"||c=="int")
 | .str _=>iJ (c=="str")
 | .tup _=>iJ (c=="tuple")
 | .ct _=>iJ (c=="tuple")
 | .ref n=>(ya S (.ref n)).map λ_=>c=="list"
structure zfm(c:String):Prop where
 non:∀K,v7 K (.type "NoneType") (.type c)=iJ nW
 bl:∀K,v7 K (.type "bool") (.type c)=iJ (c=="bool"||c=="int")
 int:∀K,v7 K (.type "int") (.type c)=iJ (c=="int")
 str:∀K,v7 K (.type "str") (.type c)=iJ (c=="str")
 tup:∀K,v7 K (.type "tuple") (.type c)=iJ (c=="tuple")
 lst:∀K,v7 K (.type "list") (.type c)=iJ (c=="list")
theorem zaN(a b:String)(K:uk)(h1:(Value.type a==Value.type b)=nW)(h:(fastBuiltinMro a).map (·.contains (.type b))=iJ nW)(hm:Am b=jD):v7 K (.type a) (.type b)=iJ nW:=zoB h1 h hm rfl
theorem zhK:zfm "int":=⟨λK=>zaN _ _ K ∅ (by decide+kernel) (by decide+kernel),λK=>zdY,λK=>zbZ,λK=>zaN _ _ K ∅ (by decide+kernel) (by decide+kernel),λK=>zaN _ _ K ∅ (by decide+kernel) (by decide+kernel),λK=>zaN _ _ K ∅ (by decide+kernel) (by decide+kernel)⟩
theorem zfn:zfm "bool":=⟨λK=>zaN _ _ K ∅ (by decide+kernel) (by decide+kernel),λK=>zbZ,λK=>zdZ,λK=>zaN _ _ K ∅ (by decide+kernel) (by decide+kernel),λK=>zaN _ _ K ∅ (by decide+kernel) (by decide+kernel),λK=>zaN _ _ K ∅ (by decide+kernel) (by decide+kernel)⟩
theorem zhL:zfm "str":=⟨λK=>zaN _ _ K ∅ (by decide+kernel) (by decide+kernel),λK=>zaN _ _ K ∅ (by decide+kernel) (by decide+kernel),λK=>zaN _ _ K ∅ (by decide+kernel) (by decide+kernel),λK=>zbZ,λK=>zaN _ _ K ∅ (by decide+kernel) (by decide+kernel),λK=>zaN _ _ K ∅ (by decide+kernel) (by decide+kernel)⟩
noncomputable def zgH(c:String):Xv->Sto->pT (Xv×Sto):=λx S=>(zkr c S x).map λb=>(.bl b,S)
theorem zms{c:String}(ok:zfm c)(E1:En K F j H σ ρ S){b:Bool}{Q:VK}(h:Xis K j H x v)(e:zkr c S x=iJ b)(k:Q (.bl b) H):zjY K [v,.ty c] H Q:=by
 cases h with
 |non=>cases e;exact⟨_,_,_,_,_,rfl,rfl,.of .non,ok.non K,k⟩
 |bl b=>cases e;exact⟨_,_,_,_,_,rfl,rfl,.of (.bl b),ok.bl K,k⟩
 |int i=>cases e;exact⟨_,_,_,_,_,rfl,rfl,.of (.int i),ok.int K,k⟩
 |str z=>cases e;exact⟨_,_,_,_,_,rfl,rfl,.of (.str z),ok.str K,k⟩
 |tup h l=>cases e;exact⟨_,_,_,_,_,rfl,rfl,.sqt (SqT.of h),ok.tup K,k⟩
 |ct h l=>cases e;exact⟨_,_,_,_,_,rfl,rfl,.sqt (h H),ok.tup K,k⟩
 | @ref n a h=>
  simp only[zkr] at e;cases e1:ya S (.ref n) with
  |none=>rw[e1] at e;cases e
  |some l=>
   rw[e1] at e;cases e;obtain⟨a',vs,ea,g1,g2⟩:=E1.lstAt (.ref h) e1;cases ea;exact⟨_,_,_,_,_,rfl,rfl,.sql g1.sql,ok.lst K,k⟩
theorem zoO(ok:zfm c)(h:RE K E t m):RE K E (tCB (zjY K) (UP t (UP (tC (.ty c)) zeU))) (eUn (zgH c) m):=by
 intro F j σ H ρ S r Q En0 e k;rcases zB e with⟨x,S1,e1,e⟩|⟨c,S1,e1,rfl⟩
 .obtain⟨z,S3,e3,rfl⟩:=wm e;unfold zgH at e3;cases e4:zkr c S1 x with
  |none=>rw[e4] at e3;cases e3
  |some b=>
   rw[e4] at e3;cases e3;exact h En0 e1 λj1 H1 X1 E1 u hu=>zms ok E1 hu e4 (k _ _ X1 E1 _ (.bl _))
 .exact h En0 e1 k
end
end L2
namespace L2
open PySem PySem.Spec PyProof.Rows
noncomputable def zgI:Xv->pT Key
 | .int i=>iJ (.inl i)
 | .str z=>iJ (.inr z)
 |_=>jr
noncomputable def zea(S:Sto):Xv->pT (Nat×pR (Key×Xv))
 | .ref n=>match S[n]? with
  |some (.dk aq)=>iJ (n,aq)
  |_=>jr
 |_=>jr
noncomputable def ziO(S:Sto):Xv->pT (Nat×pR (Key×Xv))
 | .ref n=>match S[n]? with
  |some (.dk aq)=>iJ (n,aq)
  |some (.fdk aq)=>iJ (n,aq)
  |_=>jr
 |_=>jr
noncomputable def Wx{κ:Type}[DecidableEq κ](aq:pR (κ×Xv))(k:κ):pT Xv:=(aq.find? λkv=>decide (kv.1=k)).map (·.2)
section
variable{E:XK}{κ:Type}
theorem zeb(h:Xis K j H x v)(e:zgI x=iJ k):v=kV k:=by
 cases h<;>simp only[zgI,z9,reduceCtorEq] at e<;>subst e<;>rfl
theorem zdx(h:zea S x=iJ (n,aq)):x= .ref n/\S[n]? =iJ (.dk aq):=by
 cases x<;>simp only[zea,reduceCtorEq] at h
 split at h
 .cases h;exact⟨rfl,by assumption⟩
 .cases h
theorem En.dk(E1:En K F j H σ ρ S)(hx:Xis K j H x v)(h:zea S x=iJ (n,aq)):∃a ks,v= .ref a/\j[n]? =iJ a/\H a=iJ (.dK ks)/\KX K j H aq ks:=by
 obtain⟨rfl,hs⟩:=zdx h;obtain⟨a,rfl,hj⟩:=hx.ref_inv;obtain⟨ks,e1,e2⟩:=E1.cel _ _ _ hs hj;exact⟨a,ks,rfl,hj,e1,e2⟩
theorem zmt(h:zea S x=iJ p):ziO S x=iJ p:=by
 obtain⟨n,aq⟩:=p;obtain⟨rfl,e⟩:=zdx h;unfold ziO;dsimp only;rw[e]
set_option tactic.hygienic true in
theorem En.dr(E1:En K F j H σ ρ S)(hx:Xis K j H x v)(h:ziO S x=iJ (n,aq)):∃a ks,v= .ref a/\j[n]? =iJ a/\Rd H a (.dK ks)/\KX K j H aq ks:=by
 cases x<;>simp only[ziO,reduceCtorEq] at h
 obtain⟨a,rfl,hj⟩:=hx.ref_inv;split at h
 .rename_i hs;cases h;obtain⟨ks,e1,e2⟩:=E1.cel _ _ _ hs hj;exact⟨a,ks,rfl,hj,.inl e1,e2⟩
 .rename_i hs;cases h;obtain⟨o,ks,e1,e2⟩:=E1.cel _ _ _ hs hj;exact⟨a,ks,rfl,hj,.inr ⟨o,e1⟩,e2⟩
 .cases h
theorem TB.r{a:qY}{aq:pR (Key×V)}{k:Key}(e:Rd H a (.dK aq)):TB H a (kV k) (VD aq k):= .inl ⟨aq,k,e,rfl,rfl⟩
theorem KX.val[DecidableEq κ]{aq:pR (κ×Xv)}{ks:pR (κ×V)}(q:KX K j H aq ks):(∀y,Wx aq k=iJ y->∃w,VD ks k=iJ w/\Xis K j H y w)/\(Wx aq k=jr->VD ks k=jr):=by
 induction q with
 |nil=>exact⟨λ_ e=>by simp[Wx] at e,λ_=>rfl⟩
 |@cons k1 y1 w1 r rs h l i=>
  by_cases e:k1=k
  .subst e;refine⟨λy ey=> ?_,λey=> ?_⟩
   .simp[Wx] at ey;subst ey;exact⟨w1,by simp[VD],h⟩
   .simp[Wx] at ey
  .have e1:Wx ((k1,y1)::r) k=Wx r k:=by simp[Wx,A8,e]
   have e2:VD ((k1,w1)::rs) k=VD rs k:=by simp[VD,A8,e]
   rw[e1,e2];exact i
noncomputable def zfo(d k:TwE):TwE:=λρ S=>rb (d ρ S) λx S1=>rb (k ρ S1) λy S2=>match ziO S2 x,zgI y with
 |some (_,aq),iJ key=>(Wx aq key).map λz=> .ok z S2
 |_,_=>jr
set_option tactic.hygienic true in
theorem zmu(hd:RE K E td d)(hk:RE K E ty k):RE K E (znC td ty) (zfo d k):=by
 intro F j σ H ρ S r Q En0 e kk;rcases zB e with⟨x,S1,e1,e⟩|⟨c,S1,e1,rfl⟩
 .refine hd En0 e1 λj1 H1 X1 E1 u hu=> ?_;rcases zB e with⟨y,S2,e2,e⟩|⟨c,S2,e2,rfl⟩
  .refine hk E1 e2 λj2 H2 X2 E2 w hw=> ?_;split at e
   .rename_i n aq key ed ek;cases ev:Wx aq key with
    |none=>rw[ev] at e;cases e
    |some z=>
     rw[ev] at e;cases e;obtain⟨a,ks,rfl,hj,f1,f2⟩:=E2.dr (hu.mono X2) ed;obtain⟨z',g1,g2⟩:=f2.val.1 _ ev;refine⟨a,z',rfl,?_,kk _ _ (X1.trans X2) E2 _ g2⟩;rw[zeb hw ek,<-g1];exact TB.r f1
   .cases e
  .exact hk E1 e2 (PX.mono kk X1)
 .exact hd En0 e1 kk
noncomputable def ziP(neg:Bool)(k d:TwE):TwE:=λρ S=>rb (k ρ S) λy S1=>rb (d ρ S1) λx S2=>match zea S2 x,zgI y with
 |some (_,aq),iJ key=>iJ (.ok (.bl (neg !=(Wx aq key).isSome)) S2)
 |_,_=>jr
theorem zhM(f1:H a=iJ (.dK ks))(f2:KX K j H aq ks):∃o,TB H a (kV key) o/\o.isSome=(Wx aq key).isSome/\∀z zd,Xis K j H z zd->Xis K j H ((Wx aq key).getD z) (o.getD zd):=by
 refine⟨_,TB.k f1,?_,λz zd hz=> ?_⟩
 .cases ev:Wx aq key with
  |none=>rw[f2.val.2 ev];rfl
  |some y=>obtain⟨w,g1,_⟩:=f2.val.1 _ ev;rw[g1];rfl
 .cases ev:Wx aq key with
  |none=>rw[f2.val.2 ev];exact hz
  |some y=>obtain⟨w,g1,g2⟩:=f2.val.1 _ ev;rw[g1];exact g2
set_option tactic.hygienic true in
theorem zoP(hk:RE K E ty k)(hd:RE K E td d):RE K E (zqg ty td) (ziP nW k d):=by
 intro F j σ H ρ S r Q En0 e kk;rcases zB e with⟨y,S1,e1,e⟩|⟨c,S1,e1,rfl⟩
 .refine hk En0 e1 λj1 H1 X1 E1 u hu=> ?_;rcases zB e with⟨x,S2,e2,e⟩|⟨c,S2,e2,rfl⟩
  .refine hd E1 e2 λj2 H2 X2 E2 w hw=> ?_;split at e
   .rename_i n aq key ed ek;cases e;obtain⟨a,ks,rfl,hj,f1,f2⟩:=E2.dk hw ed;obtain⟨o,g1,g2,_⟩:=zhM (key:=key) f1 f2;refine⟨a,o,rfl,by rw[zeb (hu.mono X2) ek];exact g1,kk _ _ (X1.trans X2) E2 _ ?_⟩;rw[g2,DS];exact .bl _
   .cases e
  .exact hd E1 e2 (PX.mono kk X1)
 .exact hk En0 e1 kk
set_option tactic.hygienic true in
theorem ziQ(hk:RE K E ty k)(hd:RE K E td d):RE K E (zhs ty td) (ziP jD k d):=by
 intro F j σ H ρ S r Q En0 e kk;rcases zB e with⟨y,S1,e1,e⟩|⟨c,S1,e1,rfl⟩
 .refine hk En0 e1 λj1 H1 X1 E1 u hu=> ?_;rcases zB e with⟨x,S2,e2,e⟩|⟨c,S2,e2,rfl⟩
  .refine hd E1 e2 λj2 H2 X2 E2 w hw=> ?_;split at e
   .rename_i n aq key ed ek;cases e;obtain⟨a,ks,rfl,hj,f1,f2⟩:=E2.dk hw ed;obtain⟨o,g1,g2,_⟩:=zhM (key:=key) f1 f2;refine⟨a,o,rfl,by rw[zeb (hu.mono X2) ek];exact g1,kk _ _ (X1.trans X2) E2 _ ?_⟩;rw[g2,De];exact .bl _
   .cases e
  .exact hd E1 e2 (PX.mono kk X1)
 .exact hk En0 e1 kk
end
open PySem.Builtin.Int (intBits)
def W{α:Type}(r:pT (Rs α))(P:α->Sto->Prop):Prop:=∃a S,r=iJ (.ok a S)/\P a S
def WO(r:pT (Xv×Sto))(P:Xv->Sto->Prop):Prop:=∃a S,r=iJ (a,S)/\P a S
def WS(r:pT Fl)(N:Rho->Sto->Prop)(R:Xv->Sto->Prop):Prop:=(∃ρ S,r=iJ (.nx ρ S)/\N ρ S)\/∃x S,r=iJ (.rt x S)/\R x S
section
variable{s t:TwS}{PB:Bool->Sto->Prop}{PL:pR Xv->Sto->Prop}{PO:pT Int->Sto->Prop}
theorem W.of{α:Type}{r:pT (Rs α)}{a:α}{P:α->Sto->Prop}(e:r=iJ (.ok a S))(h:P a S):W r P:=⟨a,S,e,h⟩
theorem WO.of(e:r=iJ (x,S))(h:P x S):WO r P:=⟨x,S,e,h⟩
theorem W.imp{α:Type}{r:pT (Rs α)}{P Q:α->Sto->Prop}(h:W r P)(k:∀a S,P a S->Q a S):W r Q:=by
 obtain⟨a,S,e,h⟩:=h;exact⟨a,S,e,k _ _ h⟩
theorem WS.nx(e:r=iJ (.nx ρ S))(h:N ρ S):WS r N R:= .inl ⟨ρ,S,e,h⟩
theorem WS.rt(e:r=iJ (.rt x S))(h:R x S):WS r N R:= .inr ⟨x,S,e,h⟩
theorem W.bind{α β:Type}{r:pT (Rs α)}{f:α->Sto->pT (Rs β)}{P:β->Sto->Prop}(h:W r λa S=>W (f a S) P):W (rb r f) P:=by
 obtain⟨a,S,rfl,h⟩:=h;exact h
theorem WS.bind{α:Type}{r:pT (Rs α)}{f:α->Sto->pT Fl}(h:W r λa S=>WS (f a S) N R):WS (sb r f) N R:=by
 obtain⟨a,S,rfl,h⟩:=h;exact h
theorem W.okP(h:WO r P):W (okP r) P:=by
 obtain⟨a,S,rfl,h⟩:=h;exact⟨a,S,rfl,h⟩
theorem zoQ(h:ρ[i]? =iJ (iJ d))(k:P d S):W (za i ρ S) P:= .of (by unfold za;rw[h]) k
theorem zmv(k:P d S):W (eC d ρ S) P:= .of rfl k
theorem zbe(h:W (a ρ S) λx S1=>W (b ρ S1) λy S2=>WO (f x y S2) P):W (eOp f a b ρ S) P:=W.bind (h.imp λ_ _ h=>W.bind (h.imp λ_ _ h=>W.okP h))
theorem zqy{f:Xv->Sto->pT (Xv×Sto)}(h:W (a ρ S) λx S1=>WO (f x S1) P):W (eUn f a ρ S) P:=W.bind (h.imp λ_ _ h=>W.okP h)
theorem wY(h:W (a ρ S) λx S1=>∃v,x= .bl v/\PB v S1):W (bE a ρ S) PB:=W.bind (h.imp λx S1 h=>by obtain⟨v,rfl,k⟩:=h;exact .of rfl k)
theorem znL(h:W (c ρ S) λv S1=>P (.bl v) S1):W (eB c ρ S) P:=W.bind (h.imp λ_ _ k=> .of rfl k)
theorem vb(h:W (c ρ S) λv S1=>PB (!v) S1):W (Xd c ρ S) PB:=W.bind (h.imp λ_ _ k=> .of rfl k)
theorem xH(h:W (c ρ S) λv S1=>(v=jD->W (c2 ρ S1) PB)/\(v=nW->PB nW S1)):W (Wt c c2 ρ S) PB:=W.bind (h.imp λv S1 k=>by
 cases v with
 |true=>rw[if_pos rfl];exact k.1 rfl
 |false=>exact .of rfl (k.2 rfl))
theorem Zu(h:W (c ρ S) λv S1=>(v=jD->PB jD S1)/\(v=nW->W (c2 ρ S1) PB)):W (bOr c c2 ρ S) PB:=W.bind (h.imp λv S1 k=>by
 cases v with
 |true=>exact .of rfl (k.1 rfl)
 |false=>rw[if_neg (by simp)];exact k.2 rfl)
theorem Uz(h:W (a ρ S) λx S1=>∃v,x= .bl v/\(v=jD->W (b ρ S1) P)/\(v=nW->P (.bl nW) S1)):W (zcP a b ρ S) P:=W.bind ((wY h).imp λv S1 k=>by
 cases v with
 |true=>rw[if_pos rfl];exact k.1 rfl
 |false=>exact .of rfl (k.2 rfl))
theorem zoR(h:W (a ρ S) λx S1=>∃v,x= .bl v/\(v=jD->P (.bl jD) S1)/\(v=nW->W (b ρ S1) P)):W (eOr a b ρ S) P:=W.bind ((wY h).imp λv S1 k=>by
 cases v with
 |true=>exact .of rfl (k.1 rfl)
 |false=>rw[if_neg (by simp)];exact k.2 rfl)
theorem zgJ(k:PL [] S):W (evL [] ρ S) PL:= .of rfl k
theorem zbC(h:W (m ρ S) λd S1=>W (evL ms ρ S1) λds S2=>PL (d::ds) S2):W (evL (m::ms) ρ S) PL:=W.bind (h.imp λ_ _ h=>W.bind (h.imp λ_ _ k=> .of rfl k))
theorem zoS(h:W (evL ms ρ S) λds S1=>P (.tup ds) S1):W (yS ms ρ S) P:=W.bind (h.imp λ_ _ k=> .of rfl k)
theorem zgK(h:W (evL ms ρ S) λds S1=>P (.ref S1.length) (S1++[.lst ds])):W (yM ms ρ S) P:=W.bind (h.imp λ_ _ k=> .of rfl k)
theorem zqz(h:W (evL ms ρ S) λds S1=>WO (f ds S1) P):W (eFn f ms ρ S) P:=W.bind (h.imp λ_ _ h=>W.okP h)
theorem zmw(h:W (evL ms ρ S) λds S1=>W (tw ds S1) P):W (zf tw ms ρ S) P:=W.bind h
theorem zgL(k:PO jr S):W (oNo ρ S) PO:= .of rfl k
theorem zb9(h:W (m ρ S) λx S1=>∃k,x= .int k/\PO (iJ k) S1):W (vg m ρ S) PO:=W.bind (h.imp λx S1 h=>by obtain⟨v,rfl,k⟩:=h;exact .of rfl k)
theorem zks{f:Xv->pT Int->pT Int->Sto->pT (Xv×Sto)}{lo hi:TwO}(h:W (m ρ S) λx S1=>W (lo ρ S1) λu S2=>W (hi ρ S2) λv S3=>WO (f x u v S3) P):W (eSl f m lo hi ρ S) P:=
 W.bind (h.imp λ_ _ h=>W.bind (h.imp λ_ _ h=>W.bind (h.imp λ_ _ h=>W.okP h)))
theorem Xf(h:W (o ρ S) λx S1=>(∃l,ya S1 x=iJ l)/\W (evL ms ρ S1) λys S2=>WO (f x ys S2) P):W (eMt f o ms ρ S) P:=W.bind (h.imp λx S1 h=>by
 obtain⟨⟨l,e⟩,h⟩:=h;rw[e,uJ]
 exact W.bind (h.imp λ_ _ h=>W.okP h))
theorem zkt(h:W (a ρ S) λx S1=>W (b ρ S1) λy S2=>∃n aq k z,ziO S2 x=iJ (n,aq)/\zgI y=iJ k/\Wx aq k=iJ z/\P z S2):W (zfo a b ρ S) P:=
 W.bind (h.imp λ_ _ h=>W.bind (h.imp λ_ _ h=>by obtain⟨n,aq,k,z,e1,e2,e3,q⟩:=h;rw[e1,e2];dsimp only;rw[e3];exact .of rfl q))
theorem zmx(h:W (a ρ S) λx S1=>W (b ρ S1) λy S2=>∃n aq k z,zea S2 x=iJ (n,aq)/\zgI y=iJ k/\Wx aq k=iJ z/\P z S2):W (zfo a b ρ S) P:=zkt (h.imp λ_ _ h=>h.imp λ_ _ ⟨n,aq,k,z,e,r⟩=>⟨n,aq,k,z,zmt e,r⟩)
theorem zec(h:W (a ρ S) λy S1=>W (b ρ S1) λx S2=>∃n aq k,zea S2 x=iJ (n,aq)/\zgI y=iJ k/\P (.bl (neg !=(Wx aq k).isSome)) S2):W (ziP neg a b ρ S) P:=
 W.bind (h.imp λ_ _ h=>W.bind (h.imp λ_ _ h=>by obtain⟨n,aq,k,e1,e2,q⟩:=h;rw[e1,e2];exact .of rfl q))
theorem zh(h:WS (s ρ S) (λρ1 S1=>WS (t ρ1 S1) N R) R):WS (zo s t ρ S) N R:=by
 unfold zo;rcases h with⟨ρ1,S1,e,h⟩|⟨x,S1,e,h⟩
 .rw[e];exact h
 .rw[e];exact .rt rfl h
theorem zv(h:N ρ S):WS (zF ρ S) N R:= .nx rfl h
theorem VN(h:W (m ρ S) λd S1=>W (g d ρ S1) N):WS (zH m g ρ S) N R:=WS.bind (h.imp λ_ _ h=>WS.bind (h.imp λ_ _ k=> .nx rfl k))
theorem wg(h:W (m ρ S) λd S1=>N (ρ.set i (iJ d)) S1):WS (zH m (gN i) ρ S) N R:=WS.bind (h.imp λ_ _ k=> .nx rfl k)
theorem zfp(h:W (m ρ S) λd S1=>W (a ρ S1) λx S2=>W (b ρ S2) λy S3=>∃n l q j,Tf S3 x=iJ (n,l)/\y= .int q/\ixN l.length q=iJ j/\N ρ (S3.set n (.lst (l.set j d)))):WS (zH m (zd2 a b) ρ S) N R:=
 WS.bind (h.imp λd S1 h=>WS.bind (W.bind (h.imp λx S2 h=>W.bind (h.imp λy S3 h=>by
  obtain⟨n,l,q,j,e1,rfl,e2,k⟩:=h;rw[e1];dsimp only;rw[e2]
  exact .of rfl (.nx rfl k)))))
theorem zmy(h:W (m ρ S) λ_ S1=>N ρ S1):WS (yY m ρ S) N R:=WS.bind (h.imp λ_ _ k=> .nx rfl k)
theorem Xg(h:W (m ρ S) λd S1=>R d S1):WS (zJ m ρ S) N R:=WS.bind (h.imp λ_ _ k=> .rt rfl k)
theorem zy(h:W (c ρ S) λv S1=>(v=jD->WS (s ρ S1) N R)/\(v=nW->WS (t ρ S1) N R)):WS (sIf c s t ρ S) N R:=WS.bind (h.imp λv S1 k=>by
 cases v with
 |true=>rw[if_pos rfl];exact k.1 rfl
 |false=>rw[if_neg (by simp)];exact k.2 rfl)
theorem xw(I:Rho->Sto->Prop)(h:WS r I R)(k:∀ρ S,I ρ S->N ρ S):WS r N R:=by
 rcases h with⟨ρ,S,e,h⟩|h
 .exact .inl ⟨ρ,S,e,k ρ S h⟩
 .exact .inr h
theorem zca(h:WS (VI c s n ρ S) N R):WS (sWh n c s ρ S) N R:=h
theorem WQ(h:W (c ρ S) λv S1=>(v=jD->WS (s ρ S1) (λρ2 S2=>WS (VI c s n ρ2 S2) N R) R)/\(v=nW->N ρ S1)):WS (VI c s (n+1) ρ S) N R:=by
 unfold VI;refine WS.bind (h.imp λv S1 k=> ?_);cases v with
 |true=>
  rw[if_pos rfl];rcases k.1 rfl with⟨ρ2,S2,e2,h⟩|⟨x,S2,e2,h⟩
  .rw[e2];exact h
  .rw[e2];exact .rt rfl h
 |false=>exact .nx rfl (k.2 rfl)
theorem Ym(h:W (n ρ S) λget S1=>∃xs,get S1=iJ xs/\WS (Vu get g s (xs.length+1) 0 ρ S1) N R):WS (UK n g s ρ S) N R:=WS.bind (h.imp λget S1 h=>by
 obtain⟨xs,e,h⟩:=h;rw[e,uJ]
 exact h)
theorem ZD{get:Sto->pT (pR Xv)}(J:Nat->Rho->Sto->Prop)(hg:∀i ρ S,i<=xs.length->J i ρ S->get S=iJ xs)
  (h:∀(i:Nat) (x:Xv) ρ S,xs[i]? =iJ x->J i ρ S->W (g x ρ S) λρ1 S1=>WS (s ρ1 S1) (λρ2 S2=>J (i+1) ρ2 S2) R) (h0:J 0 ρ S) (k:∀ρ S,J xs.length ρ S->N ρ S):WS (Vu get g s (xs.length+1) 0 ρ S) N R:=by
 have aux:∀(n i:Nat) (ρ:Rho) (S:Sto),i+n=xs.length->J i ρ S->WS (Vu get g s (n+1) i ρ S) N R:=by
  intro n
  induction n with
  |zero=>
   intro i ρ S e hj;unfold Vu;rw[hg i ρ S ⋯ hj,uJ,x5 ⋯];dsimp only;rw[if_pos ⋯];exact .nx rfl (k ρ S (by rw[show xs.length=i by omega];exact hj))
  |succ n ih=>
   intro i ρ S e hj;unfold Vu;have hi:i<xs.length:=by omega
   rw[hg i ρ S ⋯ hj,uJ,uo hi];refine WS.bind ((h i _ ρ S (uo hi) hj).imp λρ1 S1 h1=> ?_);rcases h1 with⟨ρ2,S2,e2,h2⟩|⟨x,S2,e2,h2⟩
   .rw[e2];exact ih (i+1) ρ2 S2 ⋯ h2
   .rw[e2];exact .rt rfl h2
 exact aux xs.length 0 ρ S ⋯ h0
theorem zku(h:W (m ρ S) λx S1=>∃l,ya S1 x=iJ l/\Q' (λS=>ya S x) S1):W (iL m ρ S) Q':=W.bind (h.imp λx S1 h=>by
 obtain⟨l,e,k⟩:=h;rw[e]
 exact .of rfl k)
theorem zfq{Q':(Sto->pT (pR Xv))->Sto->Prop}(h:W (m ρ S) λx S1=>∃l,x.tupOf=iJ l/\Q' (λ_=>iJ l) S1):W (iT m ρ S) Q':=W.bind (h.imp λx S1 h=>by
 obtain⟨l,e,k⟩:=h;rw[e]
 exact .of rfl k)
theorem zcb{Q':(Sto->pT (pR Xv))->Sto->Prop}(h:W (m ρ S) λx S1=>∃k:Int,x= .int k/\(-(2^62)<=k/\k<2^62)/\Q' (λ_=>iJ (Yl 0 k.toNat)) S1):W (iR1 m ρ S) Q':=W.bind (h.imp λx S1 h=>by
 obtain⟨k,rfl,hk,q⟩:=h;dsimp only;rw[if_pos hk]
 exact .of rfl q)
theorem UA{lo:Int}{n i:Nat}{x:Xv}(h:(Yl lo n)[i]? =iJ x):i<n/\x= .int (lo+i):=by
 unfold Yl at h;rw[uA] at h;have hi:i<n:=by
  apply CD;intro hn;rw[x5 (by simp;omega)] at h;cases h
 rw[AI hi] at h;cases h;exact⟨hi,rfl⟩
theorem vH{lo:Int}{n:Nat}:(Yl lo n).length=n:=by simp[Yl]
theorem zbD(h:W (n ρ S) λget S1=>∃xs,get S1=iJ xs/\W (vR get g c m (zd4 cap ρ) (xs.length+1) 0 [] S1) P):W (xu cap n g c m ρ S) P:=W.bind (h.imp λget S1 h=>by
 obtain⟨xs,e,h⟩:=h;rw[e,uJ]
 exact h)
theorem zcc{get:Sto->pT (pR Xv)}(hl:xs.length<=sizeLine)(J:Nat->pR Xv->Sto->Prop)(hg:∀i es S,i<=xs.length->J i es S->get S=iJ xs)
  (h:∀(i:Nat) (x:Xv) es S,xs[i]? =iJ x->es.length=i->J i es S->W (g x ρc S) λρ1 S1=>W (c ρ1 S1) λb S2=>b=jD/\W (m ρ1 S2) λy S3=>J (i+1) (es++[y]) S3) (h0:J 0 [] S)
  (k:∀es S,es.length=xs.length->J xs.length es S->P (.ref S.length) (S++[.lst es])):W (vR get g c m ρc (xs.length+1) 0 [] S) P:=by
 have aux:∀(n i:Nat) (es:pR Xv) (S:Sto),i+n=xs.length->es.length=i->J i es S->W (vR get g c m ρc (n+1) i es S) P:=by
  intro n
  induction n with
  |zero=>
   intro i es S e el hj;unfold vR;rw[hg i es S ⋯ hj,uJ,x5 ⋯];dsimp only;rw[if_pos ⋯];exact .of rfl (k es S ⋯ (by rw[show xs.length=i by omega];exact hj))
  |succ n ih=>
   intro i es S e el hj;unfold vR;have hi:i<xs.length:=by omega
   rw[hg i es S ⋯ hj,uJ,uo hi];obtain⟨ρ1,S1,e1,b,S2,e2,rfl,y,S3,e3,q⟩:=h i _ es S (uo hi) el hj;dsimp only[rn];rw[e1];dsimp only[rn];rw[e2];dsimp only[rn];rw[if_pos rfl,e3];dsimp only[rn];rw[if_pos ⋯];exact ih (i+1) (es++[y]) S3 ⋯ (by simp[el]) q
 exact aux xs.length 0 [] S ⋯ rfl h0
theorem zmz(k:PB jD S):W (xF ρ S) PB:= .of rfl k
theorem VO(hn:xs.length=n)(h0:xs.map iJ++uI k jr=ρ0)(h:WS (s ρ0 S) (λ_ S1=>P .non S1) P):W (zN n k s xs S) P:=by
 unfold zN;rw[if_pos hn,h0];rcases h with⟨ρ,S1,e,h⟩|⟨x,S1,e,h⟩
 .rw[e];exact .of rfl h
 .rw[e];exact .of rfl h
theorem zkv(k:P (.int (p+q)) S):WO (xk (.int p) (.int q) S) P:= .of rfl k
theorem zoT(k:P (.int (p-q)) S):WO (zb4 (.int p) (.int q) S) P:= .of rfl k
theorem zoU(k:P (.int (-p)) S):WO (zd8 (.int p) S) P:= .of rfl k
theorem zqA(k:P (.bl (decide (p<q))) S):WO (dLt (.int p) (.int q) S) P:= .of rfl k
theorem zqB(k:P (.bl (decide (p<=q))) S):WO (dLe (.int p) (.int q) S) P:= .of rfl k
theorem zqC(k:P (.bl (decide (q<p))) S):WO (dGt (.int p) (.int q) S) P:= .of rfl k
theorem zoV(k:P (.bl (decide (p=q))) S):WO (Zs (.int p) (.int q) S) P:= .of rfl k
theorem zoW(k:P (.bl (!decide (p=q))) S):WO (zd7 (.int p) (.int q) S) P:= .of rfl k
theorem zaO(h:0<q)(k:P (.int (p % q)) S):WO (zcR (.int p) (.int q) S) P:= .of (by unfold zcR xIC;exact if_pos (by simpa using h)) k
theorem WR(h:intBits p+intBits q<=134217728)(k:P (.int (p*q)) S):WO (Wv (.int p) (.int q) S) P:= .of (by unfold Wv xIC;exact if_pos (by simpa using h)) k
theorem zoX(h:(-(2^64)<p/\p<2^64)\/(-(2^64)<q/\q<2^64))(k:P (.int (p*q)) S):WO (zmq (.int p) (.int q) S) P:= .of (by unfold zmq xIC;exact if_pos (decide_eq_true h)) k
theorem zoY(h:0<=q/\q<=1000000/\p.natAbs<2^64)(k:P (.int (p^q.toNat)) S):WO (ziN (.int p) (.int q) S) P:= .of (by unfold ziN xIC;exact if_pos (decide_eq_true h)) k
theorem zoZ(k:P (.int (if q<p then q else p)) S):WO (zoM [.int p,.int q] S) P:= .of rfl k
theorem zo0(k:P (.int (if q>p then q else p)) S):WO (zfh [.int p,.int q] S) P:= .of rfl k
theorem xx(h:ya S x=iJ l)(k:P (.int l.length) S):WO (xO [x] S) P:= .of (by
 unfold xO XE;dsimp only;have:x.tupOf=jr:=by cases x<;>first|rfl|cases h
 rw[this];dsimp only;rw[h]
 rfl) k
theorem xo(h:ya S x=iJ l)(e:atI l p=iJ z)(k:P z S):WO (vN x (.int p) S) P:= .of (by unfold vN;rw[h];dsimp only;rw[e];rfl) k
theorem xJ(h:x.tupOf=iJ l)(e:atI l p=iJ z)(k:P z S):WO (zS x (.int p) S) P:= .of (by unfold zS;rw[h];dsimp only;rw[e];rfl) k
theorem zqD{β:Type}{x:β}{l:pR β}:atI (x::l) 0=iJ x:=by
 unfold atI ixN;rw[if_pos (show(0:Int)<=0 by decide),if_pos (by simp only[uw];omega)];rfl
theorem zqE{β:Type}{x y:β}{l:pR β}:atI (x::y::l) 1=iJ y:=by
 unfold atI ixN;rw[if_pos (show(0:Int)<=1 by decide),if_pos (by simp only[uw];omega)];rfl
theorem zo1(k:P x S):WO (zS (.tup (x::l)) (.int 0) S) P:=xJ rfl zqD k
theorem zo2{l:pR Xv}(k:P y S):WO (zS (.tup (x::y::l)) (.int 1) S) P:=xJ rfl zqE k
theorem vc{β:Type}{l:pR β}{k:Int}{z:β}(h0:0<=k)(h:l[k.toNat]? =iJ z):atI l k=iJ z:=by
 have hk:=(uq.1 h).1;unfold atI ixN;rw[if_pos h0,if_pos ⋯];exact h
theorem xr(h:Tf S x=iJ (n,l))(hz:l.length<sizeLine)(k:P .non (S.set n (.lst (l++[y])))):WO (yn x [y] S) P:= .of (by unfold yn;rw[h];dsimp only;rw[if_pos hz]) k
theorem VP{l:pR Xv}{lo hi:pT Int}(h:ya S x=iJ l)(k:P (.ref S.length) (S++[.lst (XX l lo hi)])):WO (Yy x lo hi S) P:= .of (by unfold Yy;rw[h];rfl) k
theorem zcd(h:XE S y=iJ l)(hf:(VM x&&l.all VM)=jD)(k:P (.bl (neg !=l.any λz=>zb8 z x)) S):WO (dIn neg x y S) P:= .of (by unfold dIn;rw[h,uJ,if_pos hf]) k
theorem zed{c:String}{v:Bool}(h:zkr c S x=iJ v)(k:P (.bl v) S):WO (zgH c x S) P:= .of (by unfold zgH;rw[h];rfl) k
end
theorem xa(h:S[n]? =iJ (.lst l)):Tf S (.ref n)=iJ (n,l):=by simp[Tf,h]
theorem zj(h:S[n]? =iJ (.lst l)):ya S (.ref n)=iJ l:=by simp[ya,h]
theorem TN(h:S[n]? =iJ (.dk l)):zea S (.ref n)=iJ (n,l):=by simp[zea,h]
end L2
namespace L2
open PySem PySem.Spec PyProof.Rows PySem.Calls
section
variable{E:XK}
noncomputable def Th(p q:Int->Int->Bool)(a b c:TwE):TwE:=λρ S=>rb (a ρ S) λx S1=>rb (b ρ S1) λy S2=>match x,y with
 | .int i,.int j=>if p i j then rb (c ρ S2) λz S3=>match z with
   | .int k=>iJ (.ok (.bl (q j k)) S3)
   |_=>jr
  else iJ (.ok (.bl nW) S2)
 |_,_=>jr
theorem zkw{p q:Int->Int->Bool}{ta tb tc:TE}{a b c:TwE}(ha:RE K E ta a)(hb:RE K E tb b)(hc:RE K E tc c):RE K E (zge (rI0 λi j=> .bl (p i j)) (rI0 λi j=> .bl (q i j)) ta tb tc) (Th p q a b c):=by
 intro F j σ H ρ S r Q En0 e k;rcases zB e with⟨x,S1,e1,e⟩|⟨c,S1,e1,rfl⟩
 .refine ha En0 e1 λj1 H1 X1 E1 u hu=> ?_;rcases zB e with⟨y,S2,e2,e⟩|⟨c,S2,e2,rfl⟩
  .have p8:∃i l,x= .int i/\y= .int l:=by
    cases x<;>cases y<;>first|exact⟨_,_,rfl,rfl⟩|(cases e;done)
   obtain⟨i,l,rfl,rfl⟩:=p8;dsimp only at e;refine hb E1 e2 λj2 H2 X2 E2 v hv=>⟨i,l,hu.int_inv,hv.int_inv,p i l,rfl,?_⟩;by_cases hp:p i l=jD
   .rw[if_pos hp] at e ⊢;rcases zB e with⟨z,S3,e3,e⟩|⟨c,S3,e3,rfl⟩
    .have hk:∃m,z= .int m:=by
      cases z<;>first|exact⟨_,rfl⟩|(cases e;done)
     obtain⟨m,rfl⟩:=hk;cases e;exact hc E2 e3 λj3 H3 X3 E3 w hw=>⟨l,m,hv.int_inv,hw.int_inv,k _ _ (X1.trans (X2.trans X3)) E3 _ (.bl _)⟩
    .exact hc E2 e3 (PX.mono k (X1.trans X2))
   .rw[if_neg hp] at e ⊢;cases e;exact k _ _ (X1.trans X2) E2 _ (.bl _)
  .exact hb E1 e2 (PX.mono k X1)
 .exact ha En0 e1 k
theorem TQ{p q:Int->Int->Bool}(h:W (a ρ S) λx S1=>∃i,x= .int i/\W (b ρ S1) λy S2=>∃j,y= .int j/\(p i j=jD->W (c ρ S2) λz S3=>∃k,z= .int k/\P (.bl (q j k)) S3)/\(p i j=nW->P (.bl nW) S2)):W (Th p q a b c ρ S) P:=W.bind (h.imp λx S1 h=>by
 obtain⟨i,rfl,h⟩:=h;refine W.bind (h.imp λy S2 h=> ?_);obtain⟨j,rfl,h1,h2⟩:=h;dsimp only;cases hp:p i j with
 |true=>
  rw[if_pos rfl];exact W.bind ((h1 hp).imp λz S3 h=>by obtain⟨k,rfl,q⟩:=h;exact .of rfl q)
 |false=>
  rw[if_neg (by simp)]
  exact .of rfl (h2 hp))
end
noncomputable def zaP(f:D->D->pT Bool):pR D->pR D->pT Bool
 |a::l,b::m=>(f a b).bind λx=>(zaP f l m).map (x&& ·)
 |_,_=>iJ jD
theorem UB{f:D->D->pT Bool}:∀{l m:pR D} {b:Bool},zaP f l m=iJ b->∃e:Nat->Bool,(∀(j:Nat) a c,l[j]? =iJ a->m[j]? =iJ c->f a c=iJ (e j))/\b=(y2 (min l.length m.length)).all e
 |[],m,b,h=>by
  unfold zaP at h;cases h;exact⟨λ_=>jD,λj a c ha=>by simp at ha,by simp⟩
 |a::l,[],b,h=>by
  unfold zaP at h;cases h;exact⟨λ_=>jD,λj a c ha hc=>by simp at hc,by simp⟩
 |a::l,c::m,b,h=>by
  unfold zaP at h;cases e1:f a c with
  |none=>rw[e1] at h;cases h
  |some x=>
   rw[e1,uJ] at h;cases e2:zaP f l m with
   |none=>rw[e2] at h;cases h
   |some y=>
    rw[e2] at h;cases h;obtain⟨e,k,rfl⟩:=UB e2
    refine⟨λj=>match j with
     |0=>x
     |j+1=>e j,λj p q hp hq=> ?_,?_⟩
    .cases j with
     |zero=>simp at hp hq;subst hp hq;exact e1
     |succ j=>exact k j p q (by simpa using hp) (by simpa using hq)
    .rw[uw,uw,Nat.succ_min_succ,List.range_succ_eq_map,Aq,Ep];rfl
noncomputable def eqG:Nat->D->D->pT Bool
 |0,d,e=>match d,e with
  | .non,.non=>iJ jD
  | .bl a,.bl b=>iJ (a==b)
  | .int a,.int b=>iJ (a==b)
  | .str a,.str b=>iJ (a==b)
  |_,_=>jr
 |n+1,d,e=>match d,e with
  | .non,.non=>iJ jD
  | .bl a,.bl b=>iJ (a==b)
  | .int a,.int b=>iJ (a==b)
  | .str a,.str b=>iJ (a==b)
  | .tup l,.tup m=>(zaP (eqG n) l m).map (· &&(l.length==m.length))
  | .lst l,.lst m=>if l.length=m.length then zaP (eqG n) l m else iJ nW
  |_,_=>jr
theorem vM{n:Nat}{e:Nat->Bool}(h:∀j,j<n->e j=jD):(y2 n).all e=jD:=y6.2 λj hj=>h j (Cd.1 hj)
set_option tactic.hygienic true in
theorem zkx(I:Inv X pins σ H s):∀(n:Nat) {d e:D} {x:V} {b:Bool},eqG n d e=iJ b->Is X.K H x d->Is X.K H x e->b=jD:=by
 intro n
 induction n with
 |zero=>
  intro d e x b h hx hy;unfold eqG at h;split at h
  .cases h;rfl
  .rw[hx.bl_inv] at hy;cases hy;cases h;simp
  .rw[hx.int_inv] at hy;cases hy;cases h;simp
  .rw[hx.str_inv] at hy;cases hy;cases h;simp
  .cases h
 |succ n ih=>
  intro d e x b h hx hy;unfold eqG at h;have items:∀{xs:pR V} {l m:pR D} {b:Bool},zaP (eqG n) l m=iJ b->IsL X.K H xs l->IsL X.K H xs m->b=jD:=λ{xs l m b} ha hl hm=>by
   obtain⟨e,k,rfl⟩:=UB ha;refine vM λj hj=> ?_;have h1:j<l.length:=by omega
   have h2:j<m.length:=by omega
   obtain⟨x,lu,lq⟩:=hl.get (uo h1);obtain⟨y,nE,oB⟩:=hm.get (uo h2);rw[lu] at nE;cases nE;exact ih (k j _ _ (uo h1) (uo h2)) lq oB
  split at h
  .cases h;rfl
  .rw[hx.bl_inv] at hy;cases hy;cases h;simp
  .rw[hx.int_inv] at hy;cases hy;cases h;simp
  .rw[hx.str_inv] at hy;cases hy;cases h;simp
  .rename_i l m;cases ha:zaP (eqG n) l m with
   |none=>rw[ha] at h;cases h
   |some b'=>
    rw[ha] at h;cases h;obtain⟨a,xs,rfl,h1,h2⟩:=hx.tup_inv;obtain⟨a',ys,e,g1,g2⟩:=hy.tup_inv;cases e;obtain rfl:=I.tuple_inj h1 g1;rw[items ha h2 g2];have e3:=h2.len;have e4:=g2.len;simp;omega
  .rename_i l m;obtain⟨a,xs,rfl,h1,h2⟩:=hx.lst_inv;obtain⟨a',ys,e,g1,g2⟩:=hy.lst_inv;cases e;obtain rfl:=I.list_inj h1 g1;have e3:=h2.len;have e4:=g2.len;rw[if_pos ⋯] at h;exact items h h2 g2
  .cases h
theorem UC{xs ys:pR V}{ag cE:pR qM}{l m:pR D}{e:Nat->Bool}(rx:yd xs ag)(ry:yd ys cE)(hx:IsL X.K H xs l)(hy:IsL X.K H ys m)
  (k:∀{x y:V} {u v:qM} {d d':D} {j:Nat},l[j]? =iJ d->m[j]? =iJ d'->Is X.K H x d->Is X.K H y d'->yq x u->yq y v->SeqAt.EqAt A.in1 s u v (e j)):
  ∀j (h1:j<ag.toArray.size) (h2:j<cE.toArray.size),SeqAt.EqAt A.in1 s ag.toArray[j] cE.toArray[j] (e j):=by
 intro j h1 h2;have e1:j<xs.length:=by rw[rx.length];simpa using h1
 have e2:j<ys.length:=by rw[ry.length];simpa using h2
 have el:j<l.length:=by rw[<-hx.len];exact e1
 have em:j<m.length:=by rw[<-hy.len];exact e2
 obtain⟨x,lu,lq⟩:=hx.get (i:=j) (d:=l[j]) (uo el);obtain⟨y,nE,oB⟩:=hy.get (i:=j) (d:=m[j]) (uo em);obtain⟨u,hu,ru⟩:=rx.get lu;obtain⟨v,hv,rv⟩:=ry.get nE;have g1:ag.toArray[j]=u:=by
  have:ag[j]? =iJ ag[j]:=uo (by simpa using h1);rw[hu] at this;simpa using (y8 this).symm
 have g2:cE.toArray[j]=v:=by
  have:cE[j]? =iJ cE[j]:=uo (by simpa using h2);rw[hv] at this;simpa using (y8 this).symm
 rw[g1,g2];exact k (uo el) (uo em) lq oB ru rv
set_option tactic.hygienic true in
theorem zfr(I:Inv X pins σ H s):∀(n:Nat) {A:Around} {d d':D} {x y:V} {u v:qM} {b:Bool},eqG n d d'=iJ b->A.units+n<cLine->Is X.K H x d->Is X.K H y d'->yq x u->yq y v->SeqAt.EqAt A s u v b:=by
 intro n
 induction n with
 |zero=>
  intro A d d' x y u v b h hu hx hy ru rv;unfold eqG at h;split at h
  .cases h;rw[hx.non_inv] at ru;rw[hy.non_inv] at rv;cases ru;cases rv;exact SeqAt.EqAt.same _
  .cases h;rw[hx.bl_inv] at ru;rw[hy.bl_inv] at rv;cases ru;cases rv;exact SeqAt.EqAt.bool_bool _ _
  .cases h;rw[hx.int_inv] at ru;rw[hy.int_inv] at rv;obtain⟨t,rfl⟩:=ru;obtain⟨t',rfl⟩:=rv;exact SeqAt.EqAt.int_int _ _ _ _
  .cases h;rw[hx.str_inv] at ru;rw[hy.str_inv] at rv;obtain⟨t,rfl⟩:=ru;obtain⟨t',rfl⟩:=rv;exact SeqAt.EqAt.str_str _ _ _ _
  .cases h
 |succ n ih=>
  intro A d d' x y u v b h hu hx hy ru rv;have kM:=λ(e:x=y)=>zkx I (n+1) h hx (e ▸ hy);unfold eqG at h;split at h
  .cases h;rw[hx.non_inv] at ru;rw[hy.non_inv] at rv;cases ru;cases rv;exact SeqAt.EqAt.same _
  .cases h;rw[hx.bl_inv] at ru;rw[hy.bl_inv] at rv;cases ru;cases rv;exact SeqAt.EqAt.bool_bool _ _
  .cases h;rw[hx.int_inv] at ru;rw[hy.int_inv] at rv;obtain⟨t,rfl⟩:=ru;obtain⟨t',rfl⟩:=rv;exact SeqAt.EqAt.int_int _ _ _ _
  .cases h;rw[hx.str_inv] at ru;rw[hy.str_inv] at rv;obtain⟨t,rfl⟩:=ru;obtain⟨t',rfl⟩:=rv;exact SeqAt.EqAt.str_str _ _ _ _
  .rename_i l m;cases ha:zaP (eqG n) l m with
   |none=>rw[ha] at h;cases h
   |some b'=>
    rw[ha] at h;cases h;obtain⟨e,k,rfl⟩:=UB ha;obtain⟨a,xs,rfl,h1,h2⟩:=hx.tup_inv;obtain⟨a',ys,rfl,g1,g2⟩:=hy.tup_inv;cases ru;cases rv;by_cases kS:a=a'
    .subst kS;rw[kM rfl];exact SeqAt.EqAt.same _
    .obtain⟨ag,r1,p1,_⟩:=I.tuple h1;obtain⟨cE,r2,p2,_⟩:=I.tuple g1;refine SeqAt.EqAt.of_refs kS ?_;have:=SeqAt.RcAt.tuples (A:=A) (e:=e) p1 p2 ⋯ (UC r1 r2 h2 g2 λhi hj hx hy ru rv=>ih (A:=A.in1) (k _ _ _ hi hj) (by show A.units+1+n<cLine;omega) hx hy ru rv);have s1:ag.toArray.size=l.length:=by have e1:=r1.length;have e3:=h2.len;simp;omega
     have s2:cE.toArray.size=m.length:=by have e1:=r2.length;have e3:=g2.len;simp;omega
     rwa [s1,s2] at this
  .rename_i l m;obtain⟨a,xs,rfl,h1,h2⟩:=hx.lst_inv;obtain⟨a',ys,rfl,g1,g2⟩:=hy.lst_inv;cases ru;cases rv;by_cases kS:a=a'
   .subst kS;rw[kM rfl];exact SeqAt.EqAt.same _
   .obtain⟨ag,r1,p1,_⟩:=I.list h1;obtain⟨cE,r2,p2,_⟩:=I.list g1;have s1:ag.toArray.size=l.length:=by have e1:=r1.length;have e3:=h2.len;simp;omega
    have s2:cE.toArray.size=m.length:=by have e1:=r2.length;have e3:=g2.len;simp;omega
    refine SeqAt.EqAt.of_refs kS ?_;split at h
    .rename_i mH;obtain⟨e,k,rfl⟩:=UB h;have:=SeqAt.RcAt.lists (A:=A) (e:=e) p1.isList p2.isList ⋯ ⋯ (UC r1 r2 h2 g2 λhi hj hx hy ru rv=>ih (A:=A.in1) (k _ _ _ hi hj) (by show A.units+1+n<cLine;omega) hx hy ru rv);rw[s1] at this;rwa [show min l.length m.length=l.length by omega]
    .rename_i mH;cases h;exact SeqAt.RcAt.lists_lengths p1.isList p2.isList (by rw[s1,s2];simpa using mH) ⋯
  .cases h
def zqF(K:uk)(neg:Bool):R2:=λx y H Q=>∃(d e:D) (b:Bool),(∃l m,(d= .tup l/\e= .tup m)\/(d= .lst l/\e= .lst m))/\Is K H x d/\Is K H y e/\eqG 40 d e=iJ b/\Q (.bl (neg !=b)) H
set_option tactic.hygienic true in
theorem zo3(hr:Zr k X.A)(hK:X.K=K:=by rfl):OpR X (compareOp .NotEq) (zqF K jD):=by
 subst hK;intro pins s σ H x y v u Q I rx ry h;obtain⟨d,e,b,⟨l,m,hd⟩,hx,hy,hb,q⟩:=h;have hu:X.A.units+41<cLine:=y9 ⋯ hr.units;rw[show(jD !=b)= !b by cases b<;>rfl] at q;unfold eqG at hb;rcases hd with⟨rfl,rfl⟩|⟨rfl,rfl⟩
 .dsimp only at hb;cases ha:zaP (eqG 39) l m with
  |none=>rw[ha] at hb;cases hb
  |some b'=>
   rw[ha] at hb;cases hb;obtain⟨e,k,rfl⟩:=UB ha;obtain⟨a,xs,rfl,h1,h2⟩:=hx.tup_inv;obtain⟨a',ys,rfl,g1,g2⟩:=hy.tup_inv;cases rx;cases ry;obtain⟨ag,r1,p1,_⟩:=I.tuple h1;obtain⟨cE,r2,p2,_⟩:=I.tuple g1;have s1:ag.toArray.size=l.length:=by have e1:=r1.length;have e3:=h2.len;simp;omega
   have s2:cE.toArray.size=m.length:=by have e1:=r2.length;have e3:=g2.len;simp;omega
   refine SeqAt.RcNeAt.tuples (e:=e) p1 p2 ⋯ (UC r1 r2 h2 g2 λhi hj hx hy ru rv=>zfr I 39 (A:=X.A.in1) (k _ _ _ hi hj) (by show X.A.units+1+39<cLine;omega) hx hy ru rv) _ _ _ _ ?_;rw[s1,s2];exact⟨.bl _,H,I,rfl,q⟩
 .dsimp only at hb;obtain⟨a,xs,rfl,h1,h2⟩:=hx.lst_inv;obtain⟨a',ys,rfl,g1,g2⟩:=hy.lst_inv;cases rx;cases ry;obtain⟨ag,r1,p1,_⟩:=I.list h1;obtain⟨cE,r2,p2,_⟩:=I.list g1;have s1:ag.toArray.size=l.length:=by have e1:=r1.length;have e3:=h2.len;simp;omega
  have s2:cE.toArray.size=m.length:=by have e1:=r2.length;have e3:=g2.len;simp;omega
  split at hb
  .rename_i mH;obtain⟨e,k,rfl⟩:=UB hb;refine SeqAt.RcNeAt.lists (e:=e) p1.isList p2.isList ⋯ ⋯ (UC r1 r2 h2 g2 λhi hj hx hy ru rv=>zfr I 39 (A:=X.A.in1) (k _ _ _ hi hj) (by show X.A.units+1+39<cLine;omega) hx hy ru rv) _ _ _ _ ?_;rw[show min l.length m.length=l.length by omega] at q;rw[s1];exact⟨.bl _,H,I,rfl,q⟩
  .rename_i mH;cases hb;refine SeqAt.RcNeAt.lists_lengths p1.isList p2.isList (by rw[s1,s2];simpa using mH) ⋯ _ _ _ _ ?_;exact⟨.bl jD,H,I,rfl,q⟩
end L2
namespace L2
open PySem PySem.Spec PyProof.Rows PySem.Calls PySem.W
section
variable{cmp:Nat->Nat->(Bool->qN->Prop)->qN->Prop}{r:Nat->Int}{n:Nat}
end
section
variable{w:World}
end
open PySem.AutoSeq1 (wpAny_loadPart')
open PySem.MeetsSeq PySem.MeetsSeq2 PySem.MeetsSeq3
section
variable{w:World}
end
end L2
namespace L2
open PySem PySem.Spec PyProof.Rows PySem.Calls PySem.W
section
variable{a:qY}{d:V}{u r:qM}{aq:pR (Key×V)}{k:Key}
end
section
variable{o e f:Expr}{apos d6:Pos}{td ty tx:TE}
end
open PySem.AutoSeq1 (wpAny_loadPart')
section
variable{w:World}
end
end L2
namespace L2
open PySem PySem.Spec PyProof.Rows PySem.Calls PySem.W
section
variable{w:World}
end
open PySem.AutoSeq1 (wpAny_loadPart')
section
variable{w:World}
end
end L2
namespace L2
open PySem PySem.Spec PyProof.Rows PySem.Calls
mutual
inductive zky(h:Heap):NK->Value->Prop where
 |int (i:Int) (t:Tok):zky h (.int i) (.int i t)
 |str (x:Str) (t:Tok):zky h (.str x) (.str x t)
 |tup {a:Addr} {o:Obj} {items:Array Value} {n:Nat} {l:List NK}:h.get? a=iJ o->o.cls= .type "tuple"->o.data= .seq items n->zhN h l items.toList->zky h (.tup l) (.ref a)
inductive zhN(h:Heap):List NK->List Value->Prop where
 |nil:zhN h [] []
 |cons {k:NK} {v:Value} {ks:List NK} {vs:List Value}:zky h k v->zhN h ks vs->zhN h (k::ks) (v::vs)
end
section
variable{h h':Heap}
end
section
variable{w:World}
end
mutual
inductive NIs(K:uk)(H:Hp):V->NK->Prop where
 |int (i:Int):NIs K H (.int i) (.int i)
 |str (x:Str):NIs K H (.str x) (.str x)
 |tup {a:Addr} {vs:List V} {l:List NK}:SqT K H a vs->zmA K H vs l->NIs K H (.ref a) (.tup l)
inductive zmA(K:uk)(H:Hp):List V->List NK->Prop where
 |nil:zmA K H [] []
 |cons {v:V} {k:NK} {vs:List V} {ks:List NK}:NIs K H v k->zmA K H vs ks->zmA K H (v::vs) (k::ks)
end
noncomputable abbrev PN:pR (NK×qY×V)->pR (NK×qY×qM)->Prop:=Paired λ(p:NK×qY×V) (q:NK×qY×qM)=>p.1=q.1/\p.2.1=q.2.1/\yq p.2.2 q.2.2
section
variable{a:qY}
end
section
variable{a:qY}{y v d:V}{u r:qM}{o:pT V}
end
section
variable{o i e f value:Expr}{pos pos' kY apos d6:Pos}{td ty tv tx:TE}{r:Nat}
end
end L2
namespace L2
open PySem PySem.Spec PyProof.Rows PySem.Calls PySem.W
section
variable{w:World}{d it:qY}{es:Array DictEntry}{ep i:Nat}
end
noncomputable def ltL:pR Int->pR Int->Bool
 |[],[]=>nW
 |[],_::_=>jD
 |_::_,[]=>nW
 |a::x,b::y=>if a=b then ltL x y else decide (a<b)
section
variable{w:World}
end
section
variable{w:World}{T:String}{r d:qY}{n:Nat}{P:Nat->qM->Prop}{OK:Heap->Prop}
end
end L2
namespace L2
open PySem PySem.Spec PyProof.Rows PySem.Calls
open AutoSeq1 (wpAny_loadPart')
section
variable{w:World}{it t:qY}{ag:Array qM}
end
end L2
namespace L2
open PySem PySem.Spec PyProof.Rows
end L2
namespace L2
open PySem PySem.Spec PyProof.Rows PySem.Calls PySem.W
section
variable{cmp:Nat->Nat->(Bool->qN->Prop)->qN->Prop}{r:Nat->Int}{n:Nat}
end
section
variable{w:World}{κ:SortKind}{it:Array Keyed}
end
section
variable{h':Heap}
end
def zqG(is:pR (pR Int)):Prop:=(2<=is.length->∀l∈is,l≠[])/\∀i j,i<j->j<is.length->ltL (is.getD j []) (is.getD i [])=jD
section
variable{k:Nat}{f:qY}{fd:FuncData}{ps:pR Str}{sp:Sp}
end
end L2
namespace L2
open PySem PySem.Spec PyProof.Rows
namespace Sm
noncomputable def inB(b j:Nat):Bool:=b.testBit j
noncomputable def plL(b:Nat):pR Nat:=(y2 8).filter (inB b)
noncomputable def pl(b:Nat):Array Nat:=(plL b).toArray
noncomputable def st(h:Int):Nat->Nat×Nat
 |0=>(SetTable.bits h % 8,SetTable.bits h)
 |n+1=>SetTable.leap 7 (st h n).1 (st h n).2
noncomputable def pos(h:Int)(n:Nat):Nat:=(st h n).1
noncomputable def mkP(s:Nat×Nat):SetTable.Probe:={j:=s.1,more:=0,i:=s.1,perturb:=s.2,dummy:=jr}
structure Tb(t:SetTable)(b:Nat):Prop where
 mask:t.mask=7
 place:t.place=pl b
 ui:t.dummies= #[]
noncomputable def ix(b j:Nat):Nat:=((y2 j).filter (inB b)).length
inductive znM(f:Nat->Int)(b:Nat)(x:Int)(n:Nat):SetTable.Met->Prop
 |empty (m:Nat):n<=m->inB b (pos x m)=nW->(∀k,n<=k->k<m->inB b (pos x k)=jD/\f (pos x k)≠x)->znM f b x n (.empty (pos x m) jr)
 |tH (m:Nat):n<=m->inB b (pos x m)=jD->f (pos x m)=x->(∀k,n<=k->k<m->inB b (pos x k)=jD/\f (pos x k)≠x)->znM f b x n (.candidate (pos x m) (ix b (pos x m)) (mkP (st x (m+1))))
def zqH(b:Nat)(f:Nat->Int):Prop:=∀j<8,inB b j=jD->∃n,pos (f j) n=j/\∀m,m<n->inB b (pos (f j) m)=jD
end Sm
end L2
namespace L2
open PySem PySem.Spec PyProof.Rows PySem.Calls PySem.W
section
variable{w:World}
structure zro(w:World)(h:Heap)(a:qY)(b:Nat)(f:Nat->Int×qM)(kf:Nat->NK)(o:Obj)(ep:Nat)(t:SetTable):Prop where
 get:h.get? a=iJ o
 ex:o.ExactSet
 data:o.data= .set ((Sm.pl b).map f) ep t
 tb:Sm.Tb t b
 plain:t.plain=jD
 lt:b<256
 few:(Sm.plL b).length<=4
 chain:Sm.zqH b λj=>(f j).1
 keys:∀j<8,Sm.inB b j=jD->(f j).1=zjh w (kf j)/\(∃c,(f j).2= .ref c/\zky h (kf j) (.ref c))/\zlN (kf j)<=8
 inj:∀i<8,∀j<8,Sm.inB b i=jD->Sm.inB b j=jD->kf i=kf j->i=j
variable{a:qY}{b:Nat}{f:Nat->Int×qM}{kf:Nat->NK}{o:Obj}{ep:Nat}{t:SetTable}
end
section
variable{h h':Heap}
end
section
variable{w:World}
variable{a:qY}{b:Nat}{f:Nat->Int×qM}{kf:Nat->NK}{o:Obj}{ep:Nat}{t:SetTable}
end
section
variable{h h':Heap}
end
section
variable{w:World}
variable{R:Result->qN->Prop}{I:qY}{fp wr:pR qY}{G:Array GenState->Array GenState->Prop}{n:Nat}{P:Nat->qM->Prop}{St:Nat->qN->Prop}
end
section
noncomputable def zcS(w:World):Bool:= !w.params.followText "set-order"
noncomputable def zee(led:Bool):Obj:={cls:= .type "set",dict:=jr,data:= .set #[] 0 (.fresh 0 0 led)}
theorem zo4(x:qM){Q₁:qM->qN->Prop}(h:Q₁ (.ref s.heap.objs.size) {s with heap:=s.heap.push (zee (zcS w))}):
  codeAny (model prog w) A (.call (.builtin "set.__new__") ⟨[.type "set",x],[]⟩) (wants Q₁ E) s:=by
 refine codeAny_of_tree ?_;show wpAny _ A.in1 (do checkBuiltinCall "set.__new__" ⟨[.type "set",x],[]⟩;again (.builtin "set.__new__" ⟨[.type "set",x],[]⟩)) _ _ s;refine wpAny_bind (wpAny_of_eq (F.newCall_set_1 x) (wpAny_pure ⟨plainId_quiet F.plain_set_new _,codeAny_builtin F.entry_set_new ?_⟩));rw[Around.under_plainId F.plain_set_new _];unfold Builtin.«set.__new__» Builtin.Frozenset.newClass;have oJ:=sub_set_self;obtain⟨hp,g,d,tk,os⟩:=s;dsimp only
 wp_walk
 refine wpAny_askSetting (wpAny_pure ?_);dsimp only;simp only[newObj];exact wpAny_bind (wpAny_alloc (wpAny_pure (wpAny_pure h)))
end
end L2
set_option maxHeartbeats 3200000
namespace L2
open PySem PySem.Spec PyProof.Rows PySem.Calls PySem.W
section
variable{w:World}
end
structure zrp(h:Heap)(a:qY)(b:Nat)(f:Nat->Int×qM)(o:Obj)(ep:Nat)(t:SetTable):Prop where
 get:h.get? a=iJ o
 ex:o.ExactSet
 data:o.data= .set ((Sm.pl b).map f) ep t
 tb:Sm.Tb t b
 plain:t.plain=jD
 lt:b<256
 few:(Sm.plL b).length<=4
section
variable{w:World}{d it:qY}
variable{b:Nat}{f:Nat->Int×qM}{o:Obj}{ep:Nat}{t:SetTable}
variable{b:Nat}{f:Nat->Int×qM}{o:Obj}{ep:Nat}{t:SetTable}{i:Nat}
end
mutual
noncomputable def cp:NK->NK->Bool
 | .int _,.int _=>jD
 | .tup x,.tup y=>cpL x y
 |_,_=>nW
noncomputable def cpL:pR NK->pR NK->Bool
 |a::x,b::y=>cp a b&&cpL x y
 |_,_=>jD
end
section
open PySem.SeqAt
open PySem.AutoSeq1 (wpAny_loadPart')
open PySem.MeetsSeq PySem.MeetsSeq2 PySem.MeetsSeq3
variable{w:World}
end
section
variable{w:World}
def zo5(b:Bool):NK->Prop
 | .tup (.tup _::_)=>b=nW
 | .tup (.int _::_)=>b=jD
 |_=>False
end
structure KOk(b:Bool)(ks:pR NK):Prop where
 cmp:∀x∈ks,∀y∈ks,cp x y=jD
 uj:∀k∈ks,zlN k<=8
 fst:∀k∈ks,zo5 b k
section
variable{w:World}
end
section
variable{w:World}
end
section
variable{H':Hp}{h':Heap}
end
inductive zgM(H:Hp):List Addr->List (Int×V)->Prop
 |nil:zgM H [] []
 |cons {p:Addr} {x:Int×V} {ps:List Addr} {xs:List (Int×V)}:H p=iJ (.tup [.int x.1,x.2])->zgM H ps xs->zgM H (p::ps) (x::xs)
noncomputable def zqI(ns:pR Int):Int:=ns.foldl (λa b=>if b>a then b else a) (ns.headD 0)
theorem zkz(ns:pR Int):∀k,k<ns.length->ns.getD (argBest (λi j=>decide (ns.getD i 0>ns.getD j 0)) k) 0=(ns.take (k+1)).foldl (λa b=>if b>a then b else a) (ns.headD 0)/\argBest (λi j=>decide (ns.getD i 0>ns.getD j 0)) k<=k:=by
 intro k
 induction k with
 |zero=>
  intro h;cases ns with
  |nil=>simp at h
  |cons a r=>simp[argBest]
 |succ k ih=>
  intro h;obtain⟨h1,h2⟩:=ih ⋯;have hg:ns[k+1]? =iJ (ns.getD (k+1) 0):=by rw[uz,uo h];rfl
  obtain⟨hi,e⟩:=uq.1 hg;rw[w9 hi,e,List.foldl_append,<-h1];have hb:∀f:Nat->Nat->Bool,argBest f (k+1)=if f (k+1) (argBest f k)=jD then k+1 else argBest f k:=λf=>rfl
  rw[hb,CV,List.foldl_nil];by_cases q:ns.getD (k+1) 0>ns.getD (argBest (λi j=>decide (ns.getD i 0>ns.getD j 0)) k) 0
  .rw[if_pos (decide_eq_true q),if_pos q];exact⟨rfl,uv _⟩
  .rw[if_neg (by rw[decide_eq_false q];decide),if_neg q];exact⟨rfl,⋯⟩
open PySem.AutoSeq1 (wpAny_loadPart')
open PySem.MeetsSeq PySem.MeetsSeq2 PySem.MeetsSeq3
section
variable{w:World}
end
end L2
namespace L2
open PySem PySem.Spec PyProof.Rows PySem.Calls
noncomputable def Its(x:Str):It:=⟨λi _=>∃c,x.cps[i]? =iJ c,λi H v H'=>H'=H/\∃c,x.cps[i]? =iJ c/\v= .str ⟨#[c]⟩,λi _=>x.cps[i]? =jr⟩
theorem zkA{P:Program}{w:World}{tg:Expr}(x:Str)(t:Tok)(it:qY):zjq P w K tg (Its x) [it] it (λi h=>h.IsStrIter it "str_ascii_iterator" x t i) where
 mem:=by simp
 obj:=λi h st b hb=>by
  have e:b=it:=by simpa using hb
  subst e;obtain⟨o,e,c,d⟩:=st;exact⟨o,e,λv z=>by rw[d] at z;cases z⟩
 keep:=λi h h' st k=>by
  obtain⟨o,e,c,d⟩:=st;exact⟨o,k it (by simp) o e,c,d⟩
 item:=by
  intro X hP hw hK hc i pins s σ H E I hf st hg;subst hP hw hK;obtain⟨c,hx⟩:=hg;obtain⟨f0,f1,f2,f3,f4,f5⟩:=hf it (by simp);refine wpAny_pyNext_ascii_item st hx λh' st' sb=> ?_;have I1:Inv X pins σ H {s with heap:=h',toks:=s.toks+1}:=I.turned (λb o hb e=>(sb.2 b hb).trans e) f0 f1 f3 f4 f5;obtain⟨o,e,c',d⟩:=id st';exact⟨_,rfl,zhf (s:={s with heap:=h',toks:=s.toks+1}) e c' d ∅ ⟨.str ⟨#[c]⟩,H,I1,⟨_,rfl⟩,⟨rfl,c,hx,rfl⟩,st',λb hb=>(hf b hb).1⟩⟩
 done:=by
  intro X hP hw hK hc i pins s σ H E I hf st hg;subst hP hw hK;obtain⟨f0,f1,f2,f3,f4,f5⟩:=hf it (by simp);exact wpAny_pyNext_ascii_end (I.ok.hd hc) st hg λh' eb=>⟨rfl,I.turned (t':=s.toks) (λb o hb e=>eb b o hb e) f0 f1 f3 f4 f5⟩
 self:=λ_ _ _ _ _ st h=>wpAny_pyIter_striter_ascii st h
section
def zqJ(tl:TE):TI:=λσ H R=>tl σ H λx H1=>∃y,x= .str y/\y.cps.all (· <128)=jD/\R (Its y) H1
theorem zgN(hl:PE X l tl):PI X tg l (zqJ tl):=by
 intro pins s σ H R I h;refine thn (hl pins s σ H _ I h) ?_;rintro v s1 ⟨x,H1,I1,r1,y,rfl,ha,q⟩;obtain⟨t,rfl⟩:=r1;refine wpAny_pyIter_ascii ha ?_;refine⟨s1.heap.objs.size,[s1.heap.objs.size],_,_,H1,rfl,I1.kept (t':=s1.toks) λb o e=>Heap.get?_push_of_some _ e,zkA y t _,⟨_,Heap.get?_push_size _ rfl,rfl,rfl⟩,λb hb=> ?_,q⟩;have e:b=s1.heap.objs.size:=by simpa using hb
 subst e;exact I1.fpOk (uv _) (I1.hok.fresh (uv _))
end
section
variable{G:Array GenState->Array GenState->Prop}{P:Nat->qM->Prop}{St:Nat->qN->Prop}{R:Result->qN->Prop}
theorem TR:(toString "max"++toString ".loop":String)="max.loop":=by decide
noncomputable abbrev zmB(xs:Array qM)(c:Nat):Obj:={cls:= .type "list",dict:=jr,data:= .seq xs c,slots:= #[]}
noncomputable abbrev zo6(I S:qY)(d:qM):Code:= .builtin "max.loop" ⟨[.ref I,.none,.ref S],[("default",d)]⟩
theorem zkB(W:WalksS prog w A.in1 I fp wr G n P St)(bt:Nat->Nat->Bool)(cmp:CmpOf prog w A.in1 .Gt P bt)(S:qY)(nf:S∉fp)(d:qM):∀(k j:Nat) (s:qN) (u:qM) (c:Nat),n-(j+1)=k->j+1<=n->St (j+1) s->P (argBest bt j) u->
  s.heap.get? S=iJ (zmB #[u,u] c)->(∀v s',P (argBest bt (n-1)) v->Moved (S::wr) G s s'->R (.ok (.ret v)) s')->codeAny (model prog w) A (zo6 I S d) R s:=by
 have nw:S∉wr:=λq=>nf (W.sub _ q);have up:∀b∈wr,b∈S::wr:=λb q=> .tail _ q;have ns:∀{b:qY},b∉S::wr->S≠b:=λq e=>q (e ▸ .head _);intro k
 induction k with
 |zero=>
  intro j s u c hk hj st hu hS fin;have hn:j+1=n:=by omega
  refine codeAny_builtin F.entry_max_loop (by
   rw[Around.under_plainId F.plain_max_loop _];refine wpAny_bind (m:=seqItems? (.ref S)) (wpAny_seqItems hS rfl (wpAny_bind (m:=tryCatch (pyNext (.ref I)) _) (wpAny_tryCatch (W.done s _ _ (hn ▸ st) λs' mv=> ?_))));refine wpAny_bind (m:=updateSeq S (λ_=> #[])) (wpAny_updateSeq (mv.heap S _ nw hS) rfl (wpAny_bind (wpAny_letGo (wpAny_pure ?_))))
   exact fin u _ (by rw[<-hn];exact hu) ((mv.mono up).then_heap (tk:=s'.toks) (uv _) λb o q e=>(Heap.get?_update_other _ _ (ns q)).trans e))
 |succ k ih=>
  intro j s u c hk hj st hu hS fin;have lt:j+1<n:=by omega
  refine codeAny_builtin F.entry_max_loop (by
   rw[Around.under_plainId F.plain_max_loop _];refine wpAny_bind (m:=seqItems? (.ref S)) (wpAny_seqItems hS rfl (wpAny_bind (m:=tryCatch (pyNext (.ref I)) _) (wpAny_tryCatch (W.item (j+1) s _ _ lt st λv s' hv st' mv=> ?_))));have km:=mv.heap S _ nw hS;refine wpAny_bind (m:=tryCatch (holding [v,v] (richCompare .Gt v u>>=_)) _) (wpAny_tryCatch (wpAny_holding (wpAny_bind (cmp (j+1) (argBest bt j) v u _ _ _ hv hu (wpAny_bind (wpAny_holding (wpAny_truthy_bool (wpAny_bind (wpAny_letGo (wpAny_pure ?_)))))))))) ;cases hb:bt (j+1) (argBest bt j) with
   |true=>
    rw[if_pos rfl]
    refine wpAny_bind (wpAny_updateSeq km rfl (wpAny_bind (wpAny_letGo (by
     rw[TR];refine wpAny_pure ⟨plainId_quiet F.plain_max_loop _,ih (j+1) _ v _ ⋯ lt (W.frame _ s' _ s'.toks st' (uv _) λb q o e=>(Heap.get?_update_other _ _ λz:S=b=>nf (z ▸ q)).trans e) ?_ (Heap.get?_update_self _ km rfl) λv' s'' h1 h2=> ?_⟩
     .show P (if bt (j+1) (argBest bt j) then j+1 else argBest bt j) v;rw[if_pos hb];exact hv
     .exact fin v' s'' h1 (Moved.trans W.gtrans ((mv.mono up).then_heap (uv _) λb o q e=>(Heap.get?_update_other _ _ (ns q)).trans e) h2)))))
   |false=>
    rw[if_neg ∅]
    refine wpAny_bind (wpAny_letGo (by
     rw[TR];refine wpAny_pure ⟨plainId_quiet F.plain_max_loop _,ih (j+1) _ u c ⋯ lt st' ?_ km λv' s'' h1 h2=>fin v' s'' h1 (Moved.trans W.gtrans (mv.mono up) h2)⟩;show P (if bt (j+1) (argBest bt j) then j+1 else argBest bt j) u
     rw[hb];exact hu)))
theorem ziR(W:WalksS prog w A.in1 I fp wr G n P St)(bt:Nat->Nat->Bool)(cmp:CmpOf prog w A.in1 .Gt P bt)(S:qY)(nf:S∉fp)(d:qM)(hn:0<n)(st:St 0 s)(hS:s.heap.get? S=iJ (zmB #[] c))
  (fin:∀v s',P (argBest bt (n-1)) v->Moved (S::wr) G s s'->R (.ok (.ret v)) s'):codeAny (model prog w) A (zo6 I S d) R s:=by
 have nw:S∉wr:=λq=>nf (W.sub _ q);have up:∀b∈wr,b∈S::wr:=λb q=> .tail _ q;have ns:∀{b:qY},b∉S::wr->S≠b:=λq e=>q (e ▸ .head _)
 refine codeAny_builtin F.entry_max_loop (by
  rw[Around.under_plainId F.plain_max_loop _];refine wpAny_bind (m:=seqItems? (.ref S)) (wpAny_seqItems hS rfl (wpAny_bind (m:=tryCatch (pyNext (.ref I)) _) (wpAny_tryCatch (W.item 0 s _ _ hn st λv s' hv st' mv=> ?_))));have km:=mv.heap S _ nw hS
  refine wpAny_bind (m:=updateSeq S (λ_=> #[v,v])) (wpAny_updateSeq km rfl (by
   rw[TR];refine wpAny_pure ⟨plainId_quiet F.plain_max_loop _,zkB W bt cmp S nf d _ 0 _ v _ rfl hn (W.frame _ s' _ s'.toks st' (uv _) λb q o e=>(Heap.get?_update_other _ _ λz:S=b=>nf (z ▸ q)).trans e) hv (Heap.get?_update_self _ km rfl) λv' s'' h1 h2=> ?_⟩
   exact fin v' s'' h1 (Moved.trans W.gtrans ((mv.mono up).then_heap (uv _) λb o q e=>(Heap.get?_update_other _ _ (ns q)).trans e) h2))))
theorem zkC(W:WalksS prog w A.in1 I fp wr G n P St)(S:qY)(nf:S∉fp)(d:qM)(hn:n=0)(st:St 0 s)(hS:s.heap.get? S=iJ (zmB #[] c))
  (fin:∀s',Moved (S::wr) G s s'->R (.ok (.ret d)) s'):codeAny (model prog w) A (zo6 I S d) R s:=by
 have up:∀b∈wr,b∈S::wr:=λb q=> .tail _ q;subst hn
 refine codeAny_builtin F.entry_max_loop (by
  rw[Around.under_plainId F.plain_max_loop _];refine wpAny_bind (m:=seqItems? (.ref S)) (wpAny_seqItems hS rfl (wpAny_bind (m:=tryCatch (pyNext (.ref I)) _) (wpAny_tryCatch (W.done s _ _ st λs' mv=> ?_))))
  exact wpAny_bind (wpAny_rule (wpAny_pure (fin s' (mv.mono up)))))
theorem zkD{id:String}{b:Builtin}{xs:pR qM}{kw:pR (Str×qM)}(e1:builtinKind id=jr)(e2:plainId id=jD)(e3:entryFor table id=iJ b)(e4:argsOk id ⟨xs,kw⟩)
  (h:wpAny (model prog w) A.in1 (b ⟨xs,kw⟩) (λfin s'=>match fin with
   | .done f=>(match (Except.ok f:Result) with| .ok (.ret v)=>Q v s'| .ok _=>False| .error e=>E e s')
   | .again c'=>c'.quiet=jD/\codeAny (model prog w) A c' (λr s'=>match r with| .ok (.ret v)=>Q v s'| .ok _=>False| .error e=>E e s') s') E s):wpAny (model prog w) A (call (.builtin id) xs kw) Q E s:=by
 refine wpAny_call (codeAny_call_builtin e2 e3 (by
  simp only[checkBuiltinCall,e1];cases hs:Manifest.signature? id with
  |none=>exact wpAny_pure h
  |some sig=>
   have e5:Bind.checkArgs id sig ⟨xs,kw⟩=pure ():=by simpa only[argsOk,hs] using e4
   simp only[e5]
   exact wpAny_pure h))
theorem zkE
  (h:wpAny (model prog w) A.in1 (pyIter x) (λit s₂=>∃I fp wr G n P St bt,it= .ref I/\WalksS prog w A.in1 I fp wr G n P St/\St 0 s₂/\(∀b∈fp,b<s₂.heap.objs.size)/\CmpOf prog w A.in1 .Gt P bt/\
   (∀v s',0<n->P (argBest bt (n-1)) v->Moved wr G s₂ s'->Q v s')/\(∀s',n=0->Moved wr G s₂ s'->Q d s')) E s):wpAny (model prog w) A (call (.builtin "max") [x] [("default",d)]) Q E s:=by
 refine zkD F.kind_max F.plain_max F.entry_max (by unfold argsOk;kernel_rfl) (wpAny_bind (m:=Builtin.Builtins.bindParams "max" ["key","default"] 0 ⟨[],[("default",d)]⟩) (wpAny_of_eq (a:=[jr,iJ d]) rfl (wpAny_bind (wpAny_pure (wpAny_bind (wpAny_mono h (λit s₂ h₂=> ?_) λ_ _ e=>e))))));obtain⟨I,fp,wr,G,n,P,St,bt,rfl,W,st,sP,cmp,q1,q2⟩:=h₂;refine wpAny_bind (wpAny_newObj_type ?_);have nf:s₂.heap.objs.size∉fp:=λhm=>Ad _ (sP _ hm);rw[TR];have dA:=W.frame 0 s₂ (s₂.heap.push (zmB #[] 0)) s₂.toks st (uv _) λb _ o e=>Heap.get?_push_of_some _ e;refine wpAny_pure ⟨plainId_quiet F.plain_max_loop _,?_⟩;rcases Nat.eq_zero_or_pos n with hn|hn
 .exact zkC W _ nf d hn dA (Heap.get?_push_size _ rfl) λs' mv=>q2 s' hn (Moved.drop_new (tk:=s₂.toks) mv (uv _))
 .exact ziR W bt cmp _ nf d hn dA (Heap.get?_push_size _ rfl) λv s' hP mv=>q1 v s' hn hP (Moved.drop_new (tk:=s₂.toks) mv (uv _))
end
noncomputable def zef(k:Int)(ns:pR Int):Int:=if ns=[] then k else zqI ns
def zkF(K:uk)(k:Int):V->Hp->VK->Prop:=λx H1 Q=>∃(p:qY) (ns:pR Int),x= .ref p/\SqL K H1 p (ns.map V.int)/\Q (.int (zef k ns)) H1
def znN(K:uk)(k:Int)(te:TE):TE:=λσ H Q=>te σ H λx H1=>zkF K k x H1 Q
theorem zmC(hK:X.K=K)(hc:X.calm=jD){Q:VK}(I:Inv X pins σ H s)(ru:yq x u)(h:zkF K k x H Q):
  wpAny (model X.prog X.w) X.A (call (.builtin "max") [u] [("default",.int k t)]) (EP X pins σ Q) X.xe s:=by
 subst hK;obtain⟨p,ns,rfl,hq,q⟩:=h;cases ru;obtain⟨ag,rv,pl,hz⟩:=I.list hq;have lt:p<s.heap.objs.size:=by
  obtain⟨o,n,e,_⟩:=id pl;exact Heap.lt_size e
 have hl:ns.length=ag.length:=by rw[<-rv.length,um]
 have wo:∀(i:Nat) (v:qM),ag.toArray[i]? =iJ v->i<ns.length/\∃t,v=Value.int (ns.getD i 0) t:=λi v hv=>by
  have hv:ag[i]? =iJ v:=by simpa using hv
  have hi:i<ns.length:=by rw[hl];exact(uq.1 hv).1
  obtain⟨u,hu,t,ru⟩:=rv.get (i:=i) (x:=V.int ns[i]) (by rw[uA,uo hi];rfl);rw[hu] at hv;cases hv;exact⟨hi,t,by rw[ru,uz,uo hi];rfl⟩
 have W:=(Walks.list (prog:=X.prog) (w:=X.w) (A:=X.A.in1) (I.ok.hd hc) s.heap.objs.size p (uR lt) ag.toArray).toS;refine zkE (wpAny_pyIter_list pl.isList ⟨s.heap.objs.size,_,_,_,_,_,_,λi j=>decide (ns.getD i 0>ns.getD j 0),rfl,W,⟨⟨_,Heap.get?_push_size _ rfl,rfl,rfl⟩,Heap.IsList.push pl.isList _⟩,λb hb=> ?_,CmpOf.ints_gt (λi=>ns.getD i 0) (λi v hv=>(wo i v hv).2),λv s' hn hv m=> ?_,λs' hn m=> ?_⟩)
 .rw[Heap.size_push];rcases(by simpa using hb:b=s.heap.objs.size\/b=p) with rfl|rfl
  .exact A4 _
  .exact AY lt
 .have I1:Inv X pins σ H {s with heap:=s'.heap,toks:=s'.toks}:=I.kept λb o e=>m.heap b o (λz=>by
   have z:b=s.heap.objs.size:=by simpa using z
   exact absurd (Heap.lt_size e) (by rw[z];exact Ad _)) (Heap.get?_push_of_some _ e)
  have e:({s with heap:=s'.heap,toks:=s'.toks}:qN)=s':=by
   have h1:=m.gens;have h2:=m.drawn;have h3:=m.os;cases s';simp only at h1 h2 h3;subst h1 h2 h3;rfl
  rw[e] at I1;obtain⟨_,t,rfl⟩:=wo _ v hv;rw[uD] at hn;have fj:ns≠[]:=λz=>by rw[z] at hl;simp at hl;omega
  refine⟨.int (zef k ns),H,I1,⟨t,?_⟩,q⟩;have:=(zkz ns (ns.length-1) ⋯).1;rw[show ns.length-1+1=ns.length by omega,z8] at this;unfold zef;rw[uD,<-hl,this,if_neg fj];rfl
 .have I1:Inv X pins σ H {s with heap:=s'.heap,toks:=s'.toks}:=I.kept λb o e=>m.heap b o (λz=>by
   have z:b=s.heap.objs.size:=by simpa using z
   exact absurd (Heap.lt_size e) (by rw[z];exact Ad _)) (Heap.get?_push_of_some _ e)
  have e:({s with heap:=s'.heap,toks:=s'.toks}:qN)=s':=by
   have h1:=m.gens;have h2:=m.drawn;have h3:=m.os;cases s';simp only at h1 h2 h3;subst h1 h2 h3;rfl
  rw[e] at I1;rw[uD] at hn;have fj:ns=[]:=Aa.1 ⋯;refine⟨.int (zef k ns),H,I1,⟨t,?_⟩,q⟩;unfold zef;rw[if_pos fj]
theorem zhO(hc:X.calm=jD)(hg:Gl X "max")(hm:X.mg "max"=jr)(ha:PE X e te)(hK:X.K=K:=by rfl)
  (pk:starEach [e] X.env=[(nW,eval e X.env)]:=by rfl) (he:backTo pos (starEach [e] X.env)=(nW,eval e X.env)::backTo pos (starEach [] X.env):=by rfl) (jv:(backTo pos (starEach [e] X.env)).any (·.1)=nW:=by rfl):
  PE X (.Call (.Name "max" pp) [e] [⟨iJ "default",.Constant (.int k) tp tq,kp⟩] pos) (znN K k te):=by
 intro pins s σ H Q I h;refine wpAny_Call_Name_kw (UZ I hg hm boot_max ?_ ∅ ∅);refine callWith_kw (thn (yk ha zb pk pos pins s σ H (λvs H1=>∃x,vs=[x]/\zkF K k x H1 Q) I ?_) ?_) he jv rfl rfl
 .have h:te σ H _:=h;show te σ H λx H1=>∃y,[x]=[y]/\_;simpa only[DL,and_true,exists_eq_left'] using h
 rintro us s1 ⟨vs,H1,I1,r1,x,rfl,q⟩;obtain⟨u,rfl,ru⟩:=Wo r1;show wpAny _ _ (evalAll [(do let v <-eval (.Constant (.int k) tp tq) X.env;standAt pos;pure v)]) _ _ s1;refine wpAny_evalAll_cons (wpAny_bind (wpAny_Constant_int (wpAny_bind (wpAny_standAt (wpAny_pure ?_)))));refine wpAny_evalAll_nil ?_;exact zmC hK hc (I1.tok _) ru q
section
theorem zfs{Q:Int×Int×Nat->qN->Prop}(hs:s.heap.IsSliceOf sl .none .none (.int 2 t))(hn:n=1\/n=3)
  (h:Q (0,2,(n+1) / 2) s):wpAny (model prog w) A (Builtin.Slice.sliceApplied (.ref sl) (pure (n:Int))) Q E s:=by
 obtain⟨os,jB,lL,kj⟩:=id hs;unfold Builtin.Slice.sliceApplied Builtin.Slice.sliceFields;refine wpAny_bind (wpAny_bind (wpAny_field jB kj (x:= .none) rfl (wpAny_bind (wpAny_field jB kj (x:= .none) rfl (wpAny_bind (wpAny_field jB kj (x:= .int 2 t) rfl (wpAny_pure ?_)))))));refine wpAny_bind (HT.YX (.int 2 t) ?_);show wpAny _ _ (if ((2:Int)==0)=jD then _ else _) _ _ s;rw[if_neg ∅];refine wpAny_bind (HT.YX .none (wpAny_bind (HT.YX .none (wpAny_bind (wpAny_pure ?_)))));rcases hn with rfl|rfl
 .exact wpAny_pure h
 .exact wpAny_pure h
noncomputable def wj{α:Type}:pR α->pR α
 |[a,_,b]=>[a,b]
 |xs=>xs
theorem zhP{xs:pR qM}(hn:xs.length=1\/xs.length=3):((y2 ((xs.length+1) / 2)).filterMap λ(m:Nat)=>xs.toArray[((0:Int)+(m:Int)*2).toNat]?).toArray=(wj xs).toArray/\(wj xs).length<=2:=by
 rcases hn with hn|hn
 .obtain⟨a,rfl⟩:=lq1 hn.symm;exact⟨by simp[wj,y2,DM],(show 1<=2 by decide)⟩
 .obtain⟨a,b,t,rfl,q⟩:=lq2 (n:=1) hn.symm;obtain⟨c,rfl⟩:=lq1 q;exact⟨by simp[wj,y2,DM],(show 2<=2 by decide)⟩
theorem zmD(ht:IsTup s.heap t items)(hs:s.heap.IsSliceOf sl .none .none (.int 2 tk))(hn:items.size=1\/items.size=3)
  (h:Q (.ref s.heap.objs.size) {s with heap:=s.heap.push {cls:= .type "tuple",data:= .seq (wj items.toList).toArray}}):wpAny (model prog w) A (getItem (.ref t) (.ref sl)) Q E s:=by
 have se:((y2 ((items.size+1) / 2)).filterMap λ(m:Nat)=>items[((0:Int)+(m:Int)*2).toNat]?).toArray=(wj items.toList).toArray:=by
  obtain⟨xs⟩:=items;exact(zhP hn).1
 have fU:sizeOk (.seq (wj items.toList).toArray):=by
  show(wj items.toList).toArray.size<=sizeLine;obtain⟨xs⟩:=items;have:=(zhP hn).2;exact v5 (show(wj xs).toArray.size<=2 by simpa using this) ∅
 obtain⟨os,jB,lL,kj⟩:=id hs;have n8:s.TypeIs (.ref sl) "slice":=⟨os,jB,lL⟩;unfold getItem
 try with_reducible refine wpAny_holding ?_
 first|refine wpAny_bind (wpAny_pure ?_)|skip
 refine wpAny_bind (wpAny_sequenceKey ht.typeIs ∅ ?_)
 refine wpAny_bind (wpAny_callSpecial?_slot (name:=Str.ofString "__getitem__") ht.typeIs y4
  (wpAny_call_entry y4 ht.typeIs entry_tuple_getitem ?_ (args_tuple_getitem _ _)))
 show wpAny _ _ (Builtin.Tuple.tupleItemsOf (.ref t)>>=_) _ _ s;refine wpAny_bind (tupleItemsOf_ ht ?_);refine wpAny_bind (wpAny_typeOf n8 ?_);rw[if_pos ∅];refine wpAny_bind (zfs hs hn ?_);show wpAny _ _ (if ((0:Int)==0&&(2:Int)==1&&((items.size+1) / 2)==items.size)=jD then _ else _) _ _ s;rw[if_neg (by simp),se]
 first
  |exact wpAny_bind (m:=Builtin.Tuple.tupleExact _) (wpAny_newObj_type (wpAny_pure ⟨_,rfl,wpAny_pure h⟩) fU)
  |exact wpAny_bind (m:=Builtin.Tuple.tupleExact _) (wpAny_newObj_type (wpAny_bind (wpAny_pure (wpAny_pure ⟨_,rfl,wpAny_pure h⟩))) fU)
  |exact wpAny_bind (wpAny_bind (m:=Builtin.Tuple.tupleExact _) (wpAny_newObj_type (wpAny_pure (wpAny_pure ⟨_,rfl,wpAny_pure h⟩)) fU))
  |exact wpAny_bind (wpAny_bind (m:=Builtin.Tuple.tupleExact _) (wpAny_newObj_type (wpAny_pure ⟨_,rfl,wpAny_pure h⟩) fU))
end
theorem zkG{α:Type}(xs:pR α):(wj xs).length<=xs.length:=by
 unfold wj;split
 .simp
 .exact uv _
set_option tactic.hygienic true in
theorem ziS(h:yd xs us):yd (wj xs) (wj us):=by
 unfold wj;split
 .cases h with|cons h1 h=>cases h with|cons h2 h=>cases h with|cons h3 h=>cases h;exact .cons h1 (.cons h3 .nil)
 .rename_i hx;split
  .cases h with|cons h1 h=>cases h with|cons h2 h=>cases h with|cons h3 h=>cases h;exact absurd rfl (hx _ _ _)
  .exact h
def zrd(K:uk):V->Hp->VK->Prop:=λx H Q=>∃a xs,x= .ref a/\SqT K H a xs/\(xs.length=1\/xs.length=3)/\∀p,H p=jr->Q (.ref p) (upd H p (.tup (wj xs)))
def zqK(K:uk)(te:TE):TE:=λσ H Q=>te σ H λx H1=>zrd K x H1 Q
theorem zkH{e:Expr}{te:TE}{p2 pos tq:Pos}{tp:Nat}(he:PE X e te)(hK:X.K=K:=by rfl):PE X (.Subscript e (.Slice jr jr (iJ (.Constant (.int 2) tp tq)) p2) pos) (zqK K te):=by
 subst hK;intro pins s σ H Q I h;refine Subscript_ (thn (he pins s σ H _ I h) ?_);rintro v s1 ⟨x,H1,I1,r1,a,xs,rfl,hx,hn,q⟩;refine wpAny_Slice ?_;rw[evalPart_none];refine wpAny_pure (wpAny_pure ?_);rw[evalPart_some];refine wpAny_Constant_int ?_;cases r1;have I2:=I1.tok (s1.toks+1);have I4:Inv X pins σ H1 {s1 with heap:=s1.heap.push {cls:= .type "slice",data:= .fields #[.none,.none,.int 2 s1.toks]},toks:=s1.toks+1}:=I1.kept λb ob q=>Heap.get?_push_of_some _ q;obtain⟨ag,r,ht,hz⟩:=I4.tuple hx;have hlen:ag.toArray.size=xs.length:=by rw[uD];exact r.length.symm
 refine tail_any (ops:=[.ref a,.ref s1.heap.objs.size]) ht.typeIs y4.lookup ?_ (by with_unfolding_all rfl);refine zmD ht (Heap.IsSliceOf.new ..) (by rw[hlen];exact hn) ?_;refine⟨.ref _,_,I4.laid (o:= .tup (wj xs)) (λb ob q=>Heap.get?_push_of_some _ q) (uv _) ?_,rfl,q _ (I4.hok.fresh (uv _))⟩;exact⟨v5 (zkG xs) hz,_,ziS r,WG.new _ _⟩
theorem zcT:typeLookup (.type "tuple") "keys"=pure jr:=by rw[typeLookup_type,builtinLookup_eq_fast];kernel_rfl
theorem zft:typeLookup (.type "tuple") "__getattr__"=pure jr:=by rw[typeLookup_type,builtinLookup_eq_fast];kernel_rfl
section
variable{w:World}{h:Heap}{g:Array GenState}{d:Drawn}{t:Nat}{os:OsState}{a:qY}
def zo7(h:Heap)(g:Array GenState)(d:Drawn)(os:OsState)(E:qM->qN->Prop):Prop:=∀h' e tk',(∀b o,h.get? b=iJ o->h'.get? b=iJ o)->(∃o,h'.get? e=iJ o/\o.cls= .type "AttributeError")->E (.ref e) ⟨h',g,d,tk',os⟩
theorem zgO{tk:Tok}{Q:Fin->qN->Prop}{xs:Array qM}{n:Nat}{sl:Array (pT qM)}(hx:h.get? a=iJ ⟨.type "tuple",jr,.seq xs n,sl⟩)(hh:A.handled=jr)(hq:zo7 h g d os E):
  wpAny (model prog w) A (Builtin.«object.__getattribute__» ⟨[.ref a,.str "keys" tk],[]⟩) Q E ⟨h,g,d,t,os⟩:=by
 have hT:(⟨h,g,d,t,os⟩:qN).TypeIs (.ref a) "tuple":=⟨_,hx,rfl⟩;have f4:=zcT
 repeat (any_goals (first|assumption|wp_step))
 refine wpAny_raiseAttrError hh (λh' tk' e q=> ?_) (by decide+kernel);obtain⟨q1,q2,o,vs,q3⟩:=q;exact hq h' e tk' q1 ⟨_,q3,rfl⟩
theorem ziT{tk:Tok}{R:Result->qN->Prop}{xs:Array qM}{n:Nat}{sl:Array (pT qM)}(hx:h.get? a=iJ ⟨.type "tuple",jr,.seq xs n,sl⟩)(hh:A.handled=jr)(hq:zo7 h g d os λe s=>R (.error e) s):
  codeAny (model prog w) A (.call (.builtin "tuple.__getattribute__") ⟨[.ref a,.str "keys" tk],[]⟩) R ⟨h,g,d,t,os⟩:=
 codeAny_call_builtin F.slot_tuple_getattribute.plain F.entry_tuple_ga (F.slot_tuple_getattribute.check _ _ _ _ _ _ _ _ (show(⟨h,g,d,t,os⟩:qN).TypeIs (.ref a) "tuple" from ⟨_,hx,rfl⟩) (F.args_tuple_getattribute_2 _ _) (zgO hx (by simpa using hh) hq))
theorem zmE{tk:Tok}{xs:Array qM}{n:Nat}{sl:Array (pT qM)}(hx:h.get? a=iJ ⟨.type "tuple",jr,.seq xs n,sl⟩)(hh:A.handled=jr)(hq:zo7 h g d os E):
  wpAny (model prog w) A (getAttrBy (.ref a) (.str "keys" tk) nW) Q E ⟨h,g,d,t,os⟩:=by
 have hT:(⟨h,g,d,t,os⟩:qN).TypeIs (.ref a) "tuple":=⟨_,hx,rfl⟩;have f2:=F.slot_tuple_getattribute.lookup;have f3:=F.slot_tuple_getattribute.bind (.ref a);have f5:=zft
 repeat (any_goals (first|assumption|wp_step))
 refine ziT hx (by simpa using hh) λh' e tk' q1 q2=> ?_;obtain⟨o,q2,q3⟩:=q2;have hE:(⟨h',g,d,tk',os⟩:qN).TypeIs (.ref e) "AttributeError":=⟨_,q2,q3⟩;have f6:=sub_AttributeError;have pF:(⟨h',g,d,tk',os⟩:qN).TypeIs (.ref a) "tuple":=⟨_,q1 _ _ hx,rfl⟩
 repeat (any_goals (first|assumption|wp_step))
 exact hq h' e tk' q1 ⟨o,q2,q3⟩
theorem ziU{Q:pT qM->qN->Prop}{xs:Array qM}{n:Nat}{sl:Array (pT qM)}(hx:h.get? a=iJ ⟨.type "tuple",jr,.seq xs n,sl⟩)(hh:A.handled=jr)(hq:∀h' tk',(∀b o,h.get? b=iJ o->h'.get? b=iJ o)->Q jr ⟨h',g,d,tk',os⟩):
  wpAny (model prog w) A (getAttr? (.ref a) "keys") Q E ⟨h,g,d,t,os⟩:=by
 unfold getAttr? getAttrBy?;have hT:(⟨h,g,d,t,os⟩:qN).TypeIs (.ref a) "tuple":=⟨_,hx,rfl⟩;refine wpAny_bind (wpAny_mkText (wpAny_bind (wpAny_attempt (zmE hx hh λh' e tk' q1 q2=> ?_))));obtain⟨o,q2,q3⟩:=q2;have hE:(⟨h',g,d,tk',os⟩:qN).TypeIs (.ref e) "AttributeError":=⟨_,q2,q3⟩;have f6:=sub_AttributeError
 repeat (any_goals (first|assumption|wp_step))
 exact hq h' tk' q1
end
theorem zfu:entryFor table "dict.update.loop"=iJ Builtin.«dict.update.loop» :=entryFor_of_fast (by kernel_rfl)
theorem TU:plainId "dict.update.loop"=jD:=by decide+kernel
section
variable{w:World}{I:qY}{fp wr:pR qY}{G:Array GenState->Array GenState->Prop}{n:Nat}{P:Nat->qM->Prop}{St:Nat->qN->Prop}{R:Result->qN->Prop}{KK:Type}[DecidableEq KK]{knd:KeyKind prog w KK}
theorem ziV{kv:pR (KK×qM)}{i:Nat}{k:KK}{v:qM}(nd:(kv.map (·.1)).Nodup)(h:kv[i]? =iJ (k,v)):stored (kv.take i) k v=kv.take (i+1):=by
 have hi:=(uq.1 h).1;have e:=(uq.1 h).2;unfold stored;rw[if_neg,w9 hi,e];intro q;rw[List.any_eq_true] at q;obtain⟨x,hx,hk⟩:=q;obtain⟨m,hm,rfl⟩:=B2.1 hx;rw[z4] at hm;have hk:(kv.take i)[m].1=k:=of_decide_eq_true hk;rw[List.getElem_take] at hk;have h2:=(Dz (xs:=kv.map (·.1)) (i:=m) (j:=i) (h₀:=by rw[um];omega) (h₁:=by rw[um];omega) nd).1 (by rw[Ac,Ac,hk,e]);omega
theorem zmF(W:WalksS prog w A.in1 I fp wr G n P St)(d:qY)(nf:d∉fp)(h0:Heap)(old:∀b o,h0.get? b=iJ o->b∉d::wr)(kv:pR (KK×qM))(nd:(kv.map (·.1)).Nodup)(hn:kv.length=n)(qI:n<=sizeLine)
  (wo:∀i v,P i v->∃p key k x m,kv[i]? =iJ (k,x)/\v= .ref p/\knd.is k key=jD/\∃o,h0.get? p=iJ o/\o.cls= .type "tuple"/\o.data= .seq #[key,x] m):
  ∀(q i:Nat) (s:qN) (t:Tok),n-i=q->i<=n->St i s->(∀b o,h0.get? b=iJ o->s.heap.get? b=iJ o)->s.heap.DictOf knd d (kv.take i)->(∀s',Moved (d::wr) G s s'->s'.heap.DictOf knd d kv->R (.ok (.ret .none)) s')->
   codeAny (model prog w) A (.builtin "dict.update.loop" ⟨[.ref d,.ref I,.int i t,.none],[]⟩) R s:=by
 have nw:d∉wr:=λq=>nf (W.sub _ q);have up:∀b∈wr,b∈d::wr:=λb q=> .tail _ q;have ns:∀{b:qY},b∉d::wr->b≠d:=λq e=>q (e ▸ .head _);have stay:∀{s s':qN} {l:pR (KK×qM)},Moved wr G s s'->s.heap.DictOf knd d l->s'.heap.DictOf knd d l:=by
  rintro s s' l mv ⟨o,es,ep,ho,r⟩;exact⟨o,es,ep,mv.heap d o nw ho,r⟩
 intro q
 induction q with
 |zero=>
  intro i s t hq hi st ho hD fin;obtain rfl:i=n:=by omega
  refine codeAny_builtin zfu (by
   rw[Around.under_plainId TU _];refine wpAny_bind (m:=pyNext (.ref I)) (W.done s _ _ st λs' mv=> ?_);refine wpAny_bind (m:=Builtin.Dict.addKeywords d []) (wpAny_pure (wpAny_pure (fin s' (mv.mono up) ?_)));have:=stay mv hD
   rwa [<-hn,z8] at this)
 |succ q ih=>
  intro i s t hq hi st ho hD fin;have lt:i<n:=by omega
  refine codeAny_builtin zfu (by
   rw[Around.under_plainId TU _];refine wpAny_bind (m:=pyNext (.ref I)) (W.item i s _ _ lt st λv s' hv st' mv=> ?_);obtain⟨p,key,k,x,m,hk,rfl,nM,o,hp,hc,hd⟩:=wo i v hv;have jw:∀b o,h0.get? b=iJ o->s'.heap.get? b=iJ o:=λb o e=>mv.heap b o (λz=>old b o e (up b z)) (ho b o e);have nJ:=jw _ _ hp;have hT:s'.TypeIs (.ref p) "tuple":=⟨_,nJ,hc⟩;refine wpAny_bind (wpAny_holding (wpAny_bind (m:=tryCatch (Builtin.Dict.pairItems (.ref p)) _) (wpAny_tryCatch ?_)));unfold Builtin.Dict.pairItems;refine wpAny_bind (wpAny_typeOf hT ?_);rw[if_pos ∅];refine wpAny_bind (wpAny_seqItems nJ hd (wpAny_pure ?_));refine wpAny_holding (m:=dictSet d key x) (wpAny_dictSet_pairs nM (stay mv hD) (λh' qH sb=> ?_) (by rw[z4];omega));rw[ziV nd hk] at qH;refine wpAny_pure ⟨plainId_quiet TU _,ih (i+1) _ _ ⋯ lt (W.frame _ s' h' (s'.toks+1) st' (B3 _) λb hb ob e=>(sb.2 b λz=>nf (z ▸ hb)).trans e) (λb ob e=>(sb.2 b (ns (old b ob e))).trans (jw b ob e)) qH λs'' o7 pH=> ?_⟩
   exact fin s'' (Moved.trans W.gtrans ((mv.mono up).then_heap (B3 _) λb ob q e=>(sb.2 b (ns q)).trans e) o7) pH)
theorem zmG{a:qY}{items:Array qM}{m:Nat}{sl:Array (pT qM)}{kv:pR (KK×qM)}(hh:A.handled=jr)(hx:s.heap.get? a=iJ ⟨.type "tuple",jr,.seq items m,sl⟩)(nd:(kv.map (·.1)).Nodup)(hn:kv.length=items.size)(qI:items.size<=sizeLine)
  (wo:∀(i:Nat) v,items[i]? =iJ v->∃p key k x m,kv[i]? =iJ (k,x)/\v= .ref p/\knd.is k key=jD/\∃o,s.heap.get? p=iJ o/\o.cls= .type "tuple"/\o.data= .seq #[key,x] m)
  (h:∀s':qN,s'.heap.DictOf knd s.heap.objs.size kv->(∀b o,s.heap.get? b=iJ o->s'.heap.get? b=iJ o)->s'.gens=s.gens->s'.drawn=s.drawn->s'.os=s.os->Q (.ref s.heap.objs.size) s'):
  wpAny (model prog w) A (call (.type "dict") [.ref a]) Q E s:=by
 refine callType_codes (Q₁:=λobj s₁=>obj= .ref s.heap.objs.size/\s₁={s with heap:=s.heap.push {cls:= .type "dict",data:= .dict #[]}}) F.kt_called_dict (F.kt_typeCall_dict_1 _) F.entry_dict_init (kt_code_dict_new _ ⟨rfl,rfl⟩) ?_;rintro obj s₁ ⟨rfl,rfl⟩;have kz:(s.heap.push {cls:= .type "dict",data:= .dict #[]}).DictOf knd s.heap.objs.size []:=Heap.DictOf.new s.heap;have lu:=Heap.get?_push_of_some (h:=s.heap) {cls:= .type "dict",data:= .dict #[]} hx;have hT:Shared.TypeIs {s with heap:=s.heap.push {cls:= .type "dict",data:= .dict #[]}} (.ref a) "tuple":=⟨_,lu,rfl⟩;refine⟨kz.typeIs,F.args_dict_init_2 _ _,?_⟩;unfold Builtin.«dict.__init__»
 refine wpAny_bind (by
  unfold Builtin.Dict.selfAndRest;refine wpAny_bind (wpAny_notOrdered_dict kz.typeIs (wpAny_pure (a:=(s.heap.objs.size,[Value.ref a])) ?_));show wpAny _ _ (Builtin.Dict.updateFrom "dict.__init__" s.heap.objs.size (.ref a) [] .none) _ _ _;unfold Builtin.Dict.updateFrom;refine wpAny_bind (wpAny_typeOf hT ?_);rw[if_pos ∅];refine wpAny_bind (ziU (g:=s.gens) (d:=s.drawn) (t:=s.toks) (os:=s.os) lu (by simpa using hh) λh' tk' kp=> ?_);rw[if_pos (by rfl)];refine wpAny_bind (wpAny_rule ?_);have lq:=kp _ _ lu;refine wpAny_bind (wpAny_pyIter_tuple (items:=items) ⟨_,lq,rfl,m,rfl⟩ ?_);have lt:a<h'.objs.size:=Heap.lt_size lq;have qZ:s.heap.objs.size<h'.objs.size:=by
   obtain⟨o,_,_,e,_⟩:=kz;exact Heap.lt_size (kp _ _ e)
  refine wpAny_pure ⟨plainId_quiet TU _,?_⟩;have old:∀b o,s.heap.get? b=iJ o->b≠s.heap.objs.size/\b≠h'.objs.size:=λb o e=>⟨uR (Heap.lt_size e),uR (Dn (Heap.lt_size e) qZ)⟩;refine zmF (G:=λa b=>b=a) ((Walks.tuple (A:=A.in1.in1) (by simpa using hh) h'.objs.size a (uR lt) items).toS) s.heap.objs.size (λz=> ?_) s.heap (λb o e z=> ?_) kv nd hn qI (λi v hv=>wo i v hv) _ 0 _ _ rfl (uZ _) ⟨⟨_,Heap.get?_push_size _ rfl,rfl,rfl⟩,⟨_,Heap.get?_push_of_some _ lq,rfl,m,rfl⟩⟩ (λb o e=> ?_) ?_ (λs' mv hD=> ?_)
  .rcases (by simpa using z:s.heap.objs.size=h'.objs.size\/s.heap.objs.size=a) with z|z
   .omega
   .exact (old _ _ hx).1 z.symm
  .rcases (by simpa using z:b=s.heap.objs.size\/b=h'.objs.size) with z|z
   .exact (old _ _ e).1 z
   .exact (old _ _ e).2 z
  .exact Heap.get?_push_of_some _ (kp _ _ (Heap.get?_push_of_some _ e))
  .rw[DT];obtain⟨o,es,ep,e,r⟩:=kz;exact⟨o,es,ep,Heap.get?_push_of_some _ (kp _ _ e),r⟩
  .refine⟨rfl,h s' hD (λb o e=>mv.heap b o (λz=> ?_) (Heap.get?_push_of_some _ (kp _ _ (Heap.get?_push_of_some _ e)))) mv.gens mv.drawn mv.os⟩;rcases(by simpa using z:b=s.heap.objs.size\/b=h'.objs.size) with z|z
   .exact (old _ _ e).1 z
   .exact (old _ _ e).2 z)
end
def PrT(H:Hp):V->Key×V->Prop:=λp q=>∃b,p= .ref b/\H b=iJ (.tup [kV q.1,q.2])
def zkI:pR V->Hp->VK->Prop:=λxs H Q=>∃(a:qY) (ps:pR V) (aq:pR (Key×V)),xs=[.ref a]/\H a=iJ (.tup ps)/\Paired (PrT H) ps aq/\(aq.map (·.1)).Nodup/\∀l,H l=jr->Q (.ref l) (upd H l (.dK aq))
theorem zkJ{P:Program}(ok:HOk P w H h)(hp:Paired (PrT H) ps aq):∀{ag:pR qM},yd ps ag->∃kv:pR (Key×qM),KV aq kv/\kv.length=ag.length/\∀(i:Nat) v,ag[i]? =iJ v->
  ∃p key k x m,kv[i]? =iJ (k,x)/\v= .ref p/\(vo P w).is k key=jD/\∃o,h.get? p=iJ o/\o.cls= .type "tuple"/\o.data= .seq #[key,x] m:=by
 induction hp with
 |nil=>
  intro ag r;cases r;exact⟨[],.nil,rfl,λi v e=>by simp at e⟩
 | @cons p q ps aq h1 _ ih=>
  intro ag r;obtain⟨k,y⟩:=q;cases r with
  |cons r1 r2=>
   obtain⟨kv,a1,a2,a3⟩:=ih r2;obtain⟨b,rfl,hb⟩:=h1;cases r1;obtain⟨_,ag,rv,o,e,c,m,d,_⟩:=(show xp P w H h b (.tup _) from ok b _ hb);obtain⟨u1,u2,rfl,g1,g2⟩:=zeT rv;refine⟨(k,u2)::kv,.cons ⟨rfl,g2⟩ a1,by rw[uw,uw,a2],λi v e'=> ?_⟩;cases i with
   |zero=>
    cases e';refine⟨b,u1,k,u2,m,rfl,rfl,?_,o,e,c,by simpa using d⟩;cases k with
    |inl i=>obtain⟨t,rfl⟩:=g1;exact zdf i t
    |inr x=>obtain⟨t,rfl⟩:=g1;exact zdg x t
   |succ i=>exact a3 i v (by simpa using e')
theorem zgP(hc:X.calm=jD):wX X (.type "dict") zkI:=by
 intro pins s σ H xs us Q I r h;obtain⟨a,ps,aq,rfl,ha,hp,nd,q⟩:=h;obtain⟨u,rfl,ru⟩:=Wo r;cases ru;obtain⟨z,ag,rv,o,e,c,m,d,dn⟩:=(show xp X.prog X.w H s.heap a (.tup ps) from I.hok a _ ha);obtain⟨kv,a1,a2,a3⟩:=zkJ I.hok hp rv;obtain⟨oc,od,pW,js⟩:=o;simp only at c d dn;subst c d dn;have sD:aq.length=ag.length:=by rw[<-hp.length,<-rv.length]
 have nd':(kv.map (·.1)).Nodup:=by rw[show kv.map (·.1)=aq.map (·.1) from(KV.keys a1).symm];exact nd
 refine zmG (knd:=vo X.prog X.w) (kv:=kv) (I.ok.hd hc) e nd' (by rw[uD];exact a2) (by rw[uD,<-rv.length];exact z) (λi v hv=>a3 i v (by simpa using hv)) λs' hD kp e1 e2 e3=> ?_;have e':({s with heap:=s'.heap,toks:=s'.toks}:qN)=s':=by
  cases s';simp only at e1 e2 e3;subst e1 e2 e3;rfl
 have I1:=I.laid (a:=s.heap.objs.size) (o:= .dK aq) (t':=s'.toks) kp (uv _) ⟨by rw[sD,<-rv.length];exact z,beq_eq_false_iff_ne.mpr (Dm I.big),kv,a1,hD⟩;rw[e'] at I1;exact⟨.ref _,_,I1,rfl,q _ (I.hok.fresh (uv _))⟩
noncomputable def Ya(acc:pR Str):pR Str->pR Str
 |[]=>acc
 |x::r=>Ya (if x∈acc then acc else acc++[x]) r
noncomputable def zkK(acc:pR Str)(x:Str):pR Str:=if x∈acc then acc else acc++[x]
theorem zdy{xs:pR Str}:∀{acc:pR Str} {i:Nat} {x:Str},xs[i]? =iJ x->Ya acc (xs.take (i+1))=zkK (Ya acc (xs.take i)) x:=by
 induction xs with
 |nil=>intro acc i x h;simp at h
 |cons y r ih=>
  intro acc i x h;cases i with
  |zero=>cases h;rfl
  |succ i=>
   have h:r[i]? =iJ x:=by simpa using h
   exact ih h
theorem zce:∀(xs acc:pR Str),(Ya acc xs).length<=acc.length+xs.length
 |[],acc=>uv _
 |x::r,acc=>by
  have:=zce r (if x∈acc then acc else acc++[x]);show(Ya (if x∈acc then acc else acc++[x]) r).length<=_;rw[uw];split at this
  .rw[if_pos (by assumption)];omega
  .rw[if_neg (by assumption)];rw[ur,uF] at this;omega
section
variable{G:Array GenState->Array GenState->Prop}{P:Nat->qM->Prop}{St:Nat->qN->Prop}{R:Result->qN->Prop}
theorem zmH(W:WalksS prog w A.in1 I fp wr G n P St)(S:qY)(nf:S∉fp)(xs:pR Str)(hx:xs.length=n)(wo:∀i v,P i v->∃x t,xs[i]? =iJ x/\v= .str x t)(hb:n+1<scanBound):
  ∀(q i:Nat) (s:qN),n-i=q->i<=n->St i s->s.heap.SetOf (strKind prog w) S (λk=>decide (k∈Ya [] (xs.take i))) (Ya [] (xs.take i)).length->
   (∀s',Moved (S::wr) G s s'->s'.heap.SetOf (strKind prog w) S (λk=>decide (k∈Ya [] xs)) (Ya [] xs).length->R (.ok (.ret .none)) s')->codeAny (model prog w) A (.builtin "set.update.loop" ⟨[.ref S,.ref I],[]⟩) R s:=by
 have nw:S∉wr:=λq=>nf (W.sub _ q);have up:∀b∈wr,b∈S::wr:=λb q=> .tail _ q;have ns:∀{b:qY},b∉S::wr->b≠S:=λq e=>q (e ▸ .head _);have stay:∀{s s':qN} {f:Str->Bool} {m:Nat},Moved wr G s s'->s.heap.SetOf (strKind prog w) S f m->s'.heap.SetOf (strKind prog w) S f m:=by
  rintro s s' f m mv ⟨o,es,ep,t,ho,r⟩;exact⟨o,es,ep,t,mv.heap S _ nw ho,r⟩
 intro q
 induction q with
 |zero=>
  intro i s hq hi st hS fin;obtain rfl:i=n:=by omega
  refine codeAny_builtin F.entry_set_update_loop (by
   rw[Around.under_plainId F.plain_set_update_loop _];refine wpAny_bind (m:=pyNext (.ref I)) (W.done s _ _ st λs' mv=> ?_);refine wpAny_pure (fin s' (mv.mono up) ?_);have:=stay mv hS
   rwa [<-hx,z8] at this)
 |succ q ih=>
  intro i s hq hi st hS fin;have lt:i<n:=by omega
  refine codeAny_builtin F.entry_set_update_loop (by
   rw[Around.under_plainId F.plain_set_update_loop _];refine wpAny_bind (m:=pyNext (.ref I)) (W.item i s _ _ lt st λv s' hv st' mv=> ?_);obtain⟨x,t,ex,rfl⟩:=wo i v hv;have nM:(strKind prog w).is x (.str x t)=jD:=by show Value.isStrOf x (.str x t)=jD;simp[Value.isStrOf]
   refine wpAny_bind (m:=holding [Value.str x t] (setAdd S (.str x t))) (wpAny_holding (by
    unfold setAdd;refine wpAny_holding (wpAny_bind ((strKind prog w).pyHash (k:=x) nM ?_));have hl:=zce (xs.take i) [];rw[z4,CW] at hl;refine wpAny_setAddHashed_of (knd:=strKind prog w) (s:={s' with toks:=s'.toks+1}) nM rfl (show s'.heap.SetOf _ _ _ _ from stay mv hS) ⋯ λh' sb km=> ?_;have kE:h'.SetOf (strKind prog w) S (λk=>decide (k∈Ya [] (xs.take (i+1)))) (Ya [] (xs.take (i+1))).length:=by
     refine SetOf_congr km (λk=> ?_) ?_
     .rw[zdy ex];unfold zkK;by_cases hm:x∈Ya [] (xs.take i)
      .rw[if_pos hm];by_cases hk:k=x
       .subst hk;simp[hm]
       .simp[hk]
      .rw[if_neg hm];by_cases hk:k=x
       .subst hk;simp
       .simp[hk]
     .rw[zdy ex];unfold zkK;by_cases hm:x∈Ya [] (xs.take i)
      .rw[if_pos hm,if_pos (decide_eq_true hm)]
      .rw[if_neg hm,if_neg (by simpa using hm)];simp
    refine wpAny_pure ⟨plainId_quiet F.plain_set_update_loop _,ih (i+1) _ ⋯ lt (W.frame _ s' h' _ st' (B3 _) λb hb ob e=>(sb.2 b λz=>nf (z ▸ hb)).trans e) kE λs'' o7 pH=> ?_⟩
    exact fin s'' (Moved.trans W.gtrans ((mv.mono up).then_heap (B3 _) λb ob q e=>(sb.2 b (ns q)).trans e) o7) pH)))
end
section
set_option maxHeartbeats 3200000 in
theorem zmI(hh:A.handled=jr)(hl:s.heap.IsList l items)(hx:xs.length=items.size)(hb:items.size+1<scanBound)
  (wo:∀(i:Nat) v,items[i]? =iJ v->∃x t,xs[i]? =iJ x/\v= .str x t)
  (h:∀(h':Heap) (tk:Nat),h'.SetOf (strKind prog w) s.heap.objs.size (λk=>decide (k∈Ya [] xs)) (Ya [] xs).length->(∀b o,s.heap.get? b=iJ o->h'.get? b=iJ o)->Q (.ref s.heap.objs.size) {s with heap:=h',toks:=tk}):
  wpAny (model prog w) A (call (.type "set") [.ref l]) Q E s:=by
 obtain⟨c,tl,sk⟩:=F.called_set.mro;have qy:=F.called_set.made;have oJ:=F.called_set.sub;refine wpAny_call (codeAny_of_tree ?_);show wpAny _ _ (callAny (.type "set") _) _ _ _;refine wpAny_pure ⟨Code.quiet_builtin _ (by decide+kernel),codeAny_builtin F.entry_type_call ?_⟩;rw[Around.under_plain (weight_type_call_type "set" [.ref l] []) rfl];have h1:=F.called_set.notType;have h2:=F.called_set.canCreate;have u6:=F.typeCall_set_1 (.ref l)
 repeat (any_goals (first|assumption|wp_step))
 refine codeAny_mono (zo4 (.ref l) (E:=E) (Q₁:=λobj s₁=>obj= .ref s.heap.objs.size/\s₁={s with heap:=s.heap.push (zee (zcS w))}) ⟨rfl,rfl⟩) λr s₁ hr=> ?_;cases r with
 |error e=>exact hr
 |ok fl=>
  cases fl with
  |ret obj=>
   obtain⟨rfl,rfl⟩:=hr;have hS:(s.heap.push (zee (zcS w))).get? s.heap.objs.size=iJ (zee (zcS w)):=Heap.get?_push_size _ rfl;have hT:Shared.TypeIs {s with heap:=s.heap.push (zee (zcS w))} (.ref s.heap.objs.size) "set":=⟨_,hS,rfl⟩;have tZ:=F.called_set.init.lookup;have ua:=F.called_set.init.bind (.ref s.heap.objs.size)
   repeat (any_goals (first|assumption|wp_step))
   refine codeAny_mono (codeAny_call_builtin (R:=wants (λr s₂=>r= .none/\∃h' tk,s₂={s with heap:=h',toks:=tk}/\h'.SetOf (strKind prog w) s.heap.objs.size (λk=>decide (k∈Ya [] xs)) (Ya [] xs).length/\(∀b o,s.heap.get? b=iJ o->h'.get? b=iJ o)) E) F.called_set.init.plain F.entry_set_init (check_set_init_1 hT ?_)) λr₂ s₂ hr₂=> ?_
   .obtain⟨ol,mC,nQ,nl,nP⟩:=hl;obtain⟨qV,mj,pV,oslots⟩:=ol;simp only at nQ nP;subst nQ;subst nP;have oQ:(s.heap.push (zee (zcS w))).get? l=iJ {cls:= .type "list",dict:=mj,data:= .seq items nl,slots:=oslots}:=Heap.get?_push_of_some _ mC;have rR:=F.sub_list_set;have rS:=F.sub_list_frozenset;have fj:(Value.type "list"==Value.type "dict")=nW:=by decide
    have m3:(s.heap.push (zee (zcS w))).IsList l items:=⟨_,oQ,rfl,nl,rfl⟩;unfold Builtin.«set.__init__» noKeywords Builtin.Frozenset.updateFrom;generalize t6:pyIter=PI
    wp_walk
    subst t6;refine wpAny_pyIter_list m3 ?_;refine wpAny_bind (wpAny_runValue ?_);have qA:l<s.heap.objs.size:=Heap.lt_size mC;have sL:A.in1.in1.in1.handled=jr:=by simp[hh]
    have iW:(s.heap.push (zee (zcS w))).objs.size=s.heap.objs.size+1:=Heap.size_push ..;have oV:l≠(s.heap.push (zee (zcS w))).objs.size:=by rw[iW];exact uR (AY qA)
    refine zmH ((Walks.list sL _ l oV items).toS) s.heap.objs.size (by rw[iW];simp only[uU,uX,B8,or_false,not_or];exact⟨uR (A4 _),Dm qA⟩) xs hx wo hb (items.size-0) 0 _ ⋯ (uZ _) ⟨⟨_,Heap.get?_push_size _ rfl,rfl,rfl⟩,m3.push _⟩ ?_ ?_
    .exact SetOf_congr ((setObjOf_fresh (knd:=strKind prog w) (zcS w)).setOf (Heap.get?_push_of_some _ hS) (by unfold scanBound;omega)) (λk=>by simp[Ya]) rfl
    intro s' hm pG;obtain⟨h',g',d',tk',os'⟩:=s';have eg:g'=s.gens:=hm.gens;have ed:d'=s.drawn:=hm.drawn;have eo:os'=s.os:=hm.os;subst eg;subst ed;subst eo;show wpAny _ _ _ _ _ _;refine wpAny_pure ?_;show wpAny _ _ (ret Value.none) _ _ _;refine wpAny_pure ⟨rfl,h',tk',rfl,pG,λb o e=> ?_⟩;have hb:=Heap.lt_size e;exact hm.heap b o (by rw[iW];simp only[uU,uX,B8,or_false,not_or];exact⟨uR hb,uR (AY hb)⟩) (Heap.get?_push_of_some _ (Heap.get?_push_of_some _ e))
   .cases r₂ with
    |error e=>exact hr₂
    |ok fl₂=>
     cases fl₂ with
     |ret r=>
      obtain⟨rfl,h',tk,rfl,pG,sF⟩:=hr₂
      repeat (any_goals (first|assumption|wp_step))
      exact h _ _ pG sF
     |_=>exact hr₂.elim
  |_=>exact hr.elim
end
def znO(K:uk):V->Hp->VK->Prop:=λx H Q=>∃(p:qY) (xs:pR Str),x= .ref p/\SqL K H p (xs.map V.str)/\xs.length<=200/\Q (.int ((Ya [] xs).length:Nat)) H
def znP(K:uk)(te:TE):TE:=λσ H Q=>te σ H λx H1=>znO K x H1 Q
set_option maxHeartbeats 3200000 in
theorem ziW{e:Expr}{te:TE}{p p2 pos jF:Pos}(hc:X.calm=jD)(hg:Gl X "len")(hm:X.mg "len"=jr)(sM:Gl X "set")(kh:X.mg "set"=jr)(ha:PE X e te)(hK:X.K=K:=by rfl)
  (qD:starEach [e] X.env=[(nW,eval e X.env)]:=by rfl) (he:starEach [.Call (.Name "set" p2) [e] [] jF] X.env=[(nW,eval (.Call (.Name "set" p2) [e] [] jF) X.env)]:=by rfl):
  PE X (.Call (.Name "len" p) [.Call (.Name "set" p2) [e] [] jF] [] pos) (znP K te):=by
 subst hK;intro pins s σ H Q I h;refine wpAny_Call_Name_kw (UZ I hg hm Boot.«len» ?_ ∅ ∅);refine C7 ?_ he rfl;rw[he];show wpAny _ _ (spliced ((nW,eval (.Call (.Name "set" p2) [e] [] jF) X.env)::backTo pos [])) _ _ s;refine Calls.spliced_cons ?_;refine wpAny_Call_Name_kw (UZ I sM kh Boot.«set» ?_ ∅ ∅);refine Bq ?_ qD rfl;refine thn (yk ha zb qD jF pins s σ H (λvs H1=>∃x,vs=[x]/\znO X.K x H1 Q) I ?_) ?_
 .have h:te σ H _:=h;show te σ H λx H1=>∃y,[x]=[y]/\_;simpa only[DL,and_true,exists_eq_left'] using h
 rintro us s1 ⟨vs,H1,I1,r1,x,rfl,a,xs,rfl,hq,tf,q⟩;obtain⟨u,rfl,ru⟩:=Wo r1;cases ru;obtain⟨ag,rv,pl,hz⟩:=I1.list hq;have hl:xs.length=ag.length:=by rw[<-rv.length,um]
 refine zmI (xs:=xs) (I1.ok.hd hc) pl.isList (by rw[uD];exact hl) (by rw[uD];unfold scanBound;omega) (λi v hv=> ?_) λh' tk hS kp=> ?_
 .have hv:ag[i]? =iJ v:=by simpa using hv
  have hi:i<xs.length:=by rw[hl];exact(uq.1 hv).1
  obtain⟨u,hu,t,ru⟩:=rv.get (i:=i) (x:=V.str xs[i]) (by rw[uA,uo hi];rfl);rw[hu] at hv;cases hv;exact⟨xs[i],t,uo hi,ru⟩
 refine Calls.spliced_nil ?_;have I2:Inv X pins σ H1 {s1 with heap:=h',toks:=tk}:=I1.kept kp;obtain⟨o,es,ep,t,ho,hex,hd,_,_,ke,sO,hn⟩:=hS;refine call_len_set (s:={s1 with heap:=h',toks:=tk}) ho hex hd sO (by unfold scanBound at ke;omega) ?_;rw[hn];exact⟨.int _,H1,I2.tok _,⟨_,rfl⟩,q⟩
section
variable{E:XK}
noncomputable def zbE:D->D->Bool
 | .tup _,.tup _=>jD
 | .lst _,.lst _=>jD
 |_,_=>nW
noncomputable def zkL(neg:Bool):Op2:=λx y S=>match wo S 40 x,wo S 40 y with
 |some d,iJ e=>if zbE d e then (eqG 40 d e).map λb=>(.bl (neg !=b),S) else jr
 |_,_=>jr
theorem zgQ(h:zbE d e=jD):∃l m,(d= .tup l/\e= .tup m)\/(d= .lst l/\e= .lst m):=by
 unfold zbE at h;split at h
 .exact⟨_,_,.inl ⟨rfl,rfl⟩⟩
 .exact⟨_,_,.inr ⟨rfl,rfl⟩⟩
 .cases h
set_option tactic.hygienic true in
theorem zo8:Xy K (zqF K neg) (zkL neg):=by
 intro F j σ H ρ S S' x y z u v Q E1 hx hy h k;unfold zkL at h;split at h
 .rename_i d e e1 e2;split at h
  .rename_i hb;cases hg:eqG 40 d e with
   |none=>rw[hg] at h;cases h
   |some b=>
    rw[hg] at h;cases h;exact⟨d,e,b,zgQ hb,(zbB E1 40 _ _ _ hx e1).1,(zbB E1 40 _ _ _ hy e2).1,hg,k _ _ _ Ext.refl E1 (.bl _)⟩
  .cases h
 .cases h
end
section
theorem zo9{neg b:Bool}{d e:D}(h1:wo S 40 x=iJ d)(h2:wo S 40 y=iJ e)(hs:zbE d e=jD)(hb:eqG 40 d e=iJ b)(k:P (.bl (neg !=b)) S):WO (zkL neg x y S) P:= .of (by unfold zkL;rw[h1,h2];dsimp only;rw[if_pos hs,hb];rfl) k
theorem zkM{get:Sto->pT (pR Xv)}(hl:xs.length<=sizeLine)(J:Nat->pR Xv->Sto->Prop)(hg:∀i es S,i<=xs.length->J i es S->get S=iJ xs)
  (h:∀(i:Nat) (x:Xv) es S,xs[i]? =iJ x->es.length<=i->J i es S->W (g x ρc S) λρ1 S1=>W (c ρ1 S1) λb S2=>(b=jD->W (m ρ1 S2) λy S3=>J (i+1) (es++[y]) S3)/\(b=nW->J (i+1) es S2)) (h0:J 0 [] S)
  (k:∀es S,es.length<=xs.length->J xs.length es S->P (.ref S.length) (S++[.lst es])):W (vR get g c m ρc (xs.length+1) 0 [] S) P:=by
 have aux:∀(n i:Nat) (es:pR Xv) (S:Sto),i+n=xs.length->es.length<=i->J i es S->W (vR get g c m ρc (n+1) i es S) P:=by
  intro n
  induction n with
  |zero=>
   intro i es S e el hj;unfold vR;rw[hg i es S ⋯ hj,uJ,x5 ⋯];dsimp only;rw[if_pos ⋯];exact .of rfl (k es S ⋯ (by rw[show xs.length=i by omega];exact hj))
  |succ n ih=>
   intro i es S e el hj;unfold vR;have hi:i<xs.length:=by omega
   rw[hg i es S ⋯ hj,uJ,uo hi];obtain⟨ρ1,S1,e1,b,S2,e2,t,f⟩:=h i _ es S (uo hi) el hj;dsimp only[rn];rw[e1];dsimp only[rn];rw[e2];dsimp only[rn];cases b with
   |true=>
    obtain⟨y,S3,e3,q⟩:=t rfl;rw[if_pos rfl,e3];dsimp only[rn];rw[if_pos ⋯];exact ih (i+1) (es++[y]) S3 ⋯ (by simp;omega) q
   |false=>
    rw[if_neg (by simp)];exact ih (i+1) es S2 ⋯ ⋯ (f rfl)
 exact aux xs.length 0 [] S ⋯ (by simp) h0
end
section
variable{E:XK}
end
section
variable{E:XK}{F:Fm}{j:pR qY}{x y z:Xv}{u v w:V}
end
section
variable{j:pR qY}
end
section
variable{a b m z:TwE}{x y:Xv}
end
noncomputable def zcU(S:Sto)(x:Xv)(nm:Str):pT (Nat×pR (Str×Xv)):=match x with
 | .ref n=>match S[n]? with
  |some (.ins nm' fs)=>if nm'=nm then iJ (n,fs) else jr
  |_=>jr
 |_=>jr
set_option tactic.hygienic true in
theorem zaQ(h:zcU S x nm=iJ (n,fs)):x= .ref n/\S[n]? =iJ (.ins nm fs):=by
 unfold zcU at h;split at h
 .split at h
  .split at h
   .rename_i e1 e2;cases h;subst e2;exact⟨rfl,e1⟩
   .cases h
  .cases h
 .cases h
theorem TV(h:S[n]? =iJ (.ins nm fs)):zcU S (.ref n) nm=iJ (n,fs):=by
 unfold zcU;dsimp only;rw[h];dsimp only;rw[if_pos rfl]
noncomputable def VQ(f:Str)(v:Xv):pR (Str×Xv)->pR (Str×Xv)
 |[]=>[(f,v)]
 |(g,x)::r=>if g=f then (g,v)::r else (g,x)::VQ f v r
section
variable{E:XK}{F:Fm}{j:pR qY}{x:Xv}{v:V}{nm f m:Str}{C:qY}
theorem KX.look{fs:pR (Str×Xv)}{vs:pR (Str×V)}(h:KX K j H fs vs):(∀y,fs.lookup f=iJ y->∃w,vs.lookup f=iJ w/\Xis K j H y w)/\(fs.lookup f=jr->vs.lookup f=jr):=by
 induction h with
 |nil=>exact⟨(λ_ e=>by cases e),λ_=>rfl⟩
 |@cons g y1 w1 r rs h l i=>
  rw[A1,A1];cases hb:(f==g) with
  |true=>exact⟨(λy e=>by cases e;exact⟨w1,rfl,h⟩),(λe=>by cases e)⟩
  |false=>exact i
theorem KX.putF(hx:Xis K j H x v){fs:pR (Str×Xv)}{vs:pR (Str×V)}(h:KX K j H fs vs):KX K j H (VQ f x fs) (XV f v vs):=by
 induction h with
 |nil=>exact .cons hx .nil
 |@cons g y1 w1 r rs h l i=>
  unfold VQ L2.XV;by_cases e:g=f
  .rw[if_pos e,if_pos e];exact .cons hx l
  .rw[if_neg e,if_neg e];exact .cons h i
theorem En.ins(gm:uC K mainGlobals nm=iJ (iJ (.ref C)))(E1:En K F j H σ ρ S)(hx:Xis K j H x v)(h:zcU S x nm=iJ (n,fs)):∃a dx vs,v= .ref a/\j[n]? =iJ a/\H a=iJ (.ins C dx vs)/\KX K j H fs vs:=by
 obtain⟨rfl,hs⟩:=zaQ h;obtain⟨a,rfl,hj⟩:=hx.ref_inv;obtain⟨C',dx,vs,e0,e1,e2⟩:=E1.cel _ _ _ hs hj;rw[gm] at e0;cases e0;exact⟨a,dx,vs,rfl,hj,e1,e2⟩
noncomputable def zbf(nm f:Str)(o:TwE):TwE:=λρ S=>rb (o ρ S) λx S1=>(zcU S1 x nm).bind λp=>(p.2.lookup f).map λy=> .ok y S1
theorem UD(gm:uC K mainGlobals nm=iJ (iJ (.ref C)))(hc:Cls K C)(hn:Yj K C f)(h:RE K E to o):RE K E (zp4 K to f) (zbf nm f o):=by
 intro F j σ H ρ S r Q En0 e k;rcases zB e with⟨x,S1,e1,e⟩|⟨c,S1,e1,rfl⟩
 .refine h En0 e1 λj1 H1 X1 E1 u hu=> ?_;rw[v8] at e;obtain⟨⟨n,fs⟩,e2,e⟩:=e;rw[uH] at e;obtain⟨y,e3,rfl⟩:=e;obtain⟨a,dx,vs,rfl,hj,f1,f2⟩:=E1.ins gm hu e2;obtain⟨w,g1,g2⟩:=f2.look.1 y e3;exact⟨a,C,dx,vs,w,rfl,f1,hc,hn,g1,k _ _ X1 E1 _ g2⟩
 .exact h En0 e1 k
noncomputable def zfv(nm f:Str)(o m:TwE):TwS:=λρ S=>sb (m ρ S) λy S1=>sb (o ρ S1) λx S2=>(zcU S2 x nm).bind λp=>if p.2.length<1000 then iJ (.nx ρ (S2.set p.1 (.ins nm (VQ f y p.2)))) else jr
theorem KX.len2{fs:pR (Str×Xv)}{vs:pR (Str×V)}(h:KX K j H fs vs):vs.length=fs.length:=by
 induction h with
 |nil=>rfl
 |cons _ l i=>rw[uw,uw,i]
set_option tactic.hygienic true in
theorem zeg{to tv:TE}{o m:TwE}(gm:uC K mainGlobals nm=iJ (iJ (.ref C)))(hc:Cls K C)(hn:Yj K C f)(ho:RE K E to o)(hv:RE K E tv m):RS K E (zp5 K to tv f) (zfv nm f o m):=by
 intro F j D' σ H ρ S fl E0 e kk;rcases wB e with⟨y,S1,e1,e⟩|⟨c,S1,e1,rfl⟩
 .refine hv E0 e1 λj1 H1 X1 E1 wy oC=> ?_;rcases wB e with⟨x,S2,e2,e⟩|⟨c,S2,e2,rfl⟩
  .refine ho E1 e2 λj2 H2 X2 E2 u hu=> ?_;rw[v8] at e;obtain⟨⟨n,fs⟩,e3,e⟩:=e;dsimp only at e;split at e
   .rename_i hl;cases e;obtain⟨a,dx,vs,rfl,hj,f1,f2⟩:=E2.ins gm hu e3;obtain⟨E4,X4⟩:=E2.write (o:= .ins C dx (L2.XV f wy vs)) (c':= .ins nm (VQ f y fs)) (zaQ e3).2 rfl hj rfl λX=>⟨C,dx,_,gm,yH,(KX.putF (oC.mono X2) f2).mono X⟩;exact⟨a,C,dx,vs,rfl,f1,hc,hn,by rw[f2.len2];exact hl,kk _ _ _ (X1.trans (X2.trans X4)) E4⟩
   .cases e
  .exact ho E1 e2 (PX.mono kk X1)
 .exact hv E0 e1 kk
noncomputable def xX(nm m:Str)(tw:TwF)(o:TwE)(ms:pR TwE):TwE:=λρ S=>rb (o ρ S) λx S1=>(zcU S1 x nm).bind λp=>if p.2.lookup m=jr then rb (evL ms ρ S1) λxs S2=>tw (x::xs) S2 else jr
set_option tactic.hygienic true in
theorem xY(gm:uC K mainGlobals nm=iJ (iJ (.ref C)))(ho:RE K E to o)(h:RL K E t (evL ms))(hn:ms.length+1=n:=by rfl):RE K E (zjB C m (sTw K n tw) [] E to t) (xX nm m tw o ms):=by
 intro F j σ H ρ S r Q En0 e k;rcases zB e with⟨x,S1,e1,e⟩|⟨c,S1,e1,rfl⟩
 .refine ho En0 e1 λj1 H1 X1 E1 u hu=> ?_;rw[v8] at e;obtain⟨⟨q,fs⟩,e2,e⟩:=e;dsimp only at e;split at e
  .rename_i su;obtain⟨a,dx,qP,rfl,hj,f1,f2⟩:=E1.ins gm hu e2;refine⟨a,dx,qP,rfl,f1,f2.look.2 su,?_⟩;rcases zB e with⟨xs,S2,e3,e⟩|⟨c,S2,e3,rfl⟩
   .refine h E1 e3 λj2 H2 X2 E2 vs hv=> ?_;rw[z6];exact Uy E2 (.cons (hu.mono X2) hv) (by rw[uw,hv.len,WM e3,hn]) e (k.step (X1.trans X2))
   .exact h E1 e3 (k.step X1)
  .cases e
 .exact ho En0 e1 k
noncomputable def zgR(nm:Str)(tw:TwF)(ms:pR TwE):TwE:=λρ S=>rb (evL ms ρ S) λxs S1=>match tw (.ref S1.length::xs) (S1++[.ins nm []]) with
 |some (.ok .non S2)=>iJ (.ok (.ref S1.length) S2)
 |_=>jr
set_option tactic.hygienic true in
theorem zkN(gm:uC K mainGlobals nm=iJ (iJ (.ref C)))(h:RL K E t (evL ms))(hn:ms.length+1=n:=by rfl):RE K E (zny C (sTw K n tw) [] E t) (zgR nm tw ms):=by
 intro F j σ H ρ S r Q En0 e k;rcases zB e with⟨xs,S1,e1,e⟩|⟨c,S1,e1,rfl⟩
 .refine h En0 e1 λj1 H1 X1 E1 vs hv=> ?_;intro x dx hx sV fj;rw[z6];split at e
  .rename_i S2 e2;cases e;have rF:upd H1 dx (.own x) x=jr:=by rw[yi (λz=>fj z.symm)];exact hx
   obtain⟨E2,X2⟩:=E1.new (p:=dx) (o:= .own x) sV;obtain⟨E3,X3⟩:=E2.cell (p:=x) (o:= .ins C dx []) (c:= .ins nm []) rF ⟨C,dx,[],gm,yH,.nil⟩;have X23:=X2.trans X3;have hr:Xis K (j1++[x]) (upd (upd H1 dx (.own x)) x (.ins C dx [])) (.ref S1.length) (.ref x):= .ref (by rw[<-E1.jl];simp);refine Uy E3 (.cons hr (hv.mono X23)) (by rw[uw,hv.len,WM e1,hn]) e2 λj' H' X E4 v hw=> ?_;exact⟨hw.non_inv,k _ _ (X1.trans (X23.trans X)) E4 _ (hr.mono X)⟩
  .cases e
 .exact h En0 e1 k
end
section
theorem zaR(h:W (o ρ S) λx S1=>∃n fs y,x= .ref n/\S1[n]? =iJ (.ins nm fs)/\fs.lookup f=iJ y/\P y S1):W (zbf nm f o ρ S) P:=
 W.bind (h.imp λ_ _ h=>by obtain⟨n,fs,y,rfl,e1,e2,q⟩:=h;rw[TV e1,uJ,e2];exact .of rfl q)
theorem TW(h:W (m ρ S) λy S1=>W (o ρ S1) λx S2=>∃n fs,x= .ref n/\S2[n]? =iJ (.ins nm fs)/\fs.length<1000/\N ρ (S2.set n (.ins nm (VQ f y fs)))):WS (zfv nm f o m ρ S) N R:=
 WS.bind (h.imp λ_ _ h=>WS.bind (h.imp λ_ _ h=>by obtain⟨n,fs,rfl,e1,e2,q⟩:=h;rw[TV e1,uJ,if_pos e2];exact .nx rfl q))
theorem wk(h:W (o ρ S) λx S1=>∃n fs,x= .ref n/\S1[n]? =iJ (.ins nm fs)/\fs.lookup f=jr/\W (evL ms ρ S1) λxs S2=>W (tw (x::xs) S2) P):W (xX nm f tw o ms ρ S) P:=
 W.bind (h.imp λ_ _ h=>by obtain⟨n,fs,rfl,e1,e2,q⟩:=h;rw[TV e1,uJ,if_pos e2];exact W.bind (q.imp λ_ _ h=>h))
theorem zhQ(h:W (evL ms ρ S) λxs S1=>W (tw (.ref S1.length::xs) (S1++[.ins nm []])) λv S2=>v= .non/\P (.ref S1.length) S2):W (zgR nm tw ms ρ S) P:=
 W.bind (h.imp λxs S1 h=>by
  obtain⟨v,S2,e,rfl,q⟩:=h;rw[e]
  exact .of rfl q)
end
section
variable{E:XK}{j:pR qY}
end
noncomputable def zgS(c:Str)(ms:pR TwE):TwS:=λρ S=>sb (evL ms ρ S) λ_ S1=>iJ (.ex c S1)
section
variable{E:XK}{F:Fm}{j:pR qY}{x:Xv}{v:V}{c:Str}{C:qY}
theorem zkO(gm:uC K mainGlobals c=iJ (iJ (.ref C)))(h:RL K E t (evL ms))(hl:ms.length<=10:=by decide):RS K E (zjO C E t) (zgS c ms):=by
 intro F j D' σ H ρ S fl E0 e kk;rcases wB e with⟨xs,S1,e1,e⟩|⟨c',S1,e1,rfl⟩
 .cases e;refine h E0 e1 λj1 H1 X1 E1 vs hv=>⟨?_,kk _ _ _ _ C X1 E1 gm⟩;rw[hv.len,WM e1];exact v5 hl ∅
 .exact h E0 e1 kk
def RLx(K:uk)(t:TAx)(is:pR Nat):Prop:=∀{F:Fm} {j:pR qY} {σ:St} {H:Hp} {ρ:Rho} {S:Sto} {xs:pR Xv} {Q:pR V->Hp->Prop} {EX:qM->Hp->Prop},En K F j H σ ρ S->is.mapM (λi=>ρ[i]?.join)=iJ xs->(∀vs,yp K j H xs vs->Q vs H)->t σ H Q EX
theorem zmJ:RLx K zqh []:=λ_ e k=>by
 cases e;exact k _ .nil
theorem zmK(i:Nat)(h:RLx K t is):RLx K (znD (xE (zlP i)) t) (i::is):=by
 intro F j σ H ρ S xs Q EX E0 e k;rw[DU] at e;cases e1:ρ[i]? with
 |none=>rw[e1] at e;cases e
 |some o=>
  cases o with
  |none=>rw[e1] at e;cases e
  |some x=>
   rw[e1] at e;cases e2:is.mapM (λi=>ρ[i]?.join) with
   |none=>rw[e2] at e;cases e
   |some ys=>
    rw[e2] at e;cases e;obtain⟨v,e3,hv⟩:=E0.slot i x e1;exact⟨v,e3,h E0 e2 λvs nG=>k _ (.cons hv nG)⟩
noncomputable def zkP(i:Nat)(k:pT Nat)(tw:TwF)(is:pR Nat)(ok:pR Str)(h:TwS):TwS:=λρ S=>(is.mapM (λi=>ρ[i]?.join)).bind λxs=>match tw xs S with
 |some (.ok v S2)=>iJ (.nx (match k with|some k=>ρ.set k (iJ v)|none=>ρ) S2)
 |some (.ex c S2)=>if c∈ok then match h (ρ.set i (iJ (.ref S2.length))) (S2++[.exc c]) with
  |some (.nx ρ' S')=>iJ (.nx (ρ'.set i jr) S')
  |_=>jr
  else jr
 |none=>jr
def zbg(K:uk)(D:qM)(ok:pR Str):Prop:=∀c∈ok,∀C,uC K mainGlobals c=iJ (iJ (.ref C))->B4 K (.ref C) D=iJ jD
theorem zfw{is:pR Nat}{xs:pR Xv}(e:is.mapM (λi=>ρ[i]?.join)=iJ xs):xs.length=is.length:=by
 induction is generalizing xs with
 |nil=>cases e;rfl
 |cons i is k=>
  rw[DU] at e;cases e1:ρ[i]?.join with
  |none=>rw[e1] at e;cases e
  |some x=>
   rw[e1] at e;cases e2:is.mapM (λi=>ρ[i]?.join) with
   |none=>rw[e2] at e;cases e
   |some ys=>
    rw[e2] at e;cases e;simp[k e2]
set_option tactic.hygienic true in
theorem En.unset(E0:En K F j H σ ρ S)(i:Nat):En K F j H (σ.set i jr) (ρ.set i jr) S:=E0.slots (by simp[E0.len]) λn y e=>by
 rw[Ai] at e ⊢;split at e
 .split at e<;>cases e
 .rename_i q;rw[if_neg q];exact E0.slot n y e
set_option tactic.hygienic true in
theorem zpa{i n:Nat}{k:pT Nat}{tw:TwF}{is:pR Nat}{ok:pR Str}{D:qM}{t:TAx}{tb:TEx->TSx}{th:TS}{h:TwS}(hit:zbg K D ok)(ht:RLx K t is)
  (hk:(∃m,k=iJ m/\tb=λte=>zqi m te)\/(k=jr/\tb=λte=>zjT te)) (hh:RS K E th h) (hn:is.length=n:=by rfl):
  RS K E (zgr i (λcls=>B4 K cls D=iJ jD) (tb (zht (sTw K n tw) [] t)) th) (zkP i k tw is ok h):=by
 intro F j D' σ H ρ S fl E0 e kk;unfold zkP at e;rw[v8] at e;obtain⟨xs,ex,e⟩:=e
 have go:∀{Q:V->Hp->Prop},(∀(v:Xv) S2,tw xs S=iJ (.ok v S2)->∀j' H',Ext j H j' H'->En K F j' H' σ ρ S2->∀w,Xis K j' H' v w->Q w H')->zht (sTw K n tw) [] t σ H Q (λcls H'=>B4 K cls D=iJ jD/\∀e,H' e=jr->
   th {nx:=λσ' H'=>D'.nx (σ'.set i jr) H',rt:=D'.rt,bk:=λσ' H'=>D'.bk (σ'.set i jr) H',ct:=λσ' H'=>D'.ct (σ'.set i jr) H'} (σ.set i (iJ (.ref e))) (upd H' e (zdW e cls))):=by
  intro Q hq;unfold zht;refine ht E0 ex λvs nG=> ?_;rw[z6];cases er:tw xs S with
  |none=>rw[er] at e;cases e
  |some r=>
   refine Uy E0 nG (by rw[nG.len,zfw ex,hn]) er ?_;cases r with
   |ok v S2=>exact λj' H' X E1 w hw=>hq v S2 er j' H' X E1 w hw
   |ex c S2=>
    rw[er] at e;dsimp only at e;split at e
    .rename_i hc;intro j' H' σ' ρ' C X E1 hC;refine⟨hit c hc C hC,λa ha=> ?_⟩;split at e
     .rename_i ρ3 S3 e3;cases e;have E2:=E0.back E1 X;obtain⟨E4,X4⟩:=E2.cell (p:=a) (o:=zdW a (.ref C)) (c:= .exc c) ha ⟨C,hC,yH⟩;have hr:Xis K (j'++[a]) (upd H' a (zdW a (.ref C))) (.ref S2.length) (.ref a):= .ref (by rw[<-E1.jl];simp);have E5:=E4.set (i:=i) hr;refine hh E5 e3 ?_;intro σ6 j6 H6 X6 E6;exact kk _ _ _ (X.trans (X4.trans X6)) (E6.unset i)
     .cases e
    .cases e
 unfold zgr;rcases hk with⟨m,rfl,rfl⟩|⟨rfl,rfl⟩
 .unfold zqi;refine go λv S2 er j' H' X E1 w hw=> ?_;rw[er] at e;cases e;exact kk _ _ _ X (E1.set hw)
 .unfold zjT;refine go λv S2 er j' H' X E1 w hw=> ?_;rw[er] at e;cases e;exact kk _ _ _ X E1
noncomputable def zbo(tbl:Str->pT Bool):Xv->Sto->pT (Xv×Sto):=λx S=>match x with
 | .ref n=>match S[n]? with
  |some (.exc c)=>(tbl c).map λb=>(.bl b,S)
  |_=>jr
 |_=>jr
def UU(K:uk)(D:qM)(tbl:Str->pT Bool):Prop:=∀c C b,uC K mainGlobals c=iJ (iJ (.ref C))->tbl c=iJ b->XD K C/\v7 K (.ref C) D=iJ b
def VR(K:uk)(Ds:pR qM)(tbl:Str->pT Bool):Prop:=∀c C b,uC K mainGlobals c=iJ (iJ (.ref C))->tbl c=iJ b->XD K C/\B5 K (.ref C) Ds=iJ b
set_option tactic.hygienic true in
theorem zdz{tbl:Str->pT Bool}(h:zbo tbl x S=iJ (z,S')):∃n c b,x= .ref n/\S[n]? =iJ (.exc c)/\tbl c=iJ b/\z= .bl b/\S'=S:=by
 unfold zbo at h;split at h
 .split at h
  .rename_i n _ c e;rw[uH] at h;obtain⟨b,e1,e2⟩:=h;cases e2;exact⟨n,c,b,rfl,e,e1,rfl,rfl⟩
  .cases h
 .cases h
theorem zkQ{tbl:Str->pT Bool}{t:TE}{m:TwE}{c:V}{D:qM}(hc:ziF c=iJ D)(ok:UU K D tbl)(h:RE K E t m):RE K E (tCB (zjY K) (UP t (UP (tC c) zeU))) (eUn (zbo tbl) m):=by
 intro F j σ H ρ S r Q En0 e k;rcases zB e with⟨x,S1,e1,e⟩|⟨c,S1,e1,rfl⟩
 .obtain⟨z,S3,e3,rfl⟩:=wm e;obtain⟨n,cn,b,rfl,hs,ht,rfl,rfl⟩:=zdz e3;refine h En0 e1 λj1 H1 X1 E1 u hu=> ?_;obtain⟨a,rfl,hj⟩:=hu.ref_inv;obtain⟨C,hC,hH⟩:=E1.cel _ _ _ hs hj;obtain⟨f1,f2⟩:=ok cn C b hC ht;exact⟨.ref a,c,D,.ref C,b,rfl,hc,.exc hH f1,f2,k _ _ X1 E1 _ (.bl _)⟩
 .exact h En0 e1 k
def TAC(t:TA)(cs:pR V):Prop:=∀σ H (Q:pR V->Hp->Prop),Q cs H->t σ H Q
theorem zmL:TAC zeU []:=λ_ _ _ q=>q
theorem Wy(c:V)(h:TAC t cs):TAC (UP (tC c) t) (c::cs):=λσ H Q q=>h σ H _ q
theorem zmM{tbl:Str->pT Bool}(rO:TAC ta cs)(hc:cs.map ziF=Ds.map iJ)(hl:cs.length<=100)(ok:VR K Ds tbl)(h:RE K E t m):RE K E (tCB (zj0 K) (UP t (UP (zon ta) zeU))) (eUn (zbo tbl) m):=by
 intro F j σ H ρ S r Q En0 e k;rcases zB e with⟨x,S1,e1,e⟩|⟨c,S1,e1,rfl⟩
 .obtain⟨z,S3,e3,rfl⟩:=wm e;obtain⟨n,cn,b,rfl,hs,ht,rfl,rfl⟩:=zdz e3;refine h En0 e1 λj1 H1 X1 E1 u hu=> ?_;obtain⟨a,rfl,hj⟩:=hu.ref_inv;refine rO _ _ _ ⟨v5 hl ∅,λp hp=> ?_⟩;obtain⟨E2,X2⟩:=E1.new (p:=p) (o:= .tup cs) hp;obtain⟨C,hC,hH⟩:=E2.cel _ _ _ hs hj;obtain⟨f1,f2⟩:=ok cn C b hC ht;exact⟨.ref a,p,cs,Ds,.ref C,b,rfl,yH,hc,.exc hH f1,f2,k _ _ (X1.trans X2) E2 _ (.bl _)⟩
 .exact h En0 e1 k
theorem zdA{C D:qY}(h1:ux K C (.ref C)=iJ jD)(h2:ux K C (.ref D)=iJ nW):C=D->nW=jD:=by
 rintro rfl;rw[h1] at h2;exact absurd h2 ∅
theorem zmN(h:ux K C (.type "ValueError")=iJ jD):v7 K (.ref C) (.type "ValueError")=iJ jD:=by
 have hm:Am "ValueError"=jD:=by decide+kernel
 unfold v7;rw[if_neg (by simp)];unfold Bk;show(if Am "ValueError"=jD then AW K (.ref C) (.type "ValueError") else jr)=iJ jD;rw[if_pos hm];exact h
theorem zgT:B5 K t []=iJ nW:=rfl
theorem Wz{t c:qM}{l:pR qM}{b:Bool}(h:v7 K t c=iJ nW)(r:B5 K t l=iJ b):B5 K t (c::l)=iJ b:=by
 unfold B5;rw[h];exact r
noncomputable def Xh(l:pR (Str×Bool)):Str->pT Bool:=λc=>l.lookup c
set_option tactic.hygienic true in
theorem zbh{c d:Str}{b:Bool}{l:pR (Str×Bool)}{v:Bool}(h:Xh ((d,b)::l) c=iJ v):(c=d/\v=b)\/Xh l c=iJ v:=by
 unfold Xh at h ⊢;rw[A1] at h;split at h
 .rename_i e;cases h;exact .inl ⟨by simpa using e,rfl⟩
 .exact .inr h
theorem UU.nil{D:qM}:UU K D (Xh []):=λc C b _ h=>by cases h
theorem UU.cons{D:qM}{d:Str}{b:Bool}{l:pR (Str×Bool)}(gm:uC K mainGlobals d=iJ (iJ (.ref C)))(e:XD K C)(k:v7 K (.ref C) D=iJ b)(h:UU K D (Xh l)):UU K D (Xh ((d,b)::l)):=λc C' v hC hv=>by
 rcases zbh hv with⟨rfl,rfl⟩|hv
 .rw[gm] at hC;cases hC;exact⟨e,k⟩
 .exact h c C' v hC hv
theorem VR.nil{D:pR qM}:VR K D (Xh []):=λc C b _ h=>by cases h
theorem VR.cons{D:pR qM}{d:Str}{b:Bool}{l:pR (Str×Bool)}(gm:uC K mainGlobals d=iJ (iJ (.ref C)))(e:XD K C)(k:B5 K (.ref C) D=iJ b)(h:VR K D (Xh l)):VR K D (Xh ((d,b)::l)):=λc C' v hC hv=>by
 rcases zbh hv with⟨rfl,rfl⟩|hv
 .rw[gm] at hC;cases hC;exact⟨e,k⟩
 .exact h c C' v hC hv
theorem zbg.nil{D:qM}:zbg K D []:=λc h=>by cases h
theorem zbg.cons{D:qM}{d:Str}{l:pR Str}(gm:uC K mainGlobals d=iJ (iJ (.ref C)))(k:B4 K (.ref C) D=iJ jD)(h:zbg K D l):zbg K D (d::l):=λc hc C' hC=>by
 rcases uU.1 hc with rfl|hc
 .rw[gm] at hC;cases hC;exact k
 .exact h c hc C' hC
end
end L2
namespace L2
open PySem
def WE{α:Type}(r:pT (Rs α))(P:α->Sto->Prop)(X:Str->Sto->Prop):Prop:=(∃a S,r=iJ (.ok a S)/\P a S)\/∃c S,r=iJ (.ex c S)/\X c S
def WSE(r:pT Fl)(N:Rho->Sto->Prop)(R:Xv->Sto->Prop)(X:Str->Sto->Prop):Prop:=(∃ρ S,r=iJ (.nx ρ S)/\N ρ S)\/(∃x S,r=iJ (.rt x S)/\R x S)\/∃c S,r=iJ (.ex c S)/\X c S
section
variable{s t:TwS}{PL:pR Xv->Sto->Prop}{X:Str->Sto->Prop}
theorem WE.w{α:Type}{r:pT (Rs α)}{P:α->Sto->Prop}(h:W r P):WE r P X:= .inl h
theorem WE.imp{α:Type}{r:pT (Rs α)}{P Q:α->Sto->Prop}{Y:Str->Sto->Prop}(h:WE r P Y)(k:∀a S,P a S->Q a S)(k2:∀c S,Y c S->X c S):WE r Q X:=by
 rcases h with⟨a,S,e,h⟩|⟨c,S,e,h⟩
 .exact .inl ⟨a,S,e,k _ _ h⟩
 .exact .inr ⟨c,S,e,k2 _ _ h⟩
theorem WSE.ws(h:WS r N R):WSE r N R X:=by
 rcases h with h|h
 .exact .inl h
 .exact .inr (.inl h)
theorem WSE.bind{α:Type}{r:pT (Rs α)}{f:α->Sto->pT Fl}(h:WE r (λa S=>WSE (f a S) N R X) X):WSE (sb r f) N R X:=by
 rcases h with⟨a,S,rfl,h⟩|⟨c,S,rfl,h⟩
 .exact h
 .exact .inr (.inr ⟨c,S,rfl,h⟩)
theorem UE(h:WSE (s ρ S) (λρ1 S1=>WSE (t ρ1 S1) N R X) R X):WSE (zo s t ρ S) N R X:=by
 unfold zo;rcases h with⟨ρ1,S1,e,h⟩|⟨x,S1,e,h⟩|⟨x,S1,e,h⟩
 .rw[e];exact h
 .rw[e];exact .inr (.inl ⟨_,_,rfl,h⟩)
 .rw[e];exact .inr (.inr ⟨_,_,rfl,h⟩)
theorem ziX(h:W (evL ms ρ S) λ_ S1=>X cl S1):WSE (zgS cl ms ρ S) N R X:=WSE.bind (WE.w (h.imp λ_ _ k=> .inr (.inr ⟨_,_,rfl,k⟩)))
theorem zpb(h:W (c ρ S) λv S1=>(v=jD->WSE (s ρ S1) N R X)/\(v=nW->WSE (t ρ S1) N R X)):WSE (sIf c s t ρ S) N R X:=WSE.bind (WE.w (h.imp λv S1 k=>by
 cases v with
 |true=>exact k.1 rfl
 |false=>exact k.2 rfl))
theorem zpc{n k:Nat}{xs:pR Xv}{ρ0:Rho}(hn:xs.length=n)(h0:xs.map iJ++uI k jr=ρ0)(h:WSE (s ρ0 S) (λ_ S1=>P .non S1) P X):WE (zN n k s xs S) P X:=by
 unfold zN;rw[if_pos hn,h0];rcases h with⟨ρ,S1,e,h⟩|⟨x,S1,e,h⟩|⟨x,S1,e,h⟩
 .rw[e];exact .inl ⟨_,_,rfl,h⟩
 .rw[e];exact .inl ⟨_,_,rfl,h⟩
 .rw[e];exact .inr ⟨_,_,rfl,h⟩
theorem zpd{i:Nat}{k:pT Nat}{tw:TwF}{is:pR Nat}{ok:pR Str}{h:TwS}{xs:pR Xv}(hx:is.mapM (λi=>ρ[i]?.join)=iJ xs)
  (hh:WE (tw xs S) (λv S2=>N (match k with|some k=>ρ.set k (iJ v)|none=>ρ) S2) λc S2=>c∈ok/\∃ρ' S',h (ρ.set i (iJ (.ref S2.length))) (S2++[.exc c])=iJ (.nx ρ' S')/\N (ρ'.set i jr) S'):WS (zkP i k tw is ok h ρ S) N R:=by
 unfold zkP;rw[hx,uJ];rcases hh with⟨v,S2,e,hn⟩|⟨c,S2,e,hc,ρ',S',e2,hn⟩
 .rw[e];exact .nx rfl hn
 .rw[e];dsimp only;rw[if_pos hc,e2];exact .nx rfl hn
theorem zgU{tbl:Str->pT Bool}(h:S[n]? =iJ (.exc cl))(ht:tbl cl=iJ v)(k:P (.bl v) S):WO (zbo tbl (.ref n) S) P:= .of (by unfold zbo;dsimp only;rw[h];dsimp only;rw[ht];rfl) k
end
end L2
namespace L2
open PySem PySem.Spec PyProof.Rows PySem.Calls
section
variable{E:XK}
noncomputable def zkR(nm f:Str)(o m:TwE):TwS:=λρ S=>sb (o ρ S) λx S1=>(zcU S1 x nm).bind λp=>match p.2.lookup f with
 |some (.int u)=>sb (m ρ S1) λy S2=>match y with
  | .int w=>(zcU S2 x nm).bind λq=>if q.2.length<1000 then iJ (.nx ρ (S2.set q.1 (.ins nm (VQ f (.int (u+w)) q.2)))) else jr
  |_=>jr
 |_=>jr
set_option tactic.hygienic true in
theorem zmO(gm:uC K mainGlobals nm=iJ (iJ (.ref C)))(hc:Cls K C)(hn:Yj K C f)(ho:RE K E to o)(hv:RE K E tv m):RS K E (zhj K to tv zp7 f) (zkR nm f o m):=by
 intro F j D' σ H ρ S fl E0 e kk;rcases wB e with⟨x,S1,e1,e⟩|⟨c,S1,e1,rfl⟩
 .refine ho E0 e1 λj1 H1 X1 E1 u hu=> ?_;rw[v8] at e;obtain⟨⟨n,fs⟩,e2,e⟩:=e;dsimp only at e;split at e
  .rename_i iu el;obtain⟨a,dx,vs,rfl,hj,f1,f2⟩:=E1.ins gm hu e2;obtain⟨w,g1,g2⟩:=f2.look.1 _ el;have ew:=g2.int_inv;subst ew;refine⟨a,C,dx,vs,_,rfl,f1,hc,hn,g1,?_⟩;rcases wB e with⟨y,S2,e3,e⟩|⟨c,S2,e3,rfl⟩
   .refine hv E1 e3 λj2 H2 X2 E2 wy oC=> ?_;split at e
    .rename_i iw;have:=oC.int_inv;subst this;rw[v8] at e;obtain⟨⟨n2,m9⟩,e4,e⟩:=e;dsimp only at e;split at e
     .rename_i hl;cases e;refine⟨iu,iw,rfl,rfl,?_⟩;obtain⟨a',dx',vs',ea,p7,h1,h2⟩:=E2.ins gm (hu.mono X2) e4;cases ea;obtain⟨E4,X4⟩:=E2.write (o:= .ins C dx' (L2.XV f (.int (iu+iw)) vs')) (c':= .ins nm (VQ f (.int (iu+iw)) m9)) (zaQ e4).2 rfl p7 rfl λX=>⟨C,dx',_,gm,yH,(KX.putF (.int _) h2).mono X⟩;exact⟨dx',vs',h1,by rw[h2.len2];exact hl,kk _ _ _ (X1.trans (X2.trans X4)) E4⟩
     .cases e
    .cases e
   .exact hv E1 e3 (PX.mono kk X1)
  .cases e
 .exact ho E0 e1 kk
theorem zmP{o m:TwE}(h:W (o ρ S) λx S1=>∃n fs u,x= .ref n/\S1[n]? =iJ (.ins nm fs)/\fs.lookup f=iJ (.int u)/\W (m ρ S1) λy S2=>∃w m9,y= .int w/\S2[n]? =iJ (.ins nm m9)/\m9.length<1000/\N ρ (S2.set n (.ins nm (VQ f (.int (u+w)) m9)))):WS (zkR nm f o m ρ S) N R:=
 WS.bind (h.imp λ_ _ h=>by
  obtain⟨n,fs,u,rfl,e1,e2,h⟩:=h;rw[TV e1,uJ];dsimp only;rw[e2];refine WS.bind (h.imp λ_ _ h=> ?_);obtain⟨w,m9,rfl,e3,e4,q⟩:=h;dsimp only;rw[TV e3,uJ,if_pos e4]
  exact .nx rfl q)
end
structure zrq(tw:TwF)(S:Sto)(l:pR Xv)(is:pR (pR Int)):Prop where
 len:is.length=l.length
 key:∀(i:Nat) x,l[i]? =iJ x->∃k,tw [x] S=iJ (.ok k S)/\k.tupOf=iJ ((is.getD i []).map Xv.int)
 fall:zqG is
section
variable{E:XK}{j:pR qY}
end
section
variable{E:XK}{F:Fm}{j:pR qY}
end
section
variable{E:XK}
end
section
variable{x y:Xv}
end
section
variable{E:XK}
end
noncomputable def ve(y:Str):pR Xv:=y.cps.toList.map λc=>Xv.str ⟨#[c]⟩
noncomputable def iS(m:TwE):TwI:=λρ S=>rb (m ρ S) λx S1=>match x with
 | .str y=>if y.cps.all (· <128)=jD then iJ (.ok (λ_=>iJ (ve y)) S1) else jr
 |_=>jr
noncomputable def inS(i j:Str):Bool:= !(Builtin.Str.occurrences j i 0 j.length 1).isEmpty
def zre:V->V->Hp->VK->Prop:=λx y H Q=>∃i j,x= .str i/\y= .str j/\Q (.bl (!(Builtin.Str.occurrences j i 0 j.length 1).isEmpty)) H
noncomputable def ziY:Xv->Xv->Sto->pT (Xv×Sto):=λx y S=>match x,y with
 | .str i,.str j=>iJ (.bl (inS i j),S)
 |_,_=>jr
section
variable{E:XK}
theorem zpe:zoC K j H (Its y) (λ_=>iJ (ve y)):=by
 intro F2 j2 H2 σ2 ρ2 S2 xs i X2 E2 e2;cases e2;refine⟨λd hd=> ?_,λhle=> ?_⟩
 .unfold ve at hd;rw[uA,uH] at hd;obtain⟨c,h1,rfl⟩:=hd;have h1:y.cps[i]? =iJ c:=by rw[<-h1];simp
  refine⟨⟨c,h1⟩,?_⟩;rintro x H' ⟨rfl,c',h2,rfl⟩;rw[h1] at h2;cases h2;exact⟨TC.refl _,.str _⟩
 .unfold ve at hle;simp at hle;show y.cps[i]? =jr;simp;omega
set_option tactic.hygienic true in
theorem zpf(h:RE K E t m):RI K E (zqJ t) (iS m):=by
 intro F j σ H ρ S r R En0 e k;rcases zB e with⟨x,S1,e1,e⟩|⟨c,S1,e1,rfl⟩
 .split at e
  .split at e
   .rename_i y hb;cases e;refine h En0 e1 λj1 H1 X1 E1 u hu=> ?_;cases hu;exact⟨y,rfl,hb,k _ _ X1 E1 _ zpe⟩
   .cases e
  .cases e
 .exact h En0 e1 k
theorem zkS:Xy K zre ziY:=by
 intro F j σ H ρ S S' x y z u v Q E1 hx hy h k;unfold ziY at h;split at h
 .cases h;cases hx;cases hy;exact⟨_,_,rfl,rfl,k _ _ _ Ext.refl E1 (.bl _)⟩
 .cases h
end
section
theorem zhR{Q':(Sto->pT (pR Xv))->Sto->Prop}(h:W (m ρ S) λx S1=>∃y,x= .str y/\y.cps.all (· <128)=jD/\Q' (λ_=>iJ (ve y)) S1):W (iS m ρ S) Q':=W.bind (h.imp λx S1 h=>by
 obtain⟨y,rfl,e,k⟩:=h;dsimp only;rw[if_pos e]
 exact .of rfl k)
theorem zkT(k:P (.bl (inS i j)) S):WO (ziY (.str i) (.str j) S) P:= .of rfl k
end
noncomputable def ziZ:Xv->Sto->pT (Xv×Sto):=λx S=>x.tupOf.bind λl=>if l.length=1\/l.length=3 then iJ (.tup (wj l),S) else jr
noncomputable def zcf(k:Int):Xv->Sto->pT (Xv×Sto):=λx S=>((ya S x).bind Ww).map λns=>(.int (zef k ns),S)
noncomputable def VS:pR Xv->pT (pR Str)
 |[]=>iJ []
 | .str i::r=>(VS r).map (i:: ·)
 |_::_=>jr
noncomputable def TX:Xv->Sto->pT (Xv×Sto):=λx S=>((ya S x).bind VS).bind λxs=>if xs.length<=200 then iJ (.int ((Ya [] xs).length:Nat),S) else jr
noncomputable def zfx:pR Xv->pT (pR (Key×Xv))
 |[]=>iJ []
 | .tup [.str n,x]::r=>(zfx r).map ((.inr n,x):: ·)
 |_::_=>jr
noncomputable def zeh:Opn:=λxs S=>match xs with
 |[.tup l]=>(zfx l).bind λaq=>if (aq.map (·.1)).Nodup then iJ (.ref S.length,S++[.dk aq]) else jr
 |_=>jr
set_option tactic.hygienic true in
theorem zmQ(h:yp K j H xs vs):yp K j H (wj xs) (wj vs):=by
 unfold wj;split
 .cases h with|cons h1 h=>cases h with|cons h2 h=>cases h with|cons h3 h=>cases h;exact .cons h1 (.cons h3 .nil)
 .rename_i hx;split
  .cases h with|cons h1 h=>cases h with|cons h2 h=>cases h with|cons h3 h=>cases h;exact absurd rfl (hx _ _ _)
  .exact h
set_option tactic.hygienic true in
theorem zcg{j:pR qY}{xs:pR Xv}{ns:pR Str}{vs:pR V}(e:VS xs=iJ ns)(h:yp K j H xs vs):vs=ns.map V.str:=by
 induction xs generalizing ns vs with
 |nil=>cases e;exact h.nil_inv
 |cons x r i=>
  obtain⟨v,ws,rfl,h1,h2⟩:=h.cons_inv;cases x<;>try cases e
  have e:(VS r).map _=iJ ns:=e
  rw[uH] at e;obtain⟨ms,e2,rfl⟩:=e;rw[h1.str_inv,i e2 h2];rfl
set_option tactic.hygienic true in
theorem zhS{j:pR qY}:∀{xs:pR Xv} {aq:pR (Key×Xv)} {vs:pR V},zfx xs=iJ aq->yp K j H xs vs->∃ks,KX K j H aq ks/\Paired (PrT H) vs ks/\ks.map (·.1)=aq.map (·.1)
 |[],aq,vs,e,h=>by cases e;cases h;exact⟨[],.nil,.nil,rfl⟩
 |x::r,aq,vs,e,h=>by
  unfold zfx at e;split at e
  .rename_i h0;cases h0
  .rename_i n y r' h0;cases h0;rw[uH] at e;obtain⟨ms,e1,rfl⟩:=e;cases h with
   |cons h1 h2=>
    obtain⟨ks,g1,g2,g3⟩:=zhS e1 h2;cases h1 with
    |tup f1 f2=>
     cases f2 with
     |cons q1 q2=>
      cases q1;cases q2 with
      |cons q3 q4=>
       cases q4;rename_i a v;exact⟨(.inr n,v)::ks,.cons q3 g1,.cons ⟨a,rfl,f1⟩ g2,by rw[uV,uV,g3]⟩
  .cases e
section
variable{E:XK}
set_option tactic.hygienic true in
theorem zpg(h:RE K E to o):RE K E (zqK K to) (eUn ziZ o):=by
 intro F j σ H ρ S r Q En0 e k;rcases zB e with⟨x,S1,e1,e⟩|⟨c,S1,e1,rfl⟩
 .refine h En0 e1 λj1 H1 X1 E1 u hu=> ?_;obtain⟨z,S2,e2,rfl⟩:=wm e;unfold ziZ at e2;rw[v8] at e2;obtain⟨l,e3,e4⟩:=e2;split at e4
  .rename_i hl;cases e4;obtain⟨a,vs,rfl,f1,f2⟩:=hu.tupO e3;refine⟨a,vs,rfl,f1,by rw[f2.len];exact hl,λp hp=> ?_⟩;obtain⟨E2,X2⟩:=E1.new (p:=p) (o:= .tup (wj vs)) hp;exact k _ _ (X1.trans X2) E2 _ (.tup yH (zmQ (f2.mono X2)))
  .cases e4
 .exact h En0 e1 k
theorem zhT(h:RE K E to o):RE K E (znN K i to) (eUn (zcf i) o):=by
 intro F j σ H ρ S r Q En0 e k;rcases zB e with⟨x,S1,e1,e⟩|⟨c,S1,e1,rfl⟩
 .refine h En0 e1 λj1 H1 X1 E1 u hu=> ?_;obtain⟨z,S2,e2,rfl⟩:=wm e;unfold zcf at e2;rw[uH] at e2;obtain⟨ns,e3,e4⟩:=e2;cases e4;rw[v8] at e3;obtain⟨l,e3,e5⟩:=e3;obtain⟨p,ws,rfl,h1,h2⟩:=E1.lstAt hu e3;refine⟨p,ns,rfl,?_,k _ _ X1 E1 _ (.int _)⟩;rw[<-TK e5 h2];exact h1.sql
 .exact h En0 e1 k
set_option tactic.hygienic true in
theorem zi0(h:RE K E to o):RE K E (znP K to) (eUn TX o):=by
 intro F j σ H ρ S r Q En0 e k;rcases zB e with⟨x,S1,e1,e⟩|⟨c,S1,e1,rfl⟩
 .refine h En0 e1 λj1 H1 X1 E1 u hu=> ?_;obtain⟨z,S2,e2,rfl⟩:=wm e;unfold TX at e2;rw[v8] at e2;obtain⟨ns,e3,e4⟩:=e2;rw[v8] at e3;obtain⟨l,e3,e5⟩:=e3;split at e4
  .rename_i hl;cases e4;obtain⟨p,ws,rfl,h1,h2⟩:=E1.lstAt hu e3;refine⟨p,ns,rfl,?_,hl,k _ _ X1 E1 _ (.int _)⟩;rw[<-zcg e5 h2];exact h1.sql
  .cases e4
 .exact h En0 e1 k
set_option tactic.hygienic true in
theorem zfy:Td K zkI zeh:=by
 intro F j σ H ρ S S' xs z vs Q E1 hv h k;unfold zeh at h;split at h
 .rename_i l;rw[v8] at h;obtain⟨aq,e,h⟩:=h;split at h
  .rename_i nd;cases h;obtain⟨w,rfl,hx⟩:=hv.d1;cases hx with
   |tup f1 f2=>
    obtain⟨ks,g1,g2,g3⟩:=zhS e f2;refine⟨_,_,ks,rfl,f1,g2,by rw[g3];exact nd,λp hp=> ?_⟩;have X:Ext j H (j++[p]) (upd H p (.dK ks)):=⟨λn a e=>by rw[uB (uq.1 e).1];exact e,Ys.same (Xc hp)⟩;obtain⟨E2,X2⟩:=E1.cell (o:= .dK ks) (c:= .dk aq) hp ⟨ks,yH,g1.mono X⟩;exact k _ _ _ X2 E2 (.ref (by rw[<-E1.jl];simp))
  .cases h
 .cases h
end
section
theorem zkU(h:x.tupOf=iJ l)(hl:l.length=1\/l.length=3)(k:P (.tup (wj l)) S):WO (ziZ x S) P:= .of (by unfold ziZ;rw[h,uJ,if_pos hl]) k
theorem zhU(h:ya S x=iJ l)(h2:Ww l=iJ ns)(k:P (.int (zef i ns)) S):WO (zcf i x S) P:= .of (by unfold zcf;rw[h,uJ,h2];rfl) k
theorem zi1(h:ya S x=iJ l)(h2:VS l=iJ xs)(hl:xs.length<=200)(k:P (.int ((Ya [] xs).length:Nat)) S):WO (TX x S) P:= .of (by unfold TX;rw[h,uJ,h2,uJ,if_pos hl]) k
theorem zkV(h:zfx l=iJ aq)(nd:(aq.map (·.1)).Nodup)(k:P (.ref S.length) (S++[.dk aq])):WO (zeh [.tup l] S) P:= .of (by show((zfx l).bind _)=_;rw[h,uJ,if_pos nd]) k
end
section
def znQ(K:uk)(tl:TE):TI:=λσ H R=>tl σ H λx H1=>∃a,x= .ref a/\(((∃xs,SqL K H1 a xs)/\R (Itl K a) H1)\/((∃xs,SqT K H1 a xs)/\R (Itt K a) H1))
theorem zhV{l:Expr}{tl:TE}(hl:PE X l tl)(hK:X.K=K:=by rfl):PI X tg l (znQ K tl):=by
 subst hK;intro pins s σ H R I h;refine thn (hl pins s σ H _ I h) ?_;rintro v s1 ⟨x,H1,I1,r1,a,rfl,⟨⟨xs,hq⟩,q⟩|⟨⟨xs,hq⟩,q⟩⟩
 .cases r1;obtain⟨ag,rv,p,hz⟩:=I1.list hq;refine wpAny_pyIter_list p.isList ?_;refine⟨s1.heap.objs.size,[s1.heap.objs.size],_,_,H1,rfl,I1.kept (t':=s1.toks) λb o e=>Heap.get?_push_of_some _ e,zdj a _,⟨_,Heap.get?_push_size _ rfl,rfl,rfl⟩,λb hb=> ?_,q⟩;have e:b=s1.heap.objs.size:=by simpa using hb
  subst e;exact I1.fpOk (uv _) (I1.hok.fresh (uv _))
 .cases r1;obtain⟨ag,rv,p,hz⟩:=I1.tuple hq;refine wpAny_pyIter_tuple (show s1.heap.IsTuple a ag.toArray from p) ?_;refine⟨s1.heap.objs.size,[s1.heap.objs.size],_,_,H1,rfl,I1.kept (t':=s1.toks) λb o e=>Heap.get?_push_of_some _ e,zbQ a _,⟨_,Heap.get?_push_size _ rfl,rfl,rfl⟩,λb hb=> ?_,q⟩;have e:b=s1.heap.objs.size:=by simpa using hb
  subst e;exact I1.fpOk (uv _) (I1.hok.fresh (uv _))
end
noncomputable def iA(m:TwE):TwI:=λρ S=>rb (m ρ S) λx S1=>match x with
 | .ref n=>(ya S1 (.ref n)).map λ_=> .ok (λS=>ya S (.ref n)) S1
 |y=>y.tupOf.map λl=> .ok (λ_=>iJ l) S1
section
variable{E:XK}
set_option tactic.hygienic true in
theorem zmR(h:RE K E t m):RI K E (znQ K t) (iA m):=by
 intro F j σ H ρ S r R En0 e k;rcases zB e with⟨x,S1,e1,e⟩|⟨c,S1,e1,rfl⟩
 .have nX:∀y:Xv,x=y->y.tupOf.map (λl=>Rs.ok (λ_=>iJ l) S1)=iJ r->t σ H (λx H1=>∃a,x= .ref a/\(((∃xs,SqL K H1 a xs)/\R (Itl K a) H1)\/((∃xs,SqT K H1 a xs)/\R (Itt K a) H1))):=by
   rintro y rfl e;cases el:x.tupOf with
   |none=>rw[el] at e;cases e
   |some l=>
    rw[el] at e;cases e;refine h En0 e1 λj1 H1 X1 E1 u hu=> ?_;obtain⟨a,vs,rfl,h1,_⟩:=hu.tupO el;refine⟨a,rfl,.inr ⟨⟨vs,h1⟩,k _ _ X1 E1 _ ?_⟩⟩;intro F2 j2 H2 σ2 ρ2 S2 xs i X2 E2 e2;cases e2;obtain⟨a',ws,ea,g1,g2⟩:=(hu.mono X2).tupO el;cases ea;refine⟨λy ey=> ?_,λhle=>⟨ws,g1,by rw[g2.len];omega⟩⟩;obtain⟨w,f1,f2⟩:=g2.get ey;refine⟨⟨ws,w,g1,f1⟩,?_⟩;rintro v' H' ⟨rfl,hx⟩;have:=hx ws g1;rw[f1] at this;cases this;exact⟨TC.refl _,f2⟩
  split at e
  .rename_i n;cases el:ya S1 (.ref n) with
   |none=>rw[el] at e;cases e
   |some l=>
    rw[el] at e;cases e;refine h En0 e1 λj1 H1 X1 E1 u hu=> ?_;obtain⟨a,vs,rfl,h1,_⟩:=E1.lstAt hu el;refine⟨a,rfl,.inl ⟨⟨vs,h1.sql⟩,k _ _ X1 E1 _ ?_⟩⟩;intro F2 j2 H2 σ2 ρ2 S2 xs i X2 E2 e2;obtain⟨a',ws,ea,g1,g2⟩:=E2.lstAt (hu.mono X2) e2;cases ea;refine⟨λy ey=> ?_,λhle=>⟨ws,g1.sql,by rw[g2.len];omega⟩⟩;obtain⟨w,f1,f2⟩:=g2.get ey;refine⟨⟨ws,w,g1.sql,f1⟩,?_⟩;rintro v' H' ⟨rfl,hx⟩;have:=hx ws g1.sql;rw[f1] at this;cases this;exact⟨TC.refl _,f2⟩
  .exact nX _ rfl e
 .exact h En0 e1 k
end
section
theorem zkW{Q':(Sto->pT (pR Xv))->Sto->Prop}(h:W (m ρ S) λx S1=>∃n l,x= .ref n/\ya S1 (.ref n)=iJ l/\Q' (λS=>ya S (.ref n)) S1):W (iA m ρ S) Q':=W.bind (h.imp λx S1 h=>by
 obtain⟨n,l,rfl,e,k⟩:=h;dsimp only;rw[e]
 exact .of rfl k)
theorem zkX{Q':(Sto->pT (pR Xv))->Sto->Prop}(h:W (m ρ S) λx S1=>∃l,x= .tup l/\Q' (λ_=>iJ l) S1):W (iA m ρ S) Q':=W.bind (h.imp λx S1 h=>by
 obtain⟨l,rfl,k⟩:=h
 exact .of rfl k)
end
end L2
namespace L2
open PySem PySem.Spec PyProof.Rows PyProof
open Builtin Builtin.Str
theorem zdB:∀{ts:pR Str} {ag:pR qM},yd (ts.map V.str) ag->∃l:pR (Str×Tok),ag=strValues l/\l.map (·.1)=ts
 |[],ag,h=>by
  cases h;exact⟨[],rfl,rfl⟩
 |t::r,ag,h=>by
  cases h with
  |cons rx rr=>
   obtain⟨k,rfl⟩:=rx;obtain⟨l,rfl,rfl⟩:=zdB rr;exact⟨(t,k)::l,rfl,rfl⟩
theorem zdC:∀(l:pR (Str×Tok)),yd ((l.map (·.1)).map V.str) (strValues l)
 |[]=> .nil
 |(t,k)::r=> .cons ⟨k,rfl⟩ (zdC r)
def znR:V->pR V->Hp->VK->Prop:=λx vs H Q=>∃(sep:Str) (a:qY) (ts:pR Str),x= .str sep/\vs=[.ref a]/\H a=iJ (.lst (ts.map V.str))/\JoinOk sep ts=jD/\Q (.str (Txt.join sep ts)) H
theorem zbF:MtM X "str.join" znR:=by
 intro pins s σ H x vs v us Q I rx rv h;obtain⟨sep,a,ts,rfl,rfl,hH,hok,q⟩:=h;obtain⟨t,rfl⟩:=rx;obtain⟨u,rfl,ru⟩:=rv.one;cases ru;obtain⟨zl,ag,n,r,mI,e⟩:=I.lstM hH;obtain⟨l,rfl,hl⟩:=zdB r;exact SC.join (l:=l) (texts:=ts) ⟨_,e,rfl,_,rfl⟩ hl hok λt' k=>⟨.str _,H,I.tok _,⟨_,rfl⟩,q⟩
def zkY:V->pR V->Hp->VK->Prop:=λx vs H Q=>∃(z sep:Str),x= .str z/\vs=[.str sep]/\z.length<=sizeLine/\(sep.length==0)=nW/\(Txt.split z sep).length<=sizeLine/\∀a,H a=jr->Q (.ref a) (upd H a (.lst ((Txt.split z sep).map V.str)))
theorem zfz:MtM X "str.split" zkY:=by
 intro pins s σ H x vs v us Q I rx rv h;obtain⟨z,y,rfl,rfl,hz,hy,hl,q⟩:=h;obtain⟨t,rfl⟩:=rx;obtain⟨_,rfl,u,rfl⟩:=rv.one;have hf:H s.heap.objs.size=jr:=I.hok.fresh (uv _);have fin:∀(l:pR (Str×Tok)) (k:Nat),l.map (·.1)=Txt.split z y->EP X pins σ Q (.ref s.heap.objs.size) {s with toks:=k,heap:=s.heap.push {cls:= .type "list",data:= .seq (strValues l).toArray}}:=by
  intro l k e;refine⟨.ref s.heap.objs.size,upd H s.heap.objs.size (.lst ((Txt.split z y).map V.str)),I.laid (t':=k) (λb u e=>Heap.get?_push_of_some _ e) (uv _) ?_,rfl,q _ hf⟩;exact⟨by rw[um];exact hl,strValues l,0,by rw[<-e];exact zdC l,Heap.get?_push_size _ rfl⟩
 cases h1:(decide (z.length<y.length)||decide (strKind z<strKind y))
 .cases hf:(occurrences z y 0 z.length (z.length+1)).isEmpty
  .have j9:Txt.split z y=partsBetween z (occurrences z y 0 z.length (z.length+1)) y.length:=(if_neg (ne_true_of_eq_false h1)).trans (if_neg (ne_true_of_eq_false hf));refine call_meets F.slot_str_split (typeIs_str _ _ _) F.entry_str_split (F.args_str_split_2 _ _) (meets_str_split_sep z y t u h1 hy hf hz (by rw[<-j9];exact hl)) ?_;show wants _ _ _ {s with toks:=_,heap:=s.heap.push {cls:= .type "list",data:= .seq (strsFrom s.toks (partsBetween z (occurrences z y 0 z.length (z.length+1)) y.length)).toArray}};rw[strsFrom_eq];exact fin (numbered s.toks _) _ ((numbered_texts _ _).trans j9.symm)
  .exact call_meets F.slot_str_split (typeIs_str _ _ _) F.entry_str_split (F.args_str_split_2 _ _) (meets_str_split_not_found z y t u h1 hy hf) (fin [(z,t)] _ ((if_neg (ne_true_of_eq_false h1)).trans (if_pos hf)).symm)
 .exact call_meets F.slot_str_split (typeIs_str _ _ _) F.entry_str_split (F.args_str_split_2 _ _) (meets_str_split_cannot_occur z y t u h1) (fin [(z,t)] _ (if_pos h1).symm)
end L2
namespace L2
open PySem PySem.Spec PyProof.Rows PyProof
noncomputable def zei:V->pT Str
 | .int i=>if i.natAbs.log2<1920 then iJ (toString i) else jr
 | .str z=>iJ z
 |_=>jr
theorem zi2(rx:yq x v)(h:zei x=iJ z):(∃i t,v= .int i t/\i.natAbs.log2<1920/\z=toString i)\/∃t,v= .str z t:=by
 cases x with
 |int i=>
  obtain⟨t,rfl⟩:=rx;have h:(if i.natAbs.log2<1920 then iJ (Str.ofString (toString i)) else jr)=iJ z:=h;split at h
  .cases h;exact .inl ⟨_,_,rfl,by assumption,rfl⟩
  .cases h
 |str y=>
  obtain⟨t,rfl⟩:=rx;cases h;exact .inr ⟨t,rfl⟩
 |_=>cases h
theorem UF:wX X (.type "str") (λxs H Q=>∃x z,xs=[x]/\zei x=iJ z/\Q (.str z) H):=by
 intro pins s σ H xs us Q I r h;obtain⟨x,z,rfl,hz,q⟩:=h;obtain⟨u,rfl,ru⟩:=Wo r;rcases zi2 ru hz with⟨i,t,rfl,hi,rfl⟩|⟨t,rfl⟩
 .exact PySem.P.str_of_int hi ⟨.str _,H,I.tok _,⟨_,rfl⟩,q⟩
 .exact PySem.P.str_of_str ⟨.str _,H,I,⟨_,rfl⟩,q⟩
theorem zdD:wX X (.type "int") (λxs H Q=>∃x n,xs=[.str x]/\x.length<=640/\BM x=iJ n/\Q (.int n) H):=by
 intro pins s σ H xs us Q I r h;obtain⟨x,n,rfl,hl,hn,q⟩:=h;obtain⟨u,rfl,t,rfl⟩:=Wo r;exact PySem.W.KIN.call_text hn hl ⟨.int n,H,I.tok _,⟨_,rfl⟩,q⟩
inductive PJ(X:Cx):List Expr->List TE->Prop where
 |nil:PJ X [] []
 |cons {e:Expr} {es:List Expr} {t:TE} {ts:List TE}:PE X e t->PJ X es ts->PJ X (e::es) (t::ts)
end L2
namespace L2
open PySem PySem.Spec PyProof.Rows
noncomputable def zph:Xv->pT Str
 | .str z=>iJ z
 |_=>jr
theorem zmS(h:zph x=iJ z):x= .str z:=by
 cases x with
 |str y=>cases h;rfl
 |_=>cases h
noncomputable def zkZ:Xv->pT Str
 | .int i=>if i.natAbs.log2<1920 then iJ (toString i) else jr
 | .str z=>iJ z
 |_=>jr
section
variable{E:XK}
theorem zk0{x:Xv}{u:V}{z:Str}(h:zkZ x=iJ z)(hu:Xis K j H x u):zei u=iJ z:=by
 cases x with
 |int i=>cases hu;exact h
 |str y=>cases hu;exact h
 |_=>cases h
noncomputable def zaS(f:OpM)(o:TwE)(ms:pR TwE):TwE:=λρ S=>rb (o ρ S) λx S1=>(zph x).bind λ_=>rb (evL ms ρ S1) λys S2=>okP (f x ys S2)
theorem zej{r:V->pR V->Hp->VK->Prop}(hr:zff K r f)(ho:RE K E to o)(ht:RL K E t (evL ms)):RE K E (tBM K "str" r to t) (zaS f o ms):=by
 intro F j σ H ρ S r Q En0 e k;rcases zB e with⟨x,S1,e1,e⟩|⟨c,S1,e1,rfl⟩
 .refine ho En0 e1 λj1 H1 X1 E1 u hu=> ?_;cases el:zph x with
  |none=>rw[el] at e;cases e
  |some l=>
   rw[el] at e;have hx:=zmS el;subst hx;refine⟨by cases hu;exact rfl,?_⟩;rcases zB e with⟨ys,S2,e2,e⟩|⟨c,S2,e2,rfl⟩
   .obtain⟨z,S3,e3,rfl⟩:=wm e;exact ht E1 e2 λj2 H2 X2 E2 ws hw=>hr E2 (hu.mono X2) hw e3 λw j3 H3 X3 E3 hz=>k _ _ (X1.trans (X2.trans X3)) E3 _ hz
   .exact ht E1 e2 (PX.mono k X1)
 .exact ho En0 e1 k
noncomputable def Vv:OpM:=λx ys S=>match x,ys with
 | .str sep,[y]=>(Tf S y).bind λp=>(VS p.2).bind λts=>if JoinOk sep ts=jD then iJ (.str (Txt.join sep ts),S) else jr
 |_,_=>jr
set_option tactic.hygienic true in
theorem zhW:zff K znR Vv:=by
 intro F j σ H ρ S S' x z ys u vs Q E0 hx hy h k;unfold Vv at h;split at h
 .rename_i sep y;rw[v8] at h;obtain⟨⟨n,l⟩,e,h⟩:=h;rw[v8] at h;obtain⟨ts,e2,h⟩:=h;split at h
  .rename_i hj;cases h;cases hx;obtain⟨w0,rfl,hw⟩:=hy.d1;obtain⟨a,ws,rfl,nL,h1,h2⟩:=E0.wl hw e;have:=zcg e2 h2;subst this;exact⟨sep,a,ts,rfl,rfl,h1,hj,k _ _ _ Ext.refl E0 (.str _)⟩
  .cases h
 .cases h
theorem zfA:∀ts:pR Str,yp K j H (ts.map Xv.str) (ts.map V.str)
 |[]=> .nil
 |t::r=> .cons (.str t) (zfA r)
noncomputable def Ti:OpM:=λx ys S=>match x,ys with
 | .str z,[.str sep]=>if z.length<=sizeLine/\(sep.length==0)=nW/\(Txt.split z sep).length<=sizeLine then iJ (.ref S.length,S++[.lst ((Txt.split z sep).map Xv.str)]) else jr
 |_,_=>jr
set_option tactic.hygienic true in
theorem zfB:zff K zkY Ti:=by
 intro F j σ H ρ S S' x z ys u vs Q E0 hx hy h k;unfold Ti at h;split at h
 .rename_i z sep;split at h
  .rename_i hc;cases h;cases hx;obtain⟨w0,rfl,hw⟩:=hy.d1;cases hw;refine⟨z,sep,rfl,rfl,hc.1,hc.2.1,hc.2.2,λa ha=> ?_⟩;obtain⟨E2,X2,h3⟩:=E0.lst (zfA (Txt.split z sep)) ha;exact k _ _ _ X2 E2 h3
  .cases h
 .cases h
noncomputable def zbp:Opn:=λxs S=>match xs with
 |[x]=>(zkZ x).map λz=>(.str z,S)
 |_=>jr
set_option tactic.hygienic true in
theorem zhX:Td K (λxs H Q=>∃x z,xs=[x]/\zei x=iJ z/\Q (.str z) H) zbp:=by
 intro F j σ H ρ S S' xs z vs Q E1 hv h k;unfold zbp at h;split at h
 .rename_i x;rw[uH] at h;obtain⟨y,e,h⟩:=h;cases h;obtain⟨w,rfl,hx⟩:=hv.d1;exact⟨w,y,rfl,zk0 e hx,k _ _ _ Ext.refl E1 (.str _)⟩
 .cases h
noncomputable def zdE:Opn:=λxs S=>match xs with
 |[.str z]=>if z.length<=640 then (BM z).map λn=>(.int n,S) else jr
 |_=>jr
set_option tactic.hygienic true in
theorem zhY:Td K (λxs H Q=>∃x n,xs=[V.str x]/\x.length<=640/\BM x=iJ n/\Q (.int n) H) zdE:=by
 intro F j σ H ρ S S' xs z vs Q E1 hv h k;unfold zdE at h;split at h
 .rename_i x;split at h
  .rename_i hl;rw[uH] at h;obtain⟨n,e,h⟩:=h;cases h;obtain⟨w,rfl,hx⟩:=hv.d1;cases hx;exact⟨x,n,rfl,hl,e,k _ _ _ Ext.refl E1 (.int _)⟩
  .cases h
 .cases h
inductive RJ(K:uk)(E:XK):List TE->List TwE->Prop where
 |nil:RJ K E [] []
 |cons {t:TE} {ts:List TE} {m:TwE} {ms:List TwE}:RE K E t m->RJ K E ts ms->RJ K E (t::ts) (m::ms)
end
noncomputable def zek:Op2:=λx y S=>match x,y with
 | .str a,.str b=>iJ (.bl (decide (a=b)),S)
 | .non,.str _=>iJ (.bl nW,S)
 |_,_=>jr
theorem zk1:Xy K rEq zek:=by
 intro F j σ H ρ S S' x y z u v Q E1 hx hy h k;cases hx<;>cases hy<;>simp only[zek,reduceCtorEq,z9,Cu] at h<;>obtain⟨rfl,rfl⟩:=h<;>refine⟨rfl,k _ _ _ Ext.refl E1 ?_⟩<;>simp<;>exact .bl _
theorem zel(k:P (.bl (decide (a=b))) S):WO (zek (.str a) (.str b) S) P:= .of rfl k
theorem zmT(k:P (.bl nW) S):WO (zek .non (.str b) S) P:= .of rfl k
section
variable{E:XK}{j:pR qY}
end
section
theorem zaT(h:W (o ρ S) λx S1=>(∃z,x= .str z)/\W (evL ms ρ S1) λys S2=>WO (f x ys S2) P):W (zaS f o ms ρ S) P:=W.bind (h.imp λx S1 h=>by
 obtain⟨⟨z,rfl⟩,h⟩:=h
 exact W.bind (h.imp λ_ _ h=>W.okP h))
theorem zbG(h:Tf S y=iJ (n,l))(h2:VS l=iJ ts)(hj:JoinOk sep ts=jD)(k:P (.str (Txt.join sep ts)) S):WO (Vv (.str sep) [y] S) P:= .of (by unfold Vv;dsimp only;rw[h,uJ,h2,uJ,if_pos hj]) k
theorem zfC(h:z.length<=sizeLine/\(sep.length==0)=nW/\(Txt.split z sep).length<=sizeLine)(k:P (.ref S.length) (S++[.lst ((Txt.split z sep).map Xv.str)])):WO (Ti (.str z) [.str sep] S) P:= .of (by unfold Ti;exact if_pos h) k
theorem zbH(h:i.natAbs.log2<1920)(k:P (.str (toString i)) S):WO (zbp [.int i] S) P:= .of (by show((if i.natAbs.log2<1920 then iJ (Str.ofString (toString i)) else jr).map _)=_;rw[if_pos h];rfl) k
theorem zhZ(k:P (.str z) S):WO (zbp [.str z] S) P:= .of rfl k
theorem zh0(hl:z.length<=640)(h:BM z=iJ n)(k:P (.int n) S):WO (zdE [.str z] S) P:= .of (by unfold zdE;dsimp only;rw[if_pos hl,h];rfl) k
end
inductive Sh(n:Nat):List D->Nat->Nat->Prop where
 |nil:Sh n [] 0 0
 |int {i:Int} {r:List D} {w e:Nat}:i.natAbs<2^n->Sh n r w e->Sh n (.int i::r) (n+1+w) e
 |str {z:Str} {r:List D} {w e:Nat}:z.length<=n->(z.cps.toList.all λc=>decide (c<16^8))=jD->Sh n r w e->Sh n (.str z::r) (n+1+w) e
 |tup {l r:List D} {w e w' e':Nat}:Sh n l w e->Sh n r w' e'->Sh n (.tup l::r) (w+1+w') (max (e+1) e')
 |lst {l r:List D} {w e w' e':Nat}:Sh n l w e->Sh n r w' e'->Sh n (.lst l::r) (w+1+w') (max (e+1) e')
theorem Sh.reads(I:Inv X pins σ H s)(h:Sh n ds w e):∀{vs:pR V} {us:pR qM},IsL X.K H vs ds->yd vs us->∃as,ReadsAll s.heap us (D.pys ds) as:=by
 induction h with
 |nil=>
  intro vs us h r;cases h;cases r;exact⟨_,.nil⟩
 |int _ _ ih=>
  intro vs us h r;cases h with
  |cons h l=>
   cases h;cases r with
   |cons r1 r2=>
    obtain⟨t,rfl⟩:=r1;obtain⟨as,ra⟩:=ih l r2;exact⟨_,.cons (.int _ t) ra⟩
 |str _ _ _ ih=>
  intro vs us h r;cases h with
  |cons h l=>
   cases h;cases r with
   |cons r1 r2=>
    obtain⟨t,rfl⟩:=r1;obtain⟨as,ra⟩:=ih l r2;exact⟨_,.cons (.str _ t) ra⟩
 |tup _ _ fI fH=>
  intro vs us h r;cases h with
  |cons h l=>
   cases h with
   | @tup a _ _ h2 l2=>
   cases r with
   |cons r1 r2=>
    cases r1;obtain⟨ag,rv,⟨o,ho,hc,m,hd⟩,_⟩:=I.tuple h2;obtain⟨as,ra⟩:=fI l2 rv;obtain⟨bs,rb⟩:=fH l r2;exact⟨_,.cons (.tuple ho hc hd (by simpa using ra)) rb⟩
 |lst _ _ fI fH=>
  intro vs us h r;cases h with
  |cons h l=>
   cases h with
   | @lst a _ _ h2 l2=>
   cases r with
   |cons r1 r2=>
    cases r1;obtain⟨ag,rv,⟨o,m,ho,hc,_,hd⟩,_⟩:=I.list h2;obtain⟨as,ra⟩:=fI l2 rv;obtain⟨bs,rb⟩:=fH l r2;exact⟨_,.cons (.list ho hc hd (by simpa using ra)) rb⟩
theorem Sh.show(h0:8<=n)(h1:n<=1900)(h:Sh n ds w e):PyData.showableAll (D.pys ds)=jD/\PyData.hasDictAll (D.pys ds)=nW/\PyData.leavesShortAll (n+1) (D.pys ds)=jD/\PyData.weightAll (D.pys ds)<=w/\PyData.depthAll (D.pys ds)<=e:=by
 induction h with
 |nil=>exact⟨rfl,rfl,rfl,uZ _,uv _⟩
 | @int i r w e h _ ih=>
  obtain⟨a,b,c,d,f⟩:=ih;have hl:i.natAbs.log2<n:=zgu ⋯ h;refine⟨?_,?_,?_,?_,?_⟩
  .show (decide (i.natAbs.log2<1920)&&PyData.showableAll (D.pys r))=jD;rw[a,decide_eq_true ⋯];rfl
  .exact b
  .show (decide ((Str.ofString (toString i)).length<=n+1)&&PyData.leavesShortAll (n+1) (D.pys r))=jD;have:=int_text_length_le (k:=n) ⋯ hl;rw[<-PySem.ofString_length] at this;rw[c,decide_eq_true this];rfl
  .show (if i==0 then 0 else i.natAbs.log2+1)+1+PyData.weightAll (D.pys r)<=n+1+w;split<;>omega
  .show max 0 (PyData.depthAll (D.pys r))<=e;omega
 | @str z r w e h h2 _ ih=>
  obtain⟨a,b,c,d,f⟩:=ih;refine⟨a,b,?_,?_,?_⟩
  .show ((z.cps.toList.all λc=>decide (c<16^8))&&PyData.leavesShortAll (n+1) (D.pys r))=jD;rw[h2,c];rfl
  .show z.cps.size+1+PyData.weightAll (D.pys r)<=n+1+w;have:z.cps.size<=n:=h;omega
  .show max 0 (PyData.depthAll (D.pys r))<=e;omega
 | @tup l r w e w' e' _ _ fI fH=>
  obtain⟨a,b,c,d,f⟩:=fI;obtain⟨a2,b2,c2,d2,f2⟩:=fH;refine⟨?_,?_,?_,?_,?_⟩
  .show (PyData.showableAll (D.pys l)&&PyData.showableAll (D.pys r))=jD;rw[a,a2];rfl
  .show (PyData.hasDictAll (D.pys l)||PyData.hasDictAll (D.pys r))=nW;rw[b,b2];rfl
  .show (PyData.leavesShortAll (n+1) (D.pys l)&&PyData.leavesShortAll (n+1) (D.pys r))=jD;rw[c,c2];rfl
  .show PyData.weightAll (D.pys l)+1+PyData.weightAll (D.pys r)<=_;omega
  .show max (PyData.depthAll (D.pys l)+1) (PyData.depthAll (D.pys r))<=_;omega
 | @lst l r w e w' e' _ _ fI fH=>
  obtain⟨a,b,c,d,f⟩:=fI;obtain⟨a2,b2,c2,d2,f2⟩:=fH;refine⟨?_,?_,?_,?_,?_⟩
  .show (PyData.showableAll (D.pys l)&&PyData.showableAll (D.pys r))=jD;rw[a,a2];rfl
  .show (PyData.hasDictAll (D.pys l)||PyData.hasDictAll (D.pys r))=nW;rw[b,b2];rfl
  .show (PyData.leavesShortAll (n+1) (D.pys l)&&PyData.leavesShortAll (n+1) (D.pys r))=jD;rw[c,c2];rfl
  .show PyData.weightAll (D.pys l)+1+PyData.weightAll (D.pys r)<=_;omega
  .show max (PyData.depthAll (D.pys l)+1) (PyData.depthAll (D.pys r))<=_;omega
structure znS(d:D):Prop where
 seq:∃l,d= .tup l\/d= .lst l
 sh:∃n w e,Sh n [d] w e/\8<=n/\n<=1900/\e<=100/\(n+3)*w+n+1<=16777216
def zk2(K:uk):pR V->Hp->VK->Prop:=λxs H Q=>∃(x:V) (d:D),xs=[x]/\Is K H x d/\znS d/\Q (.str (D.py d).shown) H
theorem WT{k:Nat}(hr:Zr k X.A)(hK:X.K=K:=by rfl):wX X (.builtin "repr") (zk2 K):=by
 subst hK;intro pins s σ H xs us Q I r h;obtain⟨x,d,rfl,hi,⟨oM,n,w,e,sh,n0,n1,he,hz⟩,q⟩:=h;obtain⟨u,rfl,ru⟩:=Wo r;obtain⟨as,rd⟩:=sh.reads I (.cons hi .nil) (.cons ru .nil);obtain⟨as,rd⟩:∃as,Reads s.heap u (D.py d) as:=by
  cases rd with
  |cons r1 r2=>exact⟨_,r1⟩
 obtain⟨a,b,c,wt,f⟩:=sh.show n0 n1;have a:((D.py d).showable&&jD)=jD:=a;have b:((D.py d).hasDict||false)=nW:=b;have c:((D.py d).leavesShort (n+1)&&jD)=jD:=c;have wt:(D.py d).weight+1+0<=w:=wt;have f:max (D.py d).depth 0<=e:=f;rw[Bw] at a c;rw[E9] at b;have hd:isDisplay (D.py d)=jD:=by
  obtain⟨l,z|z⟩:=oM<;>(subst z;rfl)
 obtain⟨p,rfl⟩:=isRef_of_reads rd hd;have hlen:(D.py d).shown.length<=sizeLine:=by
  have h1:=PyData.shown_le (n+1) ⋯ (D.py d) c;have h3:(n+1+2)*(D.py d).weight<=(n+3)*w:=Nat.mul_le_mul_left _ ⋯;exact v5 h1 (by show _<=16777216;omega)
 have hu:=hr.un;exact repr_of_reads' rd a (PyData.noDict_hsm b) hr.gd ⋯ (λ_ _ e=>e) (λh' u tk hk=>⟨.str _,H,I.kept (t':=tk) hk,⟨_,rfl⟩,q⟩) hlen
open Classical in
noncomputable def WU:Opn:=λxs S=>match xs with
 |[x]=>(wo S 100 x).bind λd=>if znS d then iJ (.str (D.py d).shown,S) else jr
 |_=>jr
set_option tactic.hygienic true in
theorem zfD:Td K (zk2 K) WU:=by
 intro F j σ H ρ S S' xs z vs Q E1 hv h k;unfold WU at h;split at h
 .rename_i x;rw[v8] at h;obtain⟨d,h1,h2⟩:=h;split at h2
  .rename_i hn;cases h2;obtain⟨w,rfl,hx⟩:=hv.d1;exact⟨w,d,rfl,(zbB E1 100 x w d hx h1).1,hn,k _ _ _ Ext.refl E1 (.str _)⟩
  .cases h2
 .cases h
def znT:V->V->Hp->VK->Prop:=λx y H Q=>∃i n,x= .str i/\y= .int n/\MulOk i n/\Q (.str (Txt.mul i n)) H
theorem Tj:OpR X (binaryOp .Mult) znT:=by
 intro pins s σ H x y v u Q I rx ry h;obtain⟨i,n,rfl,rfl,hz,q⟩:=h;obtain⟨t,rfl⟩:=rx;obtain⟨t',rfl⟩:=ry;exact SB.mul hz (λt' tk=>⟨.str (Txt.mul i n),H,I.tok _,⟨_,rfl⟩,q⟩)
open Classical in
noncomputable def TY:Op2:=λx y S=>match x,y with
 | .str a,.int n=>if MulOk a n then iJ (.str (Txt.mul a n),S) else jr
 |_,_=>jr
theorem zh1:Xy K znT TY:=by
 intro F j σ H ρ S S' x y z u v Q E1 hx hy h k;unfold TY at h;split at h
 .split at h
  .cases h;exact⟨_,_,hx.str_inv,hy.int_inv,by assumption,k _ _ _ Ext.refl E1 (.str _)⟩
  .cases h
 .cases h
theorem zpi{a:Str}{n:Int}(h0:0<=n)(h1:n<=100)(ha:a.length<=100):MulOk a n:=by
 refine⟨?_,λh _=> ?_,λ_ _=> ?_⟩
 .rw[Bool.or_eq_false_iff];exact⟨decide_eq_false ⋯,decide_eq_false ⋯⟩
 .have:(100:Int)<=(2^63-1) / n:=(Int.le_ediv_iff_mul_le ⋯).2 ⋯;omega
 .have:a.length*n.toNat<=100*100:=Nat.mul_le_mul ha ⋯;unfold Builtin.Str.tooLong;exact decide_eq_false (by have:sizeLine=16777216:=rfl;omega)
theorem zmU(h0:0<=n)(h1:n<=100)(ha:a.length<=100)(k:P (.str (Txt.mul a n)) S):WO (TY (.str a) (.int n) S) P:= .of (by unfold TY;exact if_pos (zpi h0 h1 ha)) k
set_option tactic.hygienic true in
theorem zh2(a:Str)(n:Nat):(Txt.mul a n).cps.toList=(uI n a.cps.toList).flatten:=by
 unfold Txt.mul;by_cases h:(n:Int)<1
 .obtain rfl:n=0:=by omega
  rw[if_pos h];rfl
 .rw[if_neg h];split
  .rename_i h2;rw[BF,beq_iff_eq,beq_iff_eq] at h2;rcases h2 with h2|h2
   .obtain rfl:n=1:=by omega
    simp
   .have e:a.cps.toList=[]:=by
     have h3:a.cps.size=0:=h2;simpa using h3
    rw[e];simp
  .rw[A7];have aux:∀(m:Nat) (z:Array Nat),((uI m a.cps).foldl (· ++ ·) z).toList=z.toList++(uI m a.cps.toList).flatten:=by
    intro m
    induction m with
    |zero=>intro z;simp
    |succ m ih=>
     intro z;rw[Ba,CV,ih,Ba,Aj];simp
   show((uI n a.cps).foldl (· ++ ·) #[]).toList=_;rw[aux];simp
end L2
namespace Mth
open PySem.Builtin.Int (intBits)
end Mth
namespace Prf
variable{fu:Nat}{ns:pR Int}{bs:pR (PySem.Str×Int)}{us:pR (pR L2.Xv)}{rss:pR (pR (pR L2.Xv))}{wss:pR (pR PySem.Str)}{ms:pR Nat}{T0:L2.Sto}{rows:pR (pR L2.Xv)}
open PySem PySem.Spec PyProof.Rows L2
open PySem.Builtin.Int (intBits)
set_option maxHeartbeats 4000000
local macro_rules | `(tactic| walk_at "sc") => `(tactic| exact ⟨rfl, rfl, rfl, by decide +kernel, rfl, by decide +kernel, by decide +kernel⟩)
structure Fi(K:uk)(mg:Str->pT qM)(nm:Str)(st:Stmt)(ps:pR Str) where
 a:qY
 fd:FuncData
 F:Fun K nm nm st a fd
 m:mg nm=iJ (.ref a)
 b:Vt K fd ps []
structure Mi(K:uk)(g:qY)(nm qn:Str)(st:Stmt)(ps:pR Str) where
 a:qY
 fd:FuncData
 F:Fun K nm qn st a fd
 b:Vt K fd ps []
 mt:zlV K g nm a
def LoN(K:uk)(x qual:Str)(st:Stmt)(f:qY):Prop:=∃fd,Fun K x qual st f fd
def FL(K:uk)(nm:Str)(st:Stmt):Prop:=∃f,uC K mainGlobals nm=iJ (iJ (.ref f))/\LoN K nm nm st f
def ML(K:uk)(g:qY)(nm qn:Str)(st:Stmt):Prop:=∃f,uE K (.ref g) nm=iJ (iJ (.ref f))/\C5 K (.ref f)=jD/\LoN K nm qn st f
theorem zqL{x:Str}{st:Stmt}{f:qY}{oc:qM}{od an:pT qY}{js:Array (pT qM)}{kV doc pm aP ct:qM}(a:uC K mainGlobals x=iJ (iJ (.ref f)))
  (l:K.lookup f=iJ ⟨oc,od,.func (AO x x (WI st) (XB st) (zg st) .none kV doc pm an aP ct),js⟩) (c:BL K aP x=jD) (k:Av K (.ref f)=jD):FL K x st:=⟨f,a,_,zjJ l c k⟩
theorem zqM{g:qY}{x qn:Str}{st:Stmt}{f:qY}{oc:qM}{od an:pT qY}{js:Array (pT qM)}{kV doc pm aP ct:qM}(a:uE K (.ref g) x=iJ (iJ (.ref f)))(i:C5 K (.ref f)=jD)
  (l:K.lookup f=iJ ⟨oc,od,.func (AO x qn (WI st) (XB st) (zg st) .none kV doc pm an aP ct),js⟩) (c:BL K aP qn=jD) (k:Av K (.ref f)=jD):ML K g x qn st:=⟨f,a,i,_,zjJ l c k⟩
def BA(x qual:Str)(st:Stmt)(ps:pR Str):Prop:=∀(kV doc pm:qM) (an:pT qY) (aP ct:qM) (us:pR qM),us.length=ps.length->bindArgs (AO x qual (WI st) (XB st) (zg st) .none kV doc pm an aP ct) ⟨us,[]⟩=pure (ps.zip us)
noncomputable def FL.to{K:uk}{h:Heap}{mg:Str->pT qM}{x:Str}{st:Stmt}{ps:pR Str}(H:FL K x st)(X:K.In h)(G:h.Ns mainGlobals mg)(B:BA x x st ps):Fi K mg x st ps:=
 ⟨H.choose,H.choose_spec.2.choose,H.choose_spec.2.choose_spec,uN X G H.choose_spec.1,H.choose_spec.2.choose_spec.binds B⟩
noncomputable def ML.to{K:uk}{g:qY}{x qn:Str}{st:Stmt}{ps:pR Str}(H:ML K g x qn st)(B:BA x qn st ps):Mi K g x qn st ps:=
 ⟨H.choose,H.choose_spec.2.2.choose,H.choose_spec.2.2.choose_spec,H.choose_spec.2.2.choose_spec.binds B,⟨H.choose_spec.1,H.choose_spec.2.1,H.choose_spec.2.2.choose_spec.kp⟩⟩
theorem at0{P:pR qM->Prop}(h:P [])(us:pR qM)(e:us.length=0):P us:=by rw[Aa.1 e];exact h
theorem at_{P:pR qM->Prop}(h:∀(a:qM) (us:pR qM),us.length=n->P (a::us))(us:pR qM)(e:us.length=n+1):P us:=by
 cases us with
 |nil=>cases e
 |cons a us=>exact h a us (Nat.succ.inj e)
theorem zpj{st:Stmt}{x:Str}{fa:qY}(f:Fi K mg "law" st [x])(hK:∀s:qN,K.In s.heap->True)(h:mg "law"=iJ (.ref fa)):fa=f.a:=by
 have e:=h.symm.trans f.m;injection e with e
 injection e
section
variable{P:Program}
noncomputable def top (i:Nat):Stmt:=PySem.Challenge.pw_lots_k23_no_program.main.body.getD i (.Pass ⟨0,0,0,0⟩)
noncomputable abbrev Tk:Stmt:=top 10
noncomputable abbrev Yz:Stmt:=top 19
noncomputable abbrev zaU:Stmt:=top 20
noncomputable abbrev VT:Stmt:=top 21
noncomputable abbrev VU:Stmt:=top 32
noncomputable abbrev XG:Stmt:=top 33
noncomputable abbrev ZE:Stmt:=top 34
noncomputable abbrev Xi:Stmt:=top 35
noncomputable abbrev YA:Stmt:=top 36
noncomputable abbrev WV:Stmt:=top 37
noncomputable abbrev Yb:Stmt:=top 38
noncomputable abbrev XH:Stmt:=top 39
noncomputable abbrev ZF:Stmt:=top 40
noncomputable abbrev XY:Stmt:=top 41
noncomputable abbrev Xj:Stmt:=top 42
noncomputable abbrev WW:Stmt:=top 43
noncomputable abbrev YB:Stmt:=top 44
noncomputable abbrev vq:Stmt:=zbA (top 46) 0
noncomputable abbrev vT:Stmt:=zbA (top 46) 1
noncomputable abbrev WX:Stmt:=zbA (top 46) 2
noncomputable abbrev vU:Stmt:=zbA (top 46) 3
noncomputable abbrev zgV:Stmt:=top 47
noncomputable abbrev WY:Stmt:=top 48
noncomputable abbrev WZ:Stmt:=top 49
noncomputable abbrev VW:Stmt:=top 50
noncomputable abbrev YC:Stmt:=top 51
noncomputable abbrev Xk:Stmt:=top 52
noncomputable abbrev zaV:Stmt:=top 53
noncomputable abbrev XZ:Stmt:=top 54
noncomputable abbrev Zx:Stmt:=top 55
noncomputable abbrev VX:Stmt:=top 56
noncomputable abbrev Wa:Stmt:=top 57
noncomputable abbrev Va:Stmt:=top 58
noncomputable abbrev Xl:Stmt:=top 59
noncomputable abbrev Wb:Stmt:=top 60
noncomputable abbrev VY:Stmt:=top 61
noncomputable abbrev VZ:Stmt:=top 63
noncomputable abbrev Ua:Stmt:=top 64
noncomputable abbrev Vb:Stmt:=top 65
noncomputable abbrev Xm:Stmt:=top 66
noncomputable abbrev Ub:Stmt:=top 67
noncomputable abbrev Zy:Stmt:=top 68
noncomputable abbrev vV:Stmt:=top 69
noncomputable abbrev Vc:Stmt:=top 70
noncomputable abbrev Uc:Stmt:=top 71
noncomputable abbrev Ud:Stmt:=top 72
noncomputable abbrev Vd:Stmt:=top 73
noncomputable abbrev Tl:Stmt:=top 74
noncomputable abbrev Ve:Stmt:=top 75
noncomputable abbrev Wc:Stmt:=top 76
noncomputable abbrev YD:Stmt:=top 77
noncomputable abbrev Ue:Stmt:=top 78
noncomputable abbrev vI:Stmt:=top 79
noncomputable abbrev vt:Stmt:=top 80
noncomputable abbrev Yc:Stmt:=top 81
noncomputable abbrev wq:Stmt:=top 82
noncomputable abbrev wO:Stmt:=top 83
noncomputable abbrev Xn:Stmt:=top 84
noncomputable abbrev zk3:Stmt:=top 85
theorem zfE:zC ["thing"] ["thing"] (zg Tk):=by walk_at "sc"
theorem zcV:zC ["text","signs"] ["text","signs"] (zg Yz):=by walk_at "sc"
theorem zgW:zC ["text"] ["text"] (zg zaU):=by walk_at "sc"
theorem zem:zC ["text"] ["text"] (zg VT):=by walk_at "sc"
theorem zen:zC ["deed"] ["deed"] (zg VU):=by walk_at "sc"
theorem zeo:zC ["block"] ["block"] (zg XG):=by walk_at "sc"
theorem Uf:zC ["deed","inner"] ["deed"] (zg ZE):=by walk_at "sc"
theorem vv:zC ["block","deeds","deed","inner"] ["block"] (zg Xi):=by walk_at "sc"
theorem ZG:zC ["program","boxes","block","sizes"] ["program"] (zg YA):=by walk_at "sc"
theorem zcW:zC ["number","least","most"] ["number","least","most"] (zg WV):=by walk_at "sc"
theorem wP:zC ["boxes","names","states","name","size"] ["boxes"] (zg Yb):=by walk_at "sc"
theorem TZ:zC ["sizes","deed","kind"] ["sizes","deed"] (zg XH):=by walk_at "sc"
theorem zch:zC ["weights","size"] ["weights","size"] (zg ZF):=by walk_at "sc"
theorem zci:zC ["deed"] ["deed"] (zg XY):=by walk_at "sc"
theorem zbq:zC ["sizes","operand"] ["sizes","operand"] (zg Xj):=by walk_at "sc"
theorem zfF:zC ["block"] ["block"] (zg WW):=by walk_at "sc"
theorem zcX:zC ["deed"] ["deed"] (zg YB):=by walk_at "sc"
theorem zaW:zC ["self","text"] ["self","text"] (zg vq):=by walk_at "sc"
theorem Tm:zC ["self"] ["self"] (zg vT):=by walk_at "sc"
theorem UV:zC ["self","words"] ["self"] (zg WX):=by walk_at "sc"
theorem Tn:zC ["self","word"] ["self","word"] (zg vU):=by walk_at "sc"
theorem zaa:zC ["text","rows","boxes","block","program"] ["text"] (zg zgV):=by walk_at "sc"
theorem Wd:zC ["rows","boxes","words"] ["rows"] (zg WY):=by walk_at "sc"
theorem UW:zC ["rows","opened","deeds"] ["rows","opened"] (zg WZ):=by walk_at "sc"
theorem Vf:zC ["rows","opened","words","kind"] ["rows","opened"] (zg VW):=by walk_at "sc"
theorem zcY:zC ["kind","words"] ["kind","words"] (zg YC):=by walk_at "sc"
theorem Vw:zC ["rows","opened","block"] ["rows","opened"] (zg Xk):=by walk_at "sc"
theorem zcj:zC ["rows","test","opened","block"] ["rows","test","opened"] (zg zaV):=by walk_at "sc"
theorem Ug:zC ["rows","opened","blocks"] ["rows","opened"] (zg XZ):=by walk_at "sc"
theorem zab:zC ["words"] ["words"] (zg Zx):=by walk_at "sc"
theorem zep:zC ["words"] ["words"] (zg VX):=by walk_at "sc"
theorem zck:zC ["words","signs"] ["words","signs"] (zg Wa):=by walk_at "sc"
theorem zcZ:zC ["words"] ["words"] (zg Va):=by walk_at "sc"
theorem zbr:zC ["word"] ["word"] (zg Xl):=by walk_at "sc"
theorem zcl:zC ["word"] ["word"] (zg Wb):=by walk_at "sc"
theorem zeq:zC ["word"] ["word"] (zg VY):=by walk_at "sc"
theorem Vg:zC ["_law_script","_law_k","_law_prime","_law_many","_law_cell"] ["_law_script","_law_k","_law_prime","_law_many"] (zg VZ):=by walk_at "sc"
theorem xb:zC ["_law_script","_law_k","_law_at","_law_letters","_law_size","_law_name_here","_law_place","_law_turn"] ["_law_script","_law_k","_law_at"] (zg Ua):=by walk_at "sc"
theorem yJ:zC ["_law_script","_law_count","_law_most","_law_at","_law_boxes_here","_law_many","_law_k","_law_size","_law_name_here"] ["_law_script","_law_count","_law_most"] (zg Vb):=by walk_at "sc"
theorem vw:zC ["_law_script","_law_k","_law_boxes_here","_law_cell","_law_way"] ["_law_script","_law_k","_law_boxes_here"] (zg Xm):=by walk_at "sc"
theorem zac:zC ["_law_script","_law_k","_law_boxes_here","_law_sign"] ["_law_script","_law_k","_law_boxes_here"] (zg Ub):=by walk_at "sc"
theorem XI:zC ["_law_script","_law_k","_law_boxes_here","_law_sign"] ["_law_script","_law_k","_law_boxes_here"] (zg Zy):=by walk_at "sc"
theorem Yn:zC ["_law_script","_law_k","_law_size","_law_weights_here","_law_at"] ["_law_script","_law_k","_law_size"] (zg vV):=by walk_at "sc"
theorem ZH:zC ["_law_script","_law_k","_law_boxes_here","_law_way","_law_name_here","_law_size"] ["_law_script","_law_k","_law_boxes_here"] (zg Vc):=by walk_at "sc"
theorem xP:zC ["_law_script","_law_k","_law_boxes_here","_law_nested","_law_stop","_law_way","_law_block_here","_law_behind","_law_number","_law_other"] ["_law_script","_law_k","_law_boxes_here","_law_nested","_law_stop"] (zg Uc):=by walk_at "sc"
theorem xQ:zC ["_law_script","_law_k","_law_boxes_here","_law_nested","_law_stop","_law_many","_law_blocks","_law_behind","_law_number","_law_block_here"] ["_law_script","_law_k","_law_boxes_here","_law_nested","_law_stop"] (zg Ud):=by walk_at "sc"
theorem ww:zC ["_law_script","_law_k","_law_boxes_here","_law_nested","_law_stop","_law_block_here","_law_going","_law_deed_here"] ["_law_script","_law_k","_law_boxes_here","_law_nested","_law_stop"] (zg Vd):=by walk_at "sc"
theorem Yd:zC ["_law_script","_law_boxes_here","_law_nested","_law_stop","_law_top_here","_law_k","_law_deed_here"] ["_law_script","_law_boxes_here","_law_nested","_law_stop"] (zg Tl):=by walk_at "sc"
theorem zc0:zC ["_law_deed_here"] ["_law_deed_here"] (zg Ve):=by walk_at "sc"
theorem yA:zC ["_law_block_here","_law_length_here","_law_some","_law_deeds","_law_turns","_law_deed_here","_law_within","_law_inner_here"] ["_law_block_here"] (zg Wc):=by walk_at "sc"
theorem zc1:zC ["_law_some"] ["_law_some"] (zg YD):=by walk_at "sc"
theorem YE:zC ["_law_block_here","_law_rows_here","_law_deed_here"] ["_law_block_here"] (zg Ue):=by walk_at "sc"
theorem yt:zC ["_law_deed_here","_law_rows_here","_law_block_here"] ["_law_deed_here"] (zg vI):=by walk_at "sc"
theorem WA:zC ["_law_boxes_here","_law_block_here","_law_rows_here"] ["_law_boxes_here","_law_block_here"] (zg vt):=by walk_at "sc"
theorem zad:zC ["_law_boxes_here","_law_names"] ["_law_boxes_here"] (zg Yc):=by walk_at "sc"
theorem yC:zC ["_law_script","_law_boxes_here","_law_block_here","_law_free_here","_law_name_here","_law_size","_law_some"] ["_law_script","_law_boxes_here","_law_block_here"] (zg wq):=by walk_at "sc"
theorem xj:zC ["_law_script","_law_boxes_here","_law_free_here","_law_some"] ["_law_script","_law_boxes_here"] (zg wO):=by walk_at "sc"
theorem vx:zC ["_law_text","_law_kept","e"] ["_law_text"] (zg Xn):=by walk_at "sc"
theorem We:zC ["_law_script","_law_boxes_here","_law_block_here","_law_rows_here","_law_text","_law_at","_law_bad"] ["_law_script"] (zg zk3):=by walk_at "sc"
set_option genInjectivity false in
set_option genSizeOf false in
structure Tx(K:uk)(mg:Str->pT qM) where
 dv:Fi K mg "is_whole" Tk ["thing"]
 c4:Fi K mg "is_made_of" Yz ["text","signs"]
 da:Fi K mg "is_name" zaU ["text"]
 cw:Fi K mg "is_number" VT ["text"]
 bU:Fi K mg "blocks_of" VU ["deed"]
 bH:Fi K mg "length_of" XG ["block"]
 cj:Fi K mg "deed_length" ZE ["deed"]
 aW:Fi K mg "deeds_within" Xi ["block"]
 cI:Fi K mg "is_program" YA ["program"]
 bu:Fi K mg "is_from_to" WV ["number","least","most"]
 d3:Fi K mg "boxes_fit" Yb ["boxes"]
 cZ:Fi K mg "deed_fits" XH ["sizes","deed"]
 cb:Fi K mg "weights_fit" ZF ["weights","size"]
 cf:Fi K mg "operands_of" XY ["deed"]
 bS:Fi K mg "operand_fits" Xj ["sizes","operand"]
 bT:Fi K mg "depth_of" WW ["block"]
 cJ:Fi K mg "deed_depth" YB ["deed"]
 eE:Fi K mg "read" zgV ["text"]
 cK:Fi K mg "boxes_from" WY ["rows"]
 aG:Fi K mg "block_from" WZ ["rows","opened"]
 cY:Fi K mg "deed_from" VW ["rows","opened"]
 cH:Fi K mg "plain_deed" YC ["kind","words"]
 bg:Fi K mg "closed_block" Xk ["rows","opened"]
 e8:Fi K mg "if_from" zaV ["rows","test","opened"]
 cg:Fi K mg "hand_blocks" XZ ["rows","opened"]
 bC:Fi K mg "reckoning_from" Zx ["words"]
 bR:Fi K mg "test_from" VX ["words"]
 bO:Fi K mg "signed_from" Wa ["words","signs"]
 cG:Fi K mg "turns_from" Va ["words"]
 aV:Fi K mg "operand_from" Xl ["word"]
 bB:Fi K mg "number_from" Wb ["word"]
 bG:Fi K mg "name_from" VY ["word"]
 ae:Fi K mg "_law_draw" VZ ["_law_script","_law_k","_law_prime","_law_many"]
 d4:Fi K mg "_law_name" Ua ["_law_script","_law_k","_law_at"]
 cN:Fi K mg "_law_boxes" Vb ["_law_script","_law_count","_law_most"]
 aE:Fi K mg "_law_operand" Xm ["_law_script","_law_k","_law_boxes_here"]
 bW:Fi K mg "_law_test" Ub ["_law_script","_law_k","_law_boxes_here"]
 bD:Fi K mg "_law_reckoning" Zy ["_law_script","_law_k","_law_boxes_here"]
 bV:Fi K mg "_law_weights" vV ["_law_script","_law_k","_law_size"]
 cL:Fi K mg "_law_plain" Vc ["_law_script","_law_k","_law_boxes_here"]
 bI:Fi K mg "_law_deed" Uc ["_law_script","_law_k","_law_boxes_here","_law_nested","_law_stop"]
 d5:Fi K mg "_law_hand" Ud ["_law_script","_law_k","_law_boxes_here","_law_nested","_law_stop"]
 bK:Fi K mg "_law_block" Vd ["_law_script","_law_k","_law_boxes_here","_law_nested","_law_stop"]
 dw:Fi K mg "_law_top" Tl ["_law_script","_law_boxes_here","_law_nested","_law_stop"]
 cM:Fi K mg "_law_inner" Ve ["_law_deed_here"]
 bP:Fi K mg "_law_length" Wc ["_law_block_here"]
 bz:Fi K mg "_law_words" YD ["_law_some"]
 aB:Fi K mg "_law_rows" Ue ["_law_block_here"]
 bh:Fi K mg "_law_nested_rows" vI ["_law_deed_here"]
 bN:Fi K mg "_law_all_rows" vt ["_law_boxes_here","_law_block_here"]
 cx:Fi K mg "_law_free" Yc ["_law_boxes_here"]
 bM:Fi K mg "_law_bad_rows" wq ["_law_script","_law_boxes_here","_law_block_here"]
 bF:Fi K mg "_law_bad_boxes" wO ["_law_script","_law_boxes_here"]
 bX:Fi K mg "_law_refused" Xn ["_law_text"]
 gF:Fi K mg "law" zk3 ["_law_script"]
 fQ:mg "ValueError"=jr
 iz:mg "all"=jr
 jI:mg "bool"=jr
 jH:mg "dict"=jr
 jt:mg "int"=jr
 bJ:mg "isinstance"=jr
 aN:mg "len"=jr
 jG:mg "list"=jr
 iy:mg "max"=jr
 kJ:mg "min"=jr
 ez:mg "range"=jr
 hV:mg "repr"=jr
 kI:mg "set"=jr
 iq:mg "str"=jr
 iX:mg "sum"=jr
 cC:mg "tuple"=jr
 aL:qY
 gC:mg "LotsError"=iJ (.ref aL)
 cU:Xb K mg "LotsError" aL [.type "ValueError",.type "Exception",.type "BaseException",.type "object"] "ValueError.__new__"
 gE:XD K aL
 cu:y0 K (.ref aL)=iJ (.type "type")
 bY:ux K aL (.type "BaseException")=iJ jD
 cV:ux K aL (.type "ValueError")=iJ jD
 aJ:qY
 hZ:mg "NoNumber"=iJ (.ref aJ)
 dh:Xb K mg "NoNumber" aJ [.type "ValueError",.type "Exception",.type "BaseException",.type "object"] "ValueError.__new__"
 i6:XD K aJ
 cP:y0 K (.ref aJ)=iJ (.type "type")
 cS:ux K aJ (.type "BaseException")=iJ jD
 dm:ux K aJ (.type "ValueError")=iJ jD
 bj:qY
 iY:mg "NoText"=iJ (.ref bj)
 eK:Xb K mg "NoText" bj [.type "ValueError",.type "Exception",.type "BaseException",.type "object"] "ValueError.__new__"
 iZ:XD K bj
 dY:y0 K (.ref bj)=iJ (.type "type")
 ef:ux K bj (.type "BaseException")=iJ jD
 eL:ux K bj (.type "ValueError")=iJ jD
 ak:qY
 gy:mg "NoProgram"=iJ (.ref ak)
 ck:Xb K mg "NoProgram" ak [.type "ValueError",.type "Exception",.type "BaseException",.type "object"] "ValueError.__new__"
 cX:XD K ak
 cq:y0 K (.ref ak)=iJ (.type "type")
 cy:ux K ak (.type "BaseException")=iJ jD
 cm:ux K ak (.type "ValueError")=iJ jD
 aR:qY
 iC:mg "NoBound"=iJ (.ref aR)
 dU:Xb K mg "NoBound" aR [.type "ValueError",.type "Exception",.type "BaseException",.type "object"] "ValueError.__new__"
 iG:XD K aR
 d9:y0 K (.ref aR)=iJ (.type "type")
 de:ux K aR (.type "BaseException")=iJ jD
 dX:ux K aR (.type "ValueError")=iJ jD
 aQ:qY
 iB:mg "TooMany"=iJ (.ref aQ)
 dS:Xb K mg "TooMany" aQ [.type "ValueError",.type "Exception",.type "BaseException",.type "object"] "ValueError.__new__"
 iF:XD K aQ
 d8:y0 K (.ref aQ)=iJ (.type "type")
 dc:ux K aQ (.type "BaseException")=iJ jD
 dW:ux K aQ (.type "ValueError")=iJ jD
 aK:qY
 i3:mg "HandLeft"=iJ (.ref aK)
 di:Xb K mg "HandLeft" aK [.type "ValueError",.type "Exception",.type "BaseException",.type "object"] "ValueError.__new__"
 i7:XD K aK
 cQ:y0 K (.ref aK)=iJ (.type "type")
 cT:ux K aK (.type "BaseException")=iJ jD
 dq:ux K aK (.type "ValueError")=iJ jD
 aI:qY
 hX:mg "NoneKept"=iJ (.ref aI)
 df:Xb K mg "NoneKept" aI [.type "ValueError",.type "Exception",.type "BaseException",.type "object"] "ValueError.__new__"
 i5:XD K aI
 cO:y0 K (.ref aI)=iJ (.type "type")
 cR:ux K aI (.type "BaseException")=iJ jD
 dj:ux K aI (.type "ValueError")=iJ jD
 c5:qY
 jJ:mg "Rows"=iJ (.ref c5)
 aM:Cls K c5
 aF:uC K mainGlobals "Rows"=iJ (iJ (.ref c5))
 b8:Yj K c5 "rows"
 aS:Yj K c5 "place"
 bq:Mi K c5 "__init__" "Rows.__init__" vq ["self","text"]
 ju:Mk K c5 bq.a
 ai:Mi K c5 "first_word" "Rows.first_word" vT ["self"]
 aT:Mi K c5 "taken" "Rows.taken" WX ["self"]
 ah:Mi K c5 "take_alone" "Rows.take_alone" vU ["self","word"]
 bZ:uC K mainGlobals "NoProgram"=iJ (iJ (.ref ak))
 aD:ux K ak (.ref aL)=iJ jD
 aw:ux K ak (.ref aJ)=iJ nW
 aH:ux K ak (.ref bj)=iJ nW
 af:ux K ak (.ref ak)=iJ jD
 aA:ux K ak (.ref aR)=iJ nW
 ay:ux K ak (.ref aQ)=iJ nW
 ax:ux K ak (.ref aK)=iJ nW
 av:ux K ak (.ref aI)=iJ nW
 iD:∃t,mg "LETTERS"=iJ (.str "abcdefghijklmnopqrstuvwxyz" t)
 eX:∃t,mg "MOST_LETTERS"=iJ (.int 8 t)
 iE:∃t,mg "FIGURES"=iJ (.str "0123456789" t)
 eY:∃t,mg "MOST_FIGURES"=iJ (.int 9 t)
 aC:qY
 dB:mg "RECKONING_SIGNS"=iJ (.ref aC)
 dC:∀H,SqT K H aC [.str "+",.str "-",.str "*"]
 bA:qY
 fR:mg "TEST_SIGNS"=iJ (.ref bA)
 fV:∀H,SqT K H bA [.str "=",.str "<",.str "#"]
 aU:qY
 dG:mg "BLOCK_KINDS"=iJ (.ref aU)
 dI:∀H,SqT K H aU [.str "if",.str "while",.str "times",.str "hand"]
 fT:∃t,mg "MOST_BOXES"=iJ (.int 9 t)
 gA:∃t,mg "MOST_SIZE"=iJ (.int 9 t)
 fg:∃t,mg "MOST_STATES"=iJ (.int 1000 t)
 dF:∃t,mg "MOST_NUMBER"=iJ (.int 999999999 t)
 fS:∃t,mg "MOST_TURNS"=iJ (.int 60 t)
 eJ:∃t,mg "FEWEST_BLOCKS"=iJ (.int 2 t)
 fi:∃t,mg "MOST_BLOCKS"=iJ (.int 8 t)
 dE:∃t,mg "MOST_WITHIN"=iJ (.int 12 t)
 fh:∃t,mg "MOST_LENGTH"=iJ (.int 100 t)
local macro_rules | `(tactic| walk_at "q1") => `(tactic| first | exact .inl rfl | exact .inr rfl | assumption)
local macro_rules | `(tactic| walk_at "q2") => `(tactic| ((try simp only [Nat.add_eq]); omega))
local macro_rules|`(tactic|walk_at "q3")=>do
 let a<-("zd1 zj3 zmm zfb zmk zml zd0 zj2".splitOn " ").toArray.mapM fun n=>`(tacticSeq|with_reducible exact $(Lean.mkIdent (.mkSimple n)))
 `(tactic|first $[| $a]*)
def zT1(b:Lean.Term)(i:Nat):Lean.Term:=⟨if i=0 then b.raw[1][0] else b.raw[1][2][2*(i-1)]⟩
def zT2(f:Lean.Name)(n:Nat)(l:Array Lean.Term):Lean.MacroM Lean.Term:=do
 let h<-`(_)
 let g:Lean.Term:=Lean.mkIdent f
 let e<-`(@$(Lean.mkIdent f))
 return Lean.Syntax.mkApp (if n=0 then g else e) (Array.replicate n h++l)
local macro_rules|`($a \ $b)=>do
 let m n:Lean.Term:=Lean.mkIdent (a.raw.getId++n)
 if b.raw.isOfKind ``Lean.Parser.Term.tuple then zT2 `zlX 0 #[zT1 b 0,zT1 b 1,Lean.mkIdent `rfl,m `m,m `F.kp,m `b,<-`(.nil),zT1 b 2,zT1 b 3] else zT2 `yk 5 #[a,b,<-`(by walk_at "q3")]
local macro_rules|`($a <|> $b)=>zT2 `zjn 5 #[a,b]
local macro_rules|`(¬$a)=>zT2 `zlR 3 #[a]
local macro_rules|`(!$a)=>zT2 `zoa 4 #[a]
local macro_rules|`(~~~$a)=>zT2 `zoo 5 #[a]
local macro_rules|`($r % $b)=>do if b.raw.isOfKind ``Lean.Parser.Term.tuple then zT2 `zqb 7 #[r,zT1 b 0,zT1 b 1,<-`(fun _ _=>rfl)] else Lean.Macro.throwUnsupported
local macro_rules|`(tactic|walk_at "re")=>do
 let g(s:String):=(s.splitOn " ").toArray.map fun n=>Lean.mkIdent (.mkSimple n)
 let a<-(g "zp zt zG xn wn yl xG xC yF va xS zgA Xe zbd we zcQ zhz zaL WN vQ Tg zb7 zaM zhB zd9 zd6 zkd zd5 zqx WP zj7 znJ zkf ZC zb2 YT zoE zoK znK zoJ zmp TF zfd zki zhy zb1 VL zkk ziL zqv zkq Wu zgz zkw zhE zj9 zgE zhx zfl TJ zej zhW zhX zfD zoO zpf zkp zko zgC zqw zh1 zgG zpg zhY zqp zkm zkl zke zmR zhK zj8 zfn zkS zqq zdv zi0 zhL zoP zhH ziQ zmu zhT zfy zkj zoH zhG zkb zkc zoI zhA zkn").mapM fun i=>`(tacticSeq|apply $i)
 let b<-(g "zgA zhz Tg zb7 zaM zhB WP YT zki zhy VL zkk zkq zhE zj9 zfl zhW zhX zfD zkp zko zh1 zgG zhY zkm zkl zhK zfn zkS zdv zhL zhH zfy zkj zhG zkc zhA zkn").mapM fun i=>`(tacticSeq|exact $i)
 let c<-(g "zb2 zej zkb").mapM fun i=>`(tacticSeq|apply $i)
 `(tactic|repeat first|(with_reducible first $[| $a]*)|exact rfl|exact Nat.le_of_ble_eq_true rfl $[| $b]* $[| $c]*)
local macro_rules|`($s ^^^ $b)=>do
 if b.raw.isOfKind ``Lean.Parser.Term.tuple==false then Lean.Macro.throwUnsupported
 let h<-`(_)
 zT2 `zog 2 #[zT1 b 0,h,h,h,h,Lean.mkIdent (s.raw.getId++`nd),Lean.mkIdent `rfl,zT1 b 1,zT1 b 2,<-`(by rfl),<-`(by walk_at "q1")]
noncomputable def XJ(fu:Nat):TwS:=zJ (zcP (eUn (zgH "int") (za 0)) (eB (Xd (bE (eUn (zgH "bool") (za 0))))))
noncomputable def Uh(fu:Nat):TwF:=zN 1 0 (XJ fu)
theorem zfG(T:Tx K mg):yh P w K mg base (CXE P w) 1 T.dv.a T.dv.fd ["thing"] (sTw K 1 (Uh fu)):=
 T.dv.F.okE zfE (λvs H Q E h=>h.1) (λaP A outer s H vs Q E hr h=>⟨_,¬(!zaB (zx (Wq (K:=K)) rfl T.bJ boot_isinstance (yk (pv 0) (yk (zbx (v:= .ty "int") rfl T.jt boot_int rfl) zb))) (zaA (zjm (zx (Wq (K:=K)) rfl T.bJ boot_isinstance (yk (pv 0) (yk (zbx (v:= .ty "bool") rfl T.jI boot_bool rfl) zb)))))),yb (n:=1) (k:=0) (b:=XJ fu) rfl (by unfold XJ;walk_at "re") h⟩)
noncomputable def vh(fu:Nat):TwS:=zJ (eFn zb6 [xu [jr,iJ 1] (iS (za 0)) (gN 0) xF (eOp ziY (za 0) (za 1))])
noncomputable def ZI(fu:Nat):TwF:=zN 2 0 (vh fu)
theorem UX(T:Tx K mg):yh P w K mg base (CXE P w) 1 T.c4.a T.c4.fd ["text","signs"] (sTw K 2 (ZI fu)):=
 T.c4.F.okE zcV (λvs H Q E h=>h.1) (λaP A outer s H vs Q E hr h=>⟨_,¬(!zx (Ws (K:=K) rfl) rfl T.iz PyProof.Rows.Boot.«all» (yk (xN (N':=["sign","signs"]) rfl (blk (osc:=zg Yz) rfl (by decide+kernel)) (xi (Ux (i:=1) rfl rfl xh)) (zgN (pv 0)) (yw rfl) (λC s₀ H₀ fp=>zO (i:=0) (show(["sign","signs"]:pR Str).Nodup from by decide+kernel) rfl (uy rfl)) (λC s₀ H₀ fp=>xm) (λC s₀ H₀ fp=>(zby zir (pv 0) (pv 1) (by rfl)))) zb)),yb (n:=2) (k:=0) (b:=vh fu) rfl (by unfold vh;walk_at "re") h⟩)
noncomputable def Vh(fu:Nat):TwS:=zJ (zcP (Th (λi j=>decide (i<=j)) (λi j=>decide (i<=j)) (q8 1) (eFn VJ [za 0]) (q8 8)) (zf (ZI fu) [za 0,tL "abcdefghijklmnopqrstuvwxyz"]))
noncomputable def Xo(fu:Nat):TwF:=zN 1 0 (Vh fu)
theorem zcm(T:Tx K mg):yh P w K mg base (CXE P w) 2 T.da.a T.da.fd ["text"] (sTw K 1 (Xo fu)):=
 T.da.F.okE zgW (λvs H Q E h=>h.1) (λaP A outer s H vs Q E hr h=>⟨_,¬(!zaB (zeR za9 za9 zc (zx Yw rfl T.aN boot_len (pv 0\zb)) (match T.eX with|⟨t,h⟩=>yE (v:= .int 8) rfl h ⟨t,rfl⟩)) (zaA (T.c4\(UX (fu:=fu) T,hr.mono ∅,zm,pv 0\(match T.iD with|⟨t,h⟩=>yE (v:= .str "abcdefghijklmnopqrstuvwxyz") rfl h ⟨t,rfl⟩\zb))))),yb (n:=1) (k:=0) (b:=Vh fu) rfl (by unfold Vh;walk_at "re") h⟩)
noncomputable def YF(fu:Nat):TwS:=zo (sIf (bOr (Xd (bE (Th (λi j=>decide (i<=j)) (λi j=>decide (i<=j)) (q8 1) (eFn VJ [za 0]) (q8 9)))) (Xd (bE (zf (ZI fu) [za 0,tL "0123456789"])))) (zJ (eC (.bl nW))) zF) (zJ (eOr (eOp (yz jD) (eOp zb0 (za 0) (q8 0)) (tL "0")) (eOp (yz nW) (za 0) (tL "0"))))
noncomputable def YG(fu:Nat):TwF:=zN 1 0 (YF fu)
theorem zae(T:Tx K mg):yh P w K mg base (CXE P w) 2 T.cw.a T.cw.fd ["text"] (sTw K 1 (YG fu)):=
 T.cw.F.okE zem (λvs H Q E h=>h.1) (λaP A outer s H vs Q E hr h=>⟨_,(zM (PW.pt (UO (vO (zeS za9 za9 zc (zx Yw rfl T.aN boot_len (pv 0\zb)) (match T.eY with|⟨t,h⟩=>yE (v:= .int 9) rfl h ⟨t,rfl⟩))) (XS (vO (vG (T.c4\(UX (fu:=fu) T,hr.mono ∅,zm,pv 0\(match T.iE with|⟨t,h⟩=>yE (v:= .str "0123456789") rfl h ⟨t,rfl⟩\zb)))))))) (¬(!XA)) zu<|>¬(!zpU (zby zjx (zdP%(pv 0,zc)) ze (by rfl)) (zaA (zby xc (pv 0) ze (by rfl))))),yb (n:=1) (k:=0) (b:=YF fu) rfl (by unfold YF;walk_at "re") h⟩)
noncomputable def YH(fu:Nat):TwS:=zo (sIf (bE (eOp (yz nW) (eOp zS (za 0) (q8 0)) (tL "if"))) (zJ (yS [eOp zS (za 0) (q8 2),eOp zS (za 0) (q8 3)])) zF) (zo (sIf (bOr (bE (eOp (yz nW) (eOp zS (za 0) (q8 0)) (tL "while"))) (bE (eOp (yz nW) (eOp zS (za 0) (q8 0)) (tL "times")))) (zJ (yS [eOp zS (za 0) (q8 2)])) zF) (zo (sIf (bE (eOp (yz nW) (eOp zS (za 0) (q8 0)) (tL "hand"))) (zJ (eOp zS (za 0) (q8 1))) zF) (zJ (yS []))))
noncomputable def wQ(fu:Nat):TwF:=zN 1 0 (YH fu)
theorem Vi(T:Tx K mg):yh P w K mg base (CXE P w) 1 T.bU.a T.bU.fd ["deed"] (sTw K 1 (wQ fu)):=
 T.bU.F.okE zen (λvs H Q E h=>h.1) (λaP A outer s H vs Q E hr h=>⟨_,(zM (zU xc (zA (K:=K)%(pv 0,zc)) ze (by rfl)) (¬(!(~~~((zA (K:=K)%(pv 0,zc))\((zA (K:=K)%(pv 0,zc))\zb))))) zu<|>zM (PW.pt (UO (zU xc (zA (K:=K)%(pv 0,zc)) ze (by rfl)) (XS (zU xc (zA (K:=K)%(pv 0,zc)) ze (by rfl))))) (¬(!(~~~((zA (K:=K)%(pv 0,zc))\zb)))) zu<|>zM (zU xc (zA (K:=K)%(pv 0,zc)) ze (by rfl)) (¬(!(zA (K:=K)%(pv 0,zc)))) zu<|>¬(!(~~~zb))),yb (n:=1) (k:=0) (b:=YH fu) rfl (by unfold YH;walk_at "re") h⟩)
noncomputable def vW(fu:Nat)(gx:TwF)(fe:TwF):TwS:=zJ (eFn zgF [xu [jr] (iT (za 0)) (gN 0) xF (zf fe [za 0])])
noncomputable def wL(fu:Nat)(gx:TwF)(fe:TwF):TwS:=zo (zH (eFn zgF [xu [jr] (iT (zf (wQ fu) [za 0])) (gN 0) xF (zf gx [za 0])]) (gN 1)) (zo (sIf (bE (eOp (yz nW) (eOp zS (za 0) (q8 0)) (tL "times"))) (zJ (eOp xk (q8 1) (eOp Wv (eFn zfh [eOp zS (za 0) (q8 1),q8 1]) (eOp xk (q8 1) (za 1))))) zF) (zJ (eOp xk (q8 1) (za 1))))
mutual
noncomputable def yc(fu:Nat):Nat->TwF
 |0=>λ_ _=>jr
 |n+1=>zN 1 0 (vW fu (yc fu n) (yj fu n))
noncomputable def yj(fu:Nat):Nat->TwF
 |0=>λ_ _=>jr
 |n+1=>zN 1 1 (wL fu (yc fu n) (yj fu n))
end
theorem XL(fu n:Nat):yc fu (n+1)=zN 1 0 (vW fu (yc fu n) (yj fu n)):=by rw[yc]
theorem zaf(fu:Nat):yc fu 0=λ_ _=>jr:=by rw[yc]
theorem Yt(fu n:Nat):yj fu (n+1)=zN 1 1 (wL fu (yc fu n) (yj fu n)):=by rw[yj]
theorem UL(fu:Nat):yj fu 0=λ_ _=>jr:=by rw[yj]
theorem zc2(T:Tx K mg):∀n:Nat,yh P w K mg base (CXE P w) (1+n) T.bH.a T.bH.fd ["block"] (sTw K 1 (yc fu n))/\yh P w K mg base (CXE P w) (1+n) T.cj.a T.cj.fd ["deed"] (sTw K 1 (yj fu n)):=by
 intro n
 induction n with
 |zero=>
  refine⟨?_,?_⟩
  .rw[zaf];exact wf
  .rw[UL];exact wf
 |succ n ih=>
  refine⟨?_,?_⟩
  .rw[XL];exact T.bH.F.okE zeo (λvs H Q E h=>h.1) (λaP A outer s H vs Q E hr h=>⟨_,¬(!zx (zaJ (K:=K) rfl) rfl T.iX PyProof.Rows.Boot.«sum» (yk (xN (N':=["deed"]) rfl (blk (osc:=zg XG) rfl (by decide+kernel)) (xi xh) (wA (K:=K) (pv 0)) (yw rfl) (λC s₀ H₀ fp=>zO (i:=0) (show(["deed"]:pR Str).Nodup from by decide+kernel) rfl (uy rfl)) (λC s₀ H₀ fp=>xm) (λC s₀ H₀ fp=>(T.cj\(ih.2,hr.mono (by walk_at "q2"),US,pv 0\zb)))) zb)),yb (n:=1) (k:=0) (b:=vW fu (yc fu n) (yj fu n)) rfl (by unfold vW;walk_at "re") h⟩)
  .rw[Yt];exact T.cj.F.okE Uf (λvs H Q E h=>h.1) (λaP A outer s H vs Q E hr h=>⟨_,((Uf^^^(1,uy rfl,zx (zaJ (K:=K) rfl) rfl T.iX PyProof.Rows.Boot.«sum» (yk (xN (N':=["block"]) rfl (blk (osc:=zg ZE) rfl (by decide+kernel)) (xi xh) (wA (K:=K) (T.bU\(Vi (fu:=fu) T,hr.mono (by walk_at "q2"),zm,pv 0\zb))) (yw rfl) (λC s₀ H₀ fp=>zO (i:=0) (show(["block"]:pR Str).Nodup from by decide+kernel) rfl (uy rfl)) (λC s₀ H₀ fp=>xm) (λC s₀ H₀ fp=>(T.bH\(ih.1,hr.mono (by walk_at "q2"),US,pv 0\zb)))) zb)))<|>zM (zU xc (zA (K:=K)%(pv 0,zc)) ze (by rfl)) (¬(!zq yv zc (zq WK (zx (zaE rfl) rfl T.iy boot_max ((zA (K:=K)%(pv 0,zc))\(zc\zb))) (zq yv zc (pv 1))))) zu<|>¬(!zq yv zc (pv 1))),yb (n:=1) (k:=1) (b:=wL fu (yc fu n) (yj fu n)) rfl (by unfold wL;walk_at "re") h⟩)
theorem zer(T:Tx K mg)(n:Nat):yh P w K mg base (CXE P w) (1+n) T.bH.a T.bH.fd ["block"] (sTw K 1 (yc fu n)):=(zc2 T n).1
noncomputable def wu(fu:Nat)(gO:TwF):TwS:=zo (zH (yM []) (gN 1)) (zo (UK (iT (za 0)) (gN 2) (zo (yY (eMt yn (za 1) [za 2])) (UK (iT (zf (wQ fu) [za 2])) (gN 3) (yY (eMt TH (za 1) [zf gO [za 3]]))))) (zJ (za 1)))
noncomputable def zR(fu:Nat):Nat->TwF
 |0=>λ_ _=>jr
 |n+1=>zN 1 3 (wu fu (zR fu n))
theorem Ye(fu n:Nat):zR fu (n+1)=zN 1 3 (wu fu (zR fu n)):=by rfl
theorem Ui(fu:Nat):zR fu 0=λ_ _=>jr:=by rfl
theorem zaX(T:Tx K mg):∀n:Nat,yh P w K mg base (CXE P w) (1+n) T.aW.a T.aW.fd ["block"] (sTw K 1 (zR fu n)):=by
 intro n
 induction n with
 |zero=>
  skip
  .rw[Ui];exact wf
 |succ n ih=>
  .rw[Ye];exact T.aW.F.okE vv (λvs H Q E h=>h.1) (λaP A outer s H vs Q E hr h=>⟨_,((vv^^^(1,uy rfl,@zV _ _ _ _ zb))<|>XU PassesOwn.leaving rfl (wA (K:=K) (pv 0)) (zO (i:=2) vv.nd rfl (uy rfl)) (yU (wI uP uS uT yN (pv 1) (pv 2\zb))<|>¬XU PassesOwn.leaving rfl (wA (K:=K) (T.bU\(Vi (fu:=fu) T,hr.mono (by walk_at "q2"),zm,pv 2\zb))) (zO (i:=3) vv.nd rfl (uy rfl)) (¬yU (wI uP PySem.F.slot_list_extend PySem.F.type_list_extend (zgx (K:=K)) (pv 1) ((T.aW\(ih,hr.mono (by walk_at "q2"),zm,pv 3\zb))\zb))))<|>¬(!pv 1)),yb (n:=1) (k:=3) (b:=wu fu (zR fu n)) rfl (by unfold wu;walk_at "re") h⟩)
theorem zbs(T:Tx K mg)(n:Nat):yh P w K mg base (CXE P w) (1+n) T.aW.a T.aW.fd ["block"] (sTw K 1 (zR fu n)):=(zaX T n)
noncomputable def ZJ(fu:Nat):TwS:=zJ (zcP (zf (Uh fu) [za 0]) (Th (λi j=>decide (i<=j)) (λi j=>decide (i<=j)) (za 1) (za 0) (za 2)))
noncomputable def xT(fu:Nat):TwF:=zN 3 0 (ZJ fu)
theorem ZK(T:Tx K mg):yh P w K mg base (CXE P w) 2 T.bu.a T.bu.fd ["number","least","most"] (sTw K 3 (xT fu)):=
 T.bu.F.okE zcW (λvs H Q E h=>h.1) (λaP A outer s H vs Q E hr h=>⟨_,¬(!zaB (T.dv\(zfG (fu:=fu) T,hr.mono ∅,zm,pv 0\zb)) (zaA (zeR za9 za9 (pv 1) (pv 0) (pv 2)))),yb (n:=3) (k:=0) (b:=ZJ fu) rfl (by unfold ZJ;walk_at "re") h⟩)
noncomputable def YI(fu:Nat):TwS:=zo (zH (xu [jr] (iT (za 0)) (gN 0) xF (eOp zS (za 0) (q8 0))) (gN 1)) (zo (sIf (bOr (bE (eOp dGt (eFn xO [za 1]) (q8 9))) (bE (eOp zd7 (eUn TX (za 1)) (eFn xO [za 1])))) (zJ (eC (.bl nW))) zF) (zo (sIf (Xd (bE (eFn zb6 [xu [jr] (iL (za 1)) (gN 0) xF (zf (Xo fu) [za 0])]))) (zJ (eC (.bl nW))) zF) (zo (zH (q8 1) (gN 2)) (zo (UK (iT (za 0)) (gT 2 (xf (gN 3) (xf (gN 4) XF))) (zo (sIf (Xd (bE (zf (xT fu) [za 4,q8 1,q8 9]))) (zJ (eC (.bl nW))) zF) (zH (eOp Wv (za 2) (za 4)) (gN 2)))) (zJ (eOp dLe (za 2) (q8 1000)))))))
noncomputable def Vj(fu:Nat):TwF:=zN 1 4 (YI fu)
theorem zes(T:Tx K mg):yh P w K mg base (CXE P w) 3 T.d3.a T.d3.fd ["boxes"] (sTw K 1 (Vj fu)):=
 T.d3.F.okE wP (λvs H Q E h=>h.1) (λaP A outer s H vs Q E hr h=>⟨_,(Tc (i:=1) (N':=["box"]) rfl (blk (osc:=zg Yb) rfl (by decide+kernel)) (xi xh) (wA (K:=K) (pv 0)) (yw rfl) (λC s₀ H₀ fp=>zO (i:=0) (show(["box"]:pR Str).Nodup from by decide+kernel) rfl (uy rfl)) (λC s₀ H₀ fp=>xm) (λC s₀ H₀ fp=>(zA (K:=K)%(pv 0,zc))) wP.nd rfl rfl<|>zM (PW.pt (UO (zW (ZX (zx (zP (K:=K)) rfl T.aN boot_len (pv 1\zb)) (match T.fT with|⟨t,h⟩=>yE (v:= .int 9) rfl h ⟨t,rfl⟩))) (XS (zW (zay (ziW (K:=K) rfl rfl T.aN rfl T.kI (pv 1)) (zx (zP (K:=K)) rfl T.aN boot_len (pv 1\zb))))))) (¬(!XA)) zu<|>zM (vO (vG (zx (Ws (K:=K) rfl) rfl T.iz PyProof.Rows.Boot.«all» (yk (xN (N':=["name"]) rfl (blk (osc:=zg Yb) rfl (by decide+kernel)) (xi xh) (VH (K:=K) (pv 1)) (yw rfl) (λC s₀ H₀ fp=>zO (i:=0) (show(["name"]:pR Str).Nodup from by decide+kernel) rfl (uy rfl)) (λC s₀ H₀ fp=>xm) (λC s₀ H₀ fp=>(T.da\(zcm (fu:=fu) T,hr.mono ∅,US,pv 0\zb)))) zb)))) (¬(!XA)) zu<|>(wP^^^(2,uy rfl,zc))<|>XU PassesOwn.leaving rfl (wA (K:=K) (pv 0)) (Yx (K:=K) (n:=2) rfl (yV (zO (i:=3) wP.nd rfl (uy rfl)) (yV (zO (i:=4) wP.nd rfl (uy rfl)) Yv))) (zM (vO (vG (T.bu\(ZK (fu:=fu) T,hr.mono ∅,zm,pv 4\(zc\(match T.gA with|⟨t,h⟩=>yE (v:= .int 9) rfl h ⟨t,rfl⟩\zb)))))) (¬(!XA)) zu<|>¬(wP^^^(2,uy rfl,zq WK (pv 2) (pv 4))))<|>¬(!Ta (zjl (pv 2) (match T.fg with|⟨t,h⟩=>yE (v:= .int 1000) rfl h ⟨t,rfl⟩)))),yb (n:=1) (k:=4) (b:=YI fu) rfl (by unfold YI;walk_at "re") h⟩)
noncomputable def vy(fu:Nat):TwS:=zo (sIf (bE (eUn (zgH "str") (za 1))) (zJ (ziP nW (za 1) (za 0))) zF) (zJ (zf (xT fu) [za 1,q8 0,q8 999999999]))
noncomputable def vz(fu:Nat):TwF:=zN 2 0 (vy fu)
theorem zbt(T:Tx K mg):yh P w K mg base (CXE P w) 3 T.bS.a T.bS.fd ["sizes","operand"] (sTw K 2 (vz fu)):=
 T.bS.F.okE zbq (λvs H Q E h=>h.1) (λaP A outer s H vs Q E hr h=>⟨_,(zM (vG (zx (Wq (K:=K)) rfl T.bJ boot_isinstance (yk (pv 1) (yk (zbx (v:= .ty "str") rfl T.iq boot_str rfl) zb)))) (¬(!Ta (zox (zjK hr) (pv 1) (pv 0)))) zu<|>¬(!(T.bu\(ZK (fu:=fu) T,hr.mono ∅,zm,pv 1\(zc\(match T.dF with|⟨t,h⟩=>yE (v:= .int 999999999) rfl h ⟨t,rfl⟩\zb)))))),yb (n:=2) (k:=0) (b:=vy fu) rfl (by unfold vy;walk_at "re") h⟩)
noncomputable def vX(fu:Nat):TwS:=zo (sIf (bE (eOp (yz nW) (eOp zS (za 0) (q8 0)) (tL "set"))) (zJ (eUn ziZ (eOp zS (za 0) (q8 2)))) zF) (zo (sIf (bE (eOp (dIn nW) (eOp zS (za 0) (q8 0)) (yS [tL "look",tL "if",tL "while"]))) (zJ (eUn ziZ (eOp zS (za 0) (q8 1)))) zF) (zo (sIf (bE (eOp (yz nW) (eOp zS (za 0) (q8 0)) (tL "gain"))) (zJ (yS [eOp zS (za 0) (q8 1)])) zF) (zJ (yS []))))
noncomputable def vY(fu:Nat):TwF:=zN 1 0 (vX fu)
theorem zcn(T:Tx K mg):yh P w K mg base (CXE P w) 1 T.cf.a T.cf.fd ["deed"] (sTw K 1 (vY fu)):=
 T.cf.F.okE zci (λvs H Q E h=>h.1) (λaP A outer s H vs Q E hr h=>⟨_,(zM (zU xc (zA (K:=K)%(pv 0,zc)) ze (by rfl)) (¬(!zkH (K:=K) (zA (K:=K)%(pv 0,zc)))) zu<|>zM (zU (zj1 (K:=K)) (zA (K:=K)%(pv 0,zc)) (~~~(ze\(ze\(ze\zb)))) (by rfl)) (¬(!zkH (K:=K) (zA (K:=K)%(pv 0,zc)))) zu<|>zM (zU xc (zA (K:=K)%(pv 0,zc)) ze (by rfl)) (¬(!(~~~((zA (K:=K)%(pv 0,zc))\zb)))) zu<|>¬(!(~~~zb))),yb (n:=1) (k:=0) (b:=vX fu) rfl (by unfold vX;walk_at "re") h⟩)
noncomputable def vZ(fu:Nat):TwS:=zo (sIf (bOr (bE (eOp zd7 (eFn xO [za 0]) (za 1))) (Xd (bE (eFn zb6 [xu [jr] (iT (za 0)) (gN 0) xF (zf (xT fu) [za 0,q8 0,q8 999999999])])))) (zJ (eC (.bl nW))) zF) (zJ (eOp dGt (eFn zfj [za 0]) (q8 0)))
noncomputable def Za(fu:Nat):TwF:=zN 2 0 (vZ fu)
theorem zco(T:Tx K mg):yh P w K mg base (CXE P w) 3 T.cb.a T.cb.fd ["weights","size"] (sTw K 2 (Za fu)):=
 T.cb.F.okE zch (λvs H Q E h=>h.1) (λaP A outer s H vs Q E hr h=>⟨_,(zM (PW.pt (UO (zW (zay (zx (zP (K:=K)) rfl T.aN boot_len (pv 0\zb)) (pv 1))) (XS (vO (vG (zx (Ws (K:=K) rfl) rfl T.iz PyProof.Rows.Boot.«all» (yk (xN (N':=["weight"]) rfl (blk (osc:=zg ZF) rfl (by decide+kernel)) (xi xh) (wA (K:=K) (pv 0)) (yw rfl) (λC s₀ H₀ fp=>zO (i:=0) (show(["weight"]:pR Str).Nodup from by decide+kernel) rfl (uy rfl)) (λC s₀ H₀ fp=>xm) (λC s₀ H₀ fp=>(T.bu\(ZK (fu:=fu) T,hr.mono ∅,US,pv 0\(zc\(match T.dF with|⟨t,h⟩=>yE (v:= .int 999999999) rfl h ⟨t,rfl⟩\zb)))))) zb))))))) (¬(!XA)) zu<|>¬(!Ta (ZX (zx (zgv (K:=K) rfl) rfl T.iX PyProof.Rows.Boot.«sum» (pv 0\zb)) zc))),yb (n:=2) (k:=0) (b:=vZ fu) rfl (by unfold vZ;walk_at "re") h⟩)
noncomputable def YJ(fu:Nat):TwS:=zo (zH (eOp zS (za 1) (q8 0)) (gN 2)) (zo (sIf (Wt (bE (eOp (dIn nW) (za 2) (yS [tL "set",tL "draw"]))) (bE (ziP jD (eOp zS (za 1) (q8 1)) (za 0)))) (zJ (eC (.bl nW))) zF) (zo (sIf (Wt (bE (eOp (yz nW) (za 2) (tL "draw"))) (Xd (bE (zf (Za fu) [eOp zS (za 1) (q8 2),zfo (za 0) (eOp zS (za 1) (q8 1))])))) (zJ (eC (.bl nW))) zF) (zo (sIf (Wt (bE (eOp (yz nW) (za 2) (tL "times"))) (Xd (bE (zf (xT fu) [eOp zS (za 1) (q8 1),q8 0,q8 60])))) (zJ (eC (.bl nW))) zF) (zo (sIf (Wt (bE (eOp (yz nW) (za 2) (tL "hand"))) (Xd (bE (Th (λi j=>decide (i<=j)) (λi j=>decide (i<=j)) (q8 2) (eFn xO [eOp zS (za 1) (q8 1)]) (q8 8))))) (zJ (eC (.bl nW))) zF) (zJ (eFn zb6 [xu [jr,iJ 0] (iT (zf (vY fu) [za 1])) (gN 0) xF (zf (vz fu) [za 1,za 0])]))))))
noncomputable def Zb(fu:Nat):TwF:=zN 2 1 (YJ fu)
theorem zet(T:Tx K mg):yh P w K mg base (CXE P w) 4 T.cZ.a T.cZ.fd ["sizes","deed"] (sTw K 2 (Zb fu)):=
 T.cZ.F.okE TZ (λvs H Q E h=>h.1) (λaP A outer s H vs Q E hr h=>⟨_,((TZ^^^(2,uy rfl,zA (K:=K)%(pv 1,zc)))<|>zM (PW.pt (Yi (zU (zj1 (K:=K)) (pv 2) (~~~(ze\(ze\zb))) (by rfl)) (vp (zW (ziz (zjK hr) (zA (K:=K)%(pv 1,zc)) (pv 0)))))) (¬(!XA)) zu<|>zM (PW.pt (Yi (zU xc (pv 2) ze (by rfl)) (vp (vO (vG (T.cb\(zco (fu:=fu) T,hr.mono ∅,zm,(zA (K:=K)%(pv 1,zc))\(zl7 (zjK hr) (pv 0) (zA (K:=K)%(pv 1,zc)) (λ_ _=>rfl)\zb)))))))) (¬(!XA)) zu<|>zM (PW.pt (Yi (zU xc (pv 2) ze (by rfl)) (vp (vO (vG (T.bu\(ZK (fu:=fu) T,hr.mono ∅,zm,(zA (K:=K)%(pv 1,zc))\(zc\(match T.fS with|⟨t,h⟩=>yE (v:= .int 60) rfl h ⟨t,rfl⟩\zb))))))))) (¬(!XA)) zu<|>zM (PW.pt (Yi (zU xc (pv 2) ze (by rfl)) (vp (vO (zeS za9 za9 (match T.eJ with|⟨t,h⟩=>yE (v:= .int 2) rfl h ⟨t,rfl⟩) (zx (zP (K:=K)) rfl T.aN boot_len ((zA (K:=K)%(pv 1,zc))\zb)) (match T.fi with|⟨t,h⟩=>yE (v:= .int 8) rfl h ⟨t,rfl⟩)))))) (¬(!XA)) zu<|>¬(!zx (Ws (K:=K) rfl) rfl T.iz PyProof.Rows.Boot.«all» (yk (xN (N':=["operand","sizes"]) rfl (blk (osc:=zg XH) rfl (by decide+kernel)) (xi (Ux (i:=0) rfl rfl xh)) (wA (K:=K) (T.cf\(zcn (fu:=fu) T,hr.mono ∅,zm,pv 1\zb))) (yw rfl) (λC s₀ H₀ fp=>zO (i:=0) (show(["operand","sizes"]:pR Str).Nodup from by decide+kernel) rfl (uy rfl)) (λC s₀ H₀ fp=>xm) (λC s₀ H₀ fp=>(T.bS\(zbt (fu:=fu) T,hr.mono ∅,US,pv 1\(pv 0\zb))))) zb))),yb (n:=2) (k:=1) (b:=YJ fu) rfl (by unfold YJ;walk_at "re") h⟩)
noncomputable def Yf(fu:Nat)(gM:TwF)(fP:TwF):TwS:=zJ (eUn (zcf 0) (xu [jr] (iT (za 0)) (gN 0) xF (zf fP [za 0])))
noncomputable def ZL(fu:Nat)(gM:TwF)(fP:TwF):TwS:=zo (sIf (bE (eOp (dIn jD) (eOp zS (za 0) (q8 0)) (eC (.ct [.str "if",.str "while",.str "times",.str "hand"])))) (zJ (q8 0)) zF) (zJ (eOp xk (q8 1) (eUn (zcf 0) (xu [jr] (iT (zf (wQ fu) [za 0])) (gN 0) xF (zf gM [za 0])))))
mutual
noncomputable def ym(fu:Nat):Nat->TwF
 |0=>λ_ _=>jr
 |n+1=>zN 1 0 (Yf fu (ym fu n) (yr fu n))
noncomputable def yr(fu:Nat):Nat->TwF
 |0=>λ_ _=>jr
 |n+1=>zN 1 0 (ZL fu (ym fu n) (yr fu n))
end
theorem WB(fu n:Nat):ym fu (n+1)=zN 1 0 (Yf fu (ym fu n) (yr fu n)):=by rw[ym]
theorem zaY(fu:Nat):ym fu 0=λ_ _=>jr:=by rw[ym]
theorem Xp(fu n:Nat):yr fu (n+1)=zN 1 0 (ZL fu (ym fu n) (yr fu n)):=by rw[yr]
theorem To(fu:Nat):yr fu 0=λ_ _=>jr:=by rw[yr]
theorem zeu(T:Tx K mg):∀n:Nat,yh P w K mg base (CXE P w) (1+n) T.bT.a T.bT.fd ["block"] (sTw K 1 (ym fu n))/\yh P w K mg base (CXE P w) (1+n) T.cJ.a T.cJ.fd ["deed"] (sTw K 1 (yr fu n)):=by
 intro n
 induction n with
 |zero=>
  refine⟨?_,?_⟩
  .rw[zaY];exact wf
  .rw[To];exact wf
 |succ n ih=>
  refine⟨?_,?_⟩
  .rw[WB];exact T.bT.F.okE zfF (λvs H Q E h=>h.1) (λaP A outer s H vs Q E hr h=>⟨_,¬(!zhO (K:=K) rfl rfl T.iy (xN (N':=["deed"]) rfl (blk (osc:=zg WW) rfl (by decide+kernel)) (xi xh) (wA (K:=K) (pv 0)) (yw rfl) (λC s₀ H₀ fp=>zO (i:=0) (show(["deed"]:pR Str).Nodup from by decide+kernel) rfl (uy rfl)) (λC s₀ H₀ fp=>xm) (λC s₀ H₀ fp=>(T.cJ\(ih.2,hr.mono (by walk_at "q2"),US,pv 0\zb))))),yb (n:=1) (k:=0) (b:=Yf fu (ym fu n) (yr fu n)) rfl (by unfold Yf;walk_at "re") h⟩)
  .rw[Xp];exact T.cJ.F.okE zcX (λvs H Q E h=>h.1) (λaP A outer s H vs Q E hr h=>⟨_,(zM (zU (Wr (K:=K)) (zA (K:=K)%(pv 0,zc)) (yE (v:= .ref T.aU) rfl T.dG rfl) (by rfl)) (¬(!zc)) zu<|>¬(!zq yv zc (zhO (K:=K) rfl rfl T.iy (xN (N':=["block"]) rfl (blk (osc:=zg YB) rfl (by decide+kernel)) (xi xh) (wA (K:=K) (T.bU\(Vi (fu:=fu) T,hr.mono (by walk_at "q2"),zm,pv 0\zb))) (yw rfl) (λC s₀ H₀ fp=>zO (i:=0) (show(["block"]:pR Str).Nodup from by decide+kernel) rfl (uy rfl)) (λC s₀ H₀ fp=>xm) (λC s₀ H₀ fp=>(T.bT\(ih.1,hr.mono (by walk_at "q2"),US,pv 0\zb))))))),yb (n:=1) (k:=0) (b:=ZL fu (ym fu n) (yr fu n)) rfl (yl (Xe (vQ (wn zfl (wn zgA (zt 0) (xn _)) (zfc λj H=> .ct (λH=>T.dI H) (.cons (.str _) (.cons (.str _) (.cons (.str _) (.cons (.str _) .nil))))))) (xS (xn _)) we) (xS (wn Tg (xn _) (zhT (zd6 (cap:=[jr]) (zkf (yF (zp (zt 0) zG))) xC zd5 (yF (zp (zt 0) zG))))))) h⟩)
theorem zfH(T:Tx K mg)(n:Nat):yh P w K mg base (CXE P w) (1+n) T.bT.a T.bT.fd ["block"] (sTw K 1 (ym fu n)):=(zeu T n).1
noncomputable def vi(fu:Nat):TwS:=zo (zH (eOp zS (za 0) (q8 0)) (gN 1)) (zo (zH (eOp zS (za 0) (q8 1)) (gN 2)) (zo (sIf (Xd (bE (zf (Vj fu) [za 1]))) (zJ (eC (.bl nW))) zF) (zo (zH (eFn zeh [za 1]) (gN 3)) (zo (sIf (Xd (bE (eFn zb6 [xu [jr,iJ 3] (iL (zf (zR fu 20) [za 2])) (gN 0) xF (zf (Zb fu) [za 1,za 0])]))) (zJ (eC (.bl nW))) zF) (zJ (zcP (eOp dLe (zf (ym fu 40) [za 2]) (q8 12)) (eOp dLe (zf (yc fu 40) [za 2]) (q8 100))))))))
noncomputable def wx(fu:Nat):TwF:=zN 1 3 (vi fu)
theorem zc3(T:Tx K mg):yh P w K mg base (CXE P w) 42 T.cI.a T.cI.fd ["program"] (sTw K 1 (wx fu)):=
 T.cI.F.okE ZG (λvs H Q E h=>h.1) (λaP A outer s H vs Q E hr h=>⟨_,((ZG^^^(1,uy rfl,zA (K:=K)%(pv 0,zc)))<|>(ZG^^^(2,uy rfl,zA (K:=K)%(pv 0,zc)))<|>zM (vO (vG (T.d3\(zes (fu:=fu) T,hr.mono ∅,zm,pv 1\zb)))) (¬(!XA)) zu<|>(ZG^^^(3,DI rfl,yG (zgP rfl) rfl T.jH PyProof.Rows.Boot.«dict» (pv 1\zb)))<|>zM (vO (vG (zx (Ws (K:=K) rfl) rfl T.iz PyProof.Rows.Boot.«all» (yk (xN (N':=["deed","sizes"]) rfl (blk (osc:=zg YA) rfl (by decide+kernel)) (xi (Ux (i:=3) rfl rfl xh)) (VH (K:=K) (T.aW\(zbs (fu:=fu) T 20,hr.mono ∅,zm,pv 2\zb))) (yw rfl) (λC s₀ H₀ fp=>zO (i:=0) (show(["deed","sizes"]:pR Str).Nodup from by decide+kernel) rfl (uy rfl)) (λC s₀ H₀ fp=>xm) (λC s₀ H₀ fp=>(T.cZ\(zet (fu:=fu) T,hr.mono ∅,US,pv 1\(pv 0\zb))))) zb)))) (¬(!XA)) zu<|>¬(!zaB (Ta (zjl (T.bT\(zfH (fu:=fu) T 40,hr.mono ∅,zm,pv 2\zb)) (match T.dE with|⟨t,h⟩=>yE (v:= .int 12) rfl h ⟨t,rfl⟩))) (zaA (Ta (zjl (T.bH\(zer (fu:=fu) T 40,hr.mono ∅,zm,pv 2\zb)) (match T.fh with|⟨t,h⟩=>yE (v:= .int 100) rfl h ⟨t,rfl⟩)))))),yb (n:=1) (k:=3) (b:=vi fu) rfl (by unfold vi;walk_at "re") h⟩)
noncomputable def wR(fu:Nat):TwS:=zo (zfv "Rows" "rows" (za 0) (yM [])) (zo (sIf (bE (eOp (yz jD) (za 1) (tL ""))) (zfv "Rows" "rows" (za 0) (xu [jr] (iL (zaS Ti (za 1) [tL "\n"])) (gN 0) xF (zaS Ti (za 0) [tL " "]))) zF) (zfv "Rows" "place" (za 0) (q8 0)))
noncomputable def xZ(fu:Nat):TwF:=zN 2 0 (wR fu)
theorem zaZ(T:Tx K mg):yh P w K mg base (CXE P w) 1 T.bq.a T.bq.fd ["self","text"] (sTw K 2 (xZ fu)):=
 T.bq.F.okE zaW (λvs H Q E h=>h.1) (λaP A outer s H vs Q E hr h=>⟨_,(zgg (pv 0) (@zV _ _ _ _ zb) rfl<|>zM (zU zjx (pv 1) ze (by rfl)) (¬zgg (pv 0) (xN (N':=["row"]) rfl (blk (osc:=zg vq) rfl (by decide+kernel)) (xi xh) (VH (K:=K) (wI Ap D0 D1 zfz (pv 1) (ze\zb))) (yw rfl) (λC s₀ H₀ fp=>zO (i:=0) (show(["row"]:pR Str).Nodup from by decide+kernel) rfl (uy rfl)) (λC s₀ H₀ fp=>xm) (λC s₀ H₀ fp=>(wI Ap D0 D1 zfz (pv 0) (ze\zb)))) rfl) zu<|>¬zgg (pv 0) zc rfl),yb (n:=2) (k:=0) (b:=wR fu) rfl (yl (zeg T.aF T.aM T.b8 (zt 0) (zaL zG)) (yl (Xe (vQ (wn zgG (zt 1) (xG _))) (zeg T.aF T.aM T.b8 (zt 0) (zd6 (cap:=[jr]) (zhx (zej zfB (zt 1) (zp (xG _) zG))) xC zd5 (zej zfB (zt 0) (zp (xG _) zG)))) we) (zeg T.aF T.aM T.aS (zt 0) (xn _)))) h⟩)
noncomputable def vJ(fu:Nat):TwS:=zo (sIf (bE (eOp Zs (zbf "Rows" "place" (za 0)) (eFn xO [zbf "Rows" "rows" (za 0)]))) (zJ (eC .non)) zF) (zJ (eOp vN (eOp vN (zbf "Rows" "rows" (za 0)) (zbf "Rows" "place" (za 0))) (q8 0)))
noncomputable def zY(fu:Nat):TwF:=zN 1 0 (vJ fu)
theorem xy(T:Tx K mg):yh P w K mg base (CXE P w) 1 T.ai.a T.ai.fd ["self"] (sTw K 1 (zY fu)):=
 T.ai.F.okE Tm (λvs H Q E h=>h.1) (λaP A outer s H vs Q E hr h=>⟨_,(zM (zW (xt (zaG (pv 0) rfl) (zx (zP (K:=K)) rfl T.aN boot_len (zaG (pv 0) rfl\zb)))) (¬(!zjk)) zu<|>¬(!(yD (K:=K)%(yD (K:=K)%(zaG (pv 0) rfl,zaG (pv 0) rfl),zc)))),yb (n:=1) (k:=0) (b:=vJ fu) rfl (yl (Xe (zcQ (zd9 (UD T.aF T.aM T.aS (zt 0)) (zbd zaM (zp (UD T.aF T.aM T.b8 (zt 0)) zG)))) (xS zj6) we) (xS (wn WP (wn WP (UD T.aF T.aM T.b8 (zt 0)) (UD T.aF T.aM T.aS (zt 0))) (xn _)))) h⟩)
noncomputable def Wf(fu:Nat):TwS:=zo (zH (eOp vN (zbf "Rows" "rows" (za 0)) (zbf "Rows" "place" (za 0))) (gN 1)) (zo (zkR "Rows" "place" (za 0) (q8 1)) (zJ (za 1)))
noncomputable def xU(fu:Nat):TwF:=zN 1 1 (Wf fu)
theorem Wg(T:Tx K mg):yh P w K mg base (CXE P w) 1 T.aT.a T.aT.fd ["self"] (sTw K 1 (xU fu)):=
 T.aT.F.okE UV (λvs H Q E h=>h.1) (λaP A outer s H vs Q E hr h=>⟨_,((UV^^^(1,uy rfl,yD (K:=K)%(zaG (pv 0) rfl,zaG (pv 0) rfl)))<|>ziv (pv 0) zc zom<|>¬(!pv 1)),yb (n:=1) (k:=1) (b:=Wf fu) rfl (yl (va (wn WP (UD T.aF T.aM T.b8 (zt 0)) (UD T.aF T.aM T.aS (zt 0))) xC) (yl (zmO T.aF T.aM T.aS (zt 0) (xn _)) (xS (zt 1)))) h⟩)
noncomputable def vK(fu:Nat):TwS:=sIf (bOr (bE (eUn zoF (xX "Rows" "first_word" (zY fu) (za 0) []))) (bE (eOp (zkL jD) (xX "Rows" "taken" (xU fu) (za 0) []) (yM [za 1])))) Yk zF
noncomputable def yB(fu:Nat):TwF:=zN 2 0 (vK fu)
theorem xz(T:Tx K mg):yh P w K mg base (CXE P w) 2 T.ah.a T.ah.fd ["self","word"] (sTw K 2 (yB fu)):=
 T.ah.F.okE Tn (λvs H Q E h=>h.1) (λaP A outer s H vs Q E hr h=>⟨_,¬zM (PW.pt (UO (zW (zn9 (ZY (pv 0) T.aM T.ai.mt (xy (fu:=fu) T) (hr.mono ∅) T.ai.b .nil zm))) (XS (zU (zo3 (K:=K) hr) (ZY (pv 0) T.aM T.aT.mt (Wg (fu:=fu) T) (hr.mono ∅) T.aT.b .nil zm) (@zV _ _ _ _ (pv 1\zb)) (by rfl))))) (¬vf) zu,yb (n:=2) (k:=0) (b:=vK fu) rfl (Xe (znK (zcQ (zoG (xY T.aF (zt 0) zG))) (vQ (wn zo8 (xY T.aF (zt 0) zG) (zaL (zp (zt 1) zG))))) Wu we) h⟩)
noncomputable def YK(fu:Nat):TwS:=zo (sIf (Xd (bE (zf (Xo fu) [za 0]))) Yk zF) (zJ (za 0))
noncomputable def xR(fu:Nat):TwF:=zN 1 0 (YK fu)
theorem YL(T:Tx K mg):yh P w K mg base (CXE P w) 3 T.bG.a T.bG.fd ["word"] (sTw K 1 (xR fu)):=
 T.bG.F.okE zeq (λvs H Q E h=>h.1) (λaP A outer s H vs Q E hr h=>⟨_,(zM (vO (vG (T.da\(zcm (fu:=fu) T,hr.mono ∅,zm,pv 0\zb)))) (¬vf) zu<|>¬(!pv 0)),yb (n:=1) (k:=0) (b:=YK fu) rfl (by unfold YK;walk_at "re") h⟩)
noncomputable def Zc(fu:Nat):TwS:=zo (sIf (Xd (bE (zf (YG fu) [za 0]))) Yk zF) (zJ (eFn zdE [za 0]))
noncomputable def xA(fu:Nat):TwF:=zN 1 0 (Zc fu)
theorem Xq(T:Tx K mg):yh P w K mg base (CXE P w) 3 T.bB.a T.bB.fd ["word"] (sTw K 1 (xA fu)):=
 T.bB.F.okE zcl (λvs H Q E h=>h.1) (λaP A outer s H vs Q E hr h=>⟨_,(zM (vO (vG (T.cw\(zae (fu:=fu) T,hr.mono ∅,zm,pv 0\zb)))) (¬vf) zu<|>¬(!yG zdD rfl T.jt boot_int (pv 0\zb))),yb (n:=1) (k:=0) (b:=Zc fu) rfl (by unfold Zc;walk_at "re") h⟩)
noncomputable def vA(fu:Nat):TwS:=zo (sIf (bE (zf (YG fu) [za 0])) (zJ (eFn zdE [za 0])) zF) (zJ (zf (xR fu) [za 0]))
noncomputable def xK(fu:Nat):TwF:=zN 1 0 (vA fu)
theorem vB(T:Tx K mg):yh P w K mg base (CXE P w) 4 T.aV.a T.aV.fd ["word"] (sTw K 1 (xK fu)):=
 T.aV.F.okE zbr (λvs H Q E h=>h.1) (λaP A outer s H vs Q E hr h=>⟨_,(zM (vG (T.cw\(zae (fu:=fu) T,hr.mono ∅,zm,pv 0\zb))) (¬(!yG zdD rfl T.jt boot_int (pv 0\zb))) zu<|>¬(!(T.bG\(YL (fu:=fu) T,hr.mono ∅,zm,pv 0\zb)))),yb (n:=1) (k:=0) (b:=vA fu) rfl (by unfold vA;walk_at "re") h⟩)
noncomputable def Zd(fu:Nat):TwS:=zo (sIf (bOr (bE (eOp zd7 (eFn xO [za 0]) (q8 3))) (bE (eOp (dIn jD) (eOp vN (za 0) (q8 1)) (za 1)))) Yk zF) (zJ (yS [zf (xK fu) [eOp vN (za 0) (q8 0)],eOp vN (za 0) (q8 1),zf (xK fu) [eOp vN (za 0) (q8 2)]]))
noncomputable def Ze(fu:Nat):TwF:=zN 2 0 (Zd fu)
theorem Uj(T:Tx K mg):yh P w K mg base (CXE P w) 5 T.bO.a T.bO.fd ["words","signs"] (sTw K 2 (Ze fu)):=
 T.bO.F.okE zck (λvs H Q E h=>h.1) (λaP A outer s H vs Q E hr h=>⟨_,(zM (PW.pt (UO (zW (zay (zx (zP (K:=K)) rfl T.aN boot_len (pv 0\zb)) zc)) (XS (zU (Wr (K:=K)) (yD (K:=K)%(pv 0,zc)) (pv 1) (by rfl))))) (¬vf) zu<|>¬(!(~~~((T.aV\(vB (fu:=fu) T,hr.mono ∅,zm,(yD (K:=K)%(pv 0,zc))\zb))\((yD (K:=K)%(pv 0,zc))\((T.aV\(vB (fu:=fu) T,hr.mono ∅,zm,(yD (K:=K)%(pv 0,zc))\zb))\zb)))))),yb (n:=2) (k:=0) (b:=Zd fu) rfl (by unfold Zd;walk_at "re") h⟩)
noncomputable def wC(fu:Nat):TwS:=zo (sIf (bE (eOp Zs (eFn xO [za 0]) (q8 1))) (zJ (yS [zf (xK fu) [eOp vN (za 0) (q8 0)]])) zF) (zJ (zf (Ze fu) [za 0,eC (.ct [.str "+",.str "-",.str "*"])]))
noncomputable def wD(fu:Nat):TwF:=zN 1 0 (wC fu)
theorem zag(T:Tx K mg):yh P w K mg base (CXE P w) 6 T.bC.a T.bC.fd ["words"] (sTw K 1 (wD fu)):=
 T.bC.F.okE zab (λvs H Q E h=>h.1) (λaP A outer s H vs Q E hr h=>⟨_,(zM (zW (xt (zx (zP (K:=K)) rfl T.aN boot_len (pv 0\zb)) zc)) (¬(!(~~~((T.aV\(vB (fu:=fu) T,hr.mono ∅,zm,(yD (K:=K)%(pv 0,zc))\zb))\zb)))) zu<|>¬(!(T.bO\(Uj (fu:=fu) T,hr.mono ∅,zm,pv 0\(yE (v:= .ref T.aC) rfl T.dB rfl\zb))))),yb (n:=1) (k:=0) (b:=wC fu) rfl (yl (Xe (zcQ (zd9 (zbd zaM (zp (zt 0) zG)) (xn _))) (xS (WN (zp (yF (zp (wn WP (zt 0) (xn _)) zG)) zG))) we) (xS (yF (zp (zt 0) (zp (zfc λj H=> .ct (λH=>T.dC H) (.cons (.str _) (.cons (.str _) (.cons (.str _) .nil)))) zG))))) h⟩)
noncomputable def Vk(fu:Nat):TwS:=zJ (zf (Ze fu) [za 0,eC (.ct [.str "=",.str "<",.str "#"])])
noncomputable def Zf(fu:Nat):TwF:=zN 1 0 (Vk fu)
theorem Vl(T:Tx K mg):yh P w K mg base (CXE P w) 6 T.bR.a T.bR.fd ["words"] (sTw K 1 (Zf fu)):=
 T.bR.F.okE zep (λvs H Q E h=>h.1) (λaP A outer s H vs Q E hr h=>⟨_,¬(!(T.bO\(Uj (fu:=fu) T,hr.mono ∅,zm,pv 0\(yE (v:= .ref T.bA) rfl T.fR rfl\zb)))),yb (n:=1) (k:=0) (b:=Vk fu) rfl (xS (yF (zp (zt 0) (zp (zfc λj H=> .ct (λH=>T.fV H) (.cons (.str _) (.cons (.str _) (.cons (.str _) .nil)))) zG)))) h⟩)
noncomputable def ZM(fu:Nat):TwS:=zo (sIf (Wt (bE (eOp (yz nW) (za 0) (tL "pass"))) (bE (eOp Zs (eFn xO [za 1]) (q8 0)))) (zJ (yS [tL "pass"])) zF) (zo (sIf (Wt (bE (eOp (yz nW) (za 0) (tL "set"))) (bE (eOp dGt (eFn xO [za 1]) (q8 1)))) (zJ (yS [tL "set",zf (xR fu) [eOp vN (za 1) (q8 0)],zf (wD fu) [eSl Yy (za 1) (vg (q8 1)) oNo]])) zF) (zo (sIf (Wt (bE (eOp (yz nW) (za 0) (tL "draw"))) (bE (eOp dGt (eFn xO [za 1]) (q8 1)))) (zJ (yS [tL "draw",zf (xR fu) [eOp vN (za 1) (q8 0)],eFn vS [xu [jr] (iL (eSl Yy (za 1) (vg (q8 1)) oNo)) (gN 0) xF (zf (xA fu) [za 0])]])) zF) (zo (sIf (Wt (bE (eOp (yz nW) (za 0) (tL "gain"))) (bE (eOp Zs (eFn xO [za 1]) (q8 1)))) (zJ (yS [tL "gain",zf (xK fu) [eOp vN (za 1) (q8 0)]])) zF) (zo (sIf (bE (eOp (yz nW) (za 0) (tL "look"))) (zJ (yS [tL "look",zf (Zf fu) [za 1]])) zF) Yk))))
noncomputable def Wh(fu:Nat):TwF:=zN 2 0 (ZM fu)
theorem zc4(T:Tx K mg):yh P w K mg base (CXE P w) 7 T.cH.a T.cH.fd ["kind","words"] (sTw K 2 (Wh fu)):=
 T.cH.F.okE zcY (λvs H Q E h=>h.1) (λaP A outer s H vs Q E hr h=>⟨_,(zM (PW.pt (Yi (zU xc (pv 0) ze (by rfl)) (vp (zW (xt (zx (zP (K:=K)) rfl T.aN boot_len (pv 1\zb)) zc))))) (¬(!(~~~(ze\zb)))) zu<|>zM (PW.pt (Yi (zU xc (pv 0) ze (by rfl)) (vp (zW (ZX (zx (zP (K:=K)) rfl T.aN boot_len (pv 1\zb)) zc))))) (¬(!(~~~(ze\((T.bG\(YL (fu:=fu) T,hr.mono ∅,zm,(yD (K:=K)%(pv 1,zc))\zb))\((T.bC\(zag (fu:=fu) T,hr.mono ∅,zm,xW (wK (K:=K)) (pv 1) (wN zc) wM\zb))\zb)))))) zu<|>zM (PW.pt (Yi (zU xc (pv 0) ze (by rfl)) (vp (zW (ZX (zx (zP (K:=K)) rfl T.aN boot_len (pv 1\zb)) zc))))) (¬(!(~~~(ze\((T.bG\(YL (fu:=fu) T,hr.mono ∅,zm,(yD (K:=K)%(pv 1,zc))\zb))\(yG (xq (K:=K)) rfl T.cC boot_tuple (yk (xN (N':=["word"]) rfl (blk (osc:=zg YC) rfl (by decide+kernel)) (xi xh) (VH (K:=K) (xW (wK (K:=K)) (pv 1) (wN zc) wM)) (yw rfl) (λC s₀ H₀ fp=>zO (i:=0) (show(["word"]:pR Str).Nodup from by decide+kernel) rfl (uy rfl)) (λC s₀ H₀ fp=>xm) (λC s₀ H₀ fp=>(T.bB\(Xq (fu:=fu) T,hr.mono ∅,US,pv 0\zb)))) zb)\zb)))))) zu<|>zM (PW.pt (Yi (zU xc (pv 0) ze (by rfl)) (vp (zW (xt (zx (zP (K:=K)) rfl T.aN boot_len (pv 1\zb)) zc))))) (¬(!(~~~(ze\((T.aV\(vB (fu:=fu) T,hr.mono ∅,zm,(yD (K:=K)%(pv 1,zc))\zb))\zb))))) zu<|>zM (zU xc (pv 0) ze (by rfl)) (¬(!(~~~(ze\((T.bR\(Vl (fu:=fu) T,hr.mono ∅,zm,pv 1\zb))\zb))))) zu<|>¬vf),yb (n:=2) (k:=0) (b:=ZM fu) rfl (by unfold ZM;walk_at "re") h⟩)
noncomputable def ZN(fu:Nat):TwS:=zo (sIf (bE (eOp zd7 (eFn xO [za 0]) (q8 1))) Yk zF) (zJ (zf (xA fu) [eOp vN (za 0) (q8 0)]))
noncomputable def Wi(fu:Nat):TwF:=zN 1 0 (ZN fu)
theorem zc5(T:Tx K mg):yh P w K mg base (CXE P w) 4 T.cG.a T.cG.fd ["words"] (sTw K 1 (Wi fu)):=
 T.cG.F.okE zcZ (λvs H Q E h=>h.1) (λaP A outer s H vs Q E hr h=>⟨_,(zM (zW (zay (zx (zP (K:=K)) rfl T.aN boot_len (pv 0\zb)) zc)) (¬vf) zu<|>¬(!(T.bB\(Xq (fu:=fu) T,hr.mono ∅,zm,(yD (K:=K)%(pv 0,zc))\zb)))),yb (n:=1) (k:=0) (b:=ZN fu) rfl (by unfold ZN;walk_at "re") h⟩)
noncomputable def ZO(fu:Nat)(b5:TwF)(cW:TwF)(b9:TwF)(dZ:TwF)(c9:TwF):TwS:=zo (zH (yM []) (gN 2)) (zo (sWh fu (bE (eOp (dIn jD) (xX "Rows" "first_word" (zY fu) (za 0) []) (yS [eC .non,tL "else",tL "or",tL "end"]))) (yY (eMt yn (za 2) [zf cW [za 0,za 1]]))) (zJ (eFn vS [za 2])))
noncomputable def Zg(fu:Nat)(b5:TwF)(cW:TwF)(b9:TwF)(dZ:TwF)(c9:TwF):TwS:=zo (zH (xX "Rows" "taken" (xU fu) (za 0) []) (gN 2)) (zo (zH (eOp vN (za 2) (q8 0)) (gN 3)) (zo (sIf (bE (eOp (dIn jD) (za 3) (eC (.ct [.str "if",.str "while",.str "times",.str "hand"])))) (zJ (zf (Wh fu) [za 3,eSl Yy (za 2) (vg (q8 1)) oNo])) zF) (zo (sIf (bE (eOp Zs (za 1) (q8 12))) Yk zF) (zo (sIf (bE (eOp (yz nW) (za 3) (tL "if"))) (zJ (zf dZ [za 0,zf (Zf fu) [eSl Yy (za 2) (vg (q8 1)) oNo],eOp xk (za 1) (q8 1)])) zF) (zo (sIf (bE (eOp (yz nW) (za 3) (tL "while"))) (zJ (yS [tL "while",zf (Zf fu) [eSl Yy (za 2) (vg (q8 1)) oNo],zf b9 [za 0,eOp xk (za 1) (q8 1)]])) zF) (zo (sIf (bE (eOp (yz nW) (za 3) (tL "times"))) (zJ (yS [tL "times",zf (Wi fu) [eSl Yy (za 2) (vg (q8 1)) oNo],zf b9 [za 0,eOp xk (za 1) (q8 1)]])) zF) (zo (sIf (bE (eOp zd7 (eFn xO [za 2]) (q8 1))) Yk zF) (zJ (yS [tL "hand",zf c9 [za 0,eOp xk (za 1) (q8 1)]])))))))))
noncomputable def vC(fu:Nat)(b5:TwF)(cW:TwF)(b9:TwF)(dZ:TwF)(c9:TwF):TwS:=zo (zH (zf b5 [za 0,za 1]) (gN 2)) (zo (yY (xX "Rows" "take_alone" (yB fu) (za 0) [tL "end"])) (zJ (za 2)))
noncomputable def Vm(fu:Nat)(b5:TwF)(cW:TwF)(b9:TwF)(dZ:TwF)(c9:TwF):TwS:=zo (zH (zf b5 [za 0,za 2]) (gN 3)) (zo (yY (xX "Rows" "take_alone" (yB fu) (za 0) [tL "else"])) (zJ (yS [tL "if",za 1,za 3,zf b9 [za 0,za 2]])))
noncomputable def Zh(fu:Nat)(b5:TwF)(cW:TwF)(b9:TwF)(dZ:TwF)(c9:TwF):TwS:=zo (zH (yM [zf b5 [za 0,za 1]]) (gN 2)) (zo (yY (xX "Rows" "take_alone" (yB fu) (za 0) [tL "or"])) (zo (yY (eMt yn (za 2) [zf b5 [za 0,za 1]])) (zo (sWh fu (bE (eOp zek (xX "Rows" "first_word" (zY fu) (za 0) []) (tL "or"))) (zo (yY (xX "Rows" "take_alone" (yB fu) (za 0) [tL "or"])) (yY (eMt yn (za 2) [zf b5 [za 0,za 1]])))) (zo (yY (xX "Rows" "take_alone" (yB fu) (za 0) [tL "end"])) (zJ (eFn vS [za 2]))))))
mutual
noncomputable def zD(fu:Nat):Nat->TwF
 |0=>λ_ _=>jr
 |n+1=>zN 2 1 (ZO fu (zD fu n) (zT fu n) (zE fu n) (ye fu n) (zI fu n))
noncomputable def zT(fu:Nat):Nat->TwF
 |0=>λ_ _=>jr
 |n+1=>zN 2 2 (Zg fu (zD fu n) (zT fu n) (zE fu n) (ye fu n) (zI fu n))
noncomputable def zE(fu:Nat):Nat->TwF
 |0=>λ_ _=>jr
 |n+1=>zN 2 1 (vC fu (zD fu n) (zT fu n) (zE fu n) (ye fu n) (zI fu n))
noncomputable def ye(fu:Nat):Nat->TwF
 |0=>λ_ _=>jr
 |n+1=>zN 3 1 (Vm fu (zD fu n) (zT fu n) (zE fu n) (ye fu n) (zI fu n))
noncomputable def zI(fu:Nat):Nat->TwF
 |0=>λ_ _=>jr
 |n+1=>zN 2 1 (Zh fu (zD fu n) (zT fu n) (zE fu n) (ye fu n) (zI fu n))
end
theorem Xr(fu n:Nat):zD fu (n+1)=zN 2 1 (ZO fu (zD fu n) (zT fu n) (zE fu n) (ye fu n) (zI fu n)):=by rw[zD]
theorem Tp(fu:Nat):zD fu 0=λ_ _=>jr:=by rw[zD]
theorem Zi(fu n:Nat):zT fu (n+1)=zN 2 2 (Zg fu (zD fu n) (zT fu n) (zE fu n) (ye fu n) (zI fu n)):=by rw[zT]
theorem zah(fu:Nat):zT fu 0=λ_ _=>jr:=by rw[zT]
theorem Yg(fu n:Nat):zE fu (n+1)=zN 2 1 (vC fu (zD fu n) (zT fu n) (zE fu n) (ye fu n) (zI fu n)):=by rw[zE]
theorem Uk(fu:Nat):zE fu 0=λ_ _=>jr:=by rw[zE]
theorem Vx(fu n:Nat):ye fu (n+1)=zN 3 1 (Vm fu (zD fu n) (zT fu n) (zE fu n) (ye fu n) (zI fu n)):=by rw[ye]
theorem zbu(fu:Nat):ye fu 0=λ_ _=>jr:=by rw[ye]
theorem Yu(fu n:Nat):zI fu (n+1)=zN 2 1 (Zh fu (zD fu n) (zT fu n) (zE fu n) (ye fu n) (zI fu n)):=by rw[zI]
theorem UM(fu:Nat):zI fu 0=λ_ _=>jr:=by rw[zI]
theorem zcp(T:Tx K mg):∀n:Nat,yh P w K mg base (CXE P w) (7+n) T.aG.a T.aG.fd ["rows","opened"] (sTw K 2 (zD fu n))/\yh P w K mg base (CXE P w) (7+n) T.cY.a T.cY.fd ["rows","opened"] (sTw K 2 (zT fu n))/\yh P w K mg base (CXE P w) (7+n) T.bg.a T.bg.fd ["rows","opened"] (sTw K 2 (zE fu n))/\yh P w K mg base (CXE P w) (7+n) T.e8.a T.e8.fd ["rows","test","opened"] (sTw K 3 (ye fu n))/\yh P w K mg base (CXE P w) (7+n) T.cg.a T.cg.fd ["rows","opened"] (sTw K 2 (zI fu n)):=by
 intro n
 induction n with
 |zero=>
  refine⟨?_,?_,?_,?_,?_⟩
  .rw[Tp];exact wf
  .rw[zah];exact wf
  .rw[Uk];exact wf
  .rw[zbu];exact wf
  .rw[UM];exact wf
 |succ n ih=>
  refine⟨?_,?_,?_,?_,?_⟩
  .rw[Xr];exact T.aG.F.okE UW (λvs H Q E h=>h.1) (λaP A outer s H vs Q E hr h=>⟨_,((UW^^^(2,uy rfl,@zV _ _ _ _ zb))<|>YW PassesOwn.leaving (zU (Wr (K:=K)) (ZY (pv 0) T.aM T.ai.mt (xy (fu:=fu) T) (hr.mono (by walk_at "q2")) T.ai.b .nil zm) (~~~(zjk\(ze\(ze\(ze\zb))))) (by rfl)) (¬yU (wI uP uS uT yN (pv 2) ((T.cY\(ih.2.1,hr.mono (by walk_at "q2"),zm,pv 0\(pv 1\zb)))\zb)))<|>¬(!yG (xq (K:=K)) rfl T.cC boot_tuple (pv 2\zb))),yb (n:=2) (k:=1) (b:=ZO fu (zD fu n) (zT fu n) (zE fu n) (ye fu n) (zI fu n)) rfl (yl (va (zaL zG) xC) (yl (TJ (vQ (wn zfl (xY T.aF (zt 0) zG) (WN (zp zj6 (zp (xG _) (zp (xG _) (zp (xG _) zG))))))) (ZC (zb2 YT (zt 2) (zp (yF (zp (zt 0) (zp (zt 1) zG))) zG)))) (xS (zbd VL (zp (zt 2) zG))))) h⟩)
  .rw[Zi];exact T.cY.F.okE Vf (λvs H Q E h=>h.1) (λaP A outer s H vs Q E hr h=>⟨_,((Vf^^^(2,uy rfl,ZY (pv 0) T.aM T.aT.mt (Wg (fu:=fu) T) (hr.mono (by walk_at "q2")) T.aT.b .nil zm))<|>(Vf^^^(3,uy rfl,yD (K:=K)%(pv 2,zc)))<|>zM (zU (Wr (K:=K)) (pv 3) (yE (v:= .ref T.aU) rfl T.dG rfl) (by rfl)) (¬(!(T.cH\(zc4 (fu:=fu) T,hr.mono (by walk_at "q2"),zm,pv 3\(xW (wK (K:=K)) (pv 2) (wN zc) wM\zb))))) zu<|>zM (zW (xt (pv 1) (match T.dE with|⟨t,h⟩=>yE (v:= .int 12) rfl h ⟨t,rfl⟩))) (¬vf) zu<|>zM (zU xc (pv 3) ze (by rfl)) (¬(!(T.e8\(ih.2.2.2.1,hr.mono (by walk_at "q2"),zm,pv 0\((T.bR\(Vl (fu:=fu) T,hr.mono (by walk_at "q2"),zm,xW (wK (K:=K)) (pv 2) (wN zc) wM\zb))\(zq yv (pv 1) zc\zb)))))) zu<|>zM (zU xc (pv 3) ze (by rfl)) (¬(!(~~~(ze\((T.bR\(Vl (fu:=fu) T,hr.mono (by walk_at "q2"),zm,xW (wK (K:=K)) (pv 2) (wN zc) wM\zb))\((T.bg\(ih.2.2.1,hr.mono (by walk_at "q2"),zm,pv 0\(zq yv (pv 1) zc\zb)))\zb)))))) zu<|>zM (zU xc (pv 3) ze (by rfl)) (¬(!(~~~(ze\((T.cG\(zc5 (fu:=fu) T,hr.mono (by walk_at "q2"),zm,xW (wK (K:=K)) (pv 2) (wN zc) wM\zb))\((T.bg\(ih.2.2.1,hr.mono (by walk_at "q2"),zm,pv 0\(zq yv (pv 1) zc\zb)))\zb)))))) zu<|>zM (zW (zay (zx (zP (K:=K)) rfl T.aN boot_len (pv 2\zb)) zc)) (¬vf) zu<|>¬(!(~~~(ze\((T.cg\(ih.2.2.2.2,hr.mono (by walk_at "q2"),zm,pv 0\(zq yv (pv 1) zc\zb)))\zb))))),yb (n:=2) (k:=2) (b:=Zg fu (zD fu n) (zT fu n) (zE fu n) (ye fu n) (zI fu n)) rfl (yl (va (xY T.aF (zt 0) zG) xC) (yl (va (wn WP (zt 2) (xn _)) xC) (yl (Xe (vQ (wn zfl (zt 3) (zfc λj H=> .ct (λH=>T.dI H) (.cons (.str _) (.cons (.str _) (.cons (.str _) (.cons (.str _) .nil))))))) (xS (yF (zp (zt 3) (zp (zb1 (zt 2) (TF (xn _)) zfd) zG)))) we) (yl (Xe (zcQ (zd9 (zt 1) (xn _))) Wu we) (yl (Xe (vQ (wn zb7 (zt 3) (xG _))) (xS (yF (zp (zt 0) (zp (yF (zp (zb1 (zt 2) (TF (xn _)) zfd) zG)) (zp (wn Tg (zt 1) (xn _)) zG))))) we) (yl (Xe (vQ (wn zb7 (zt 3) (xG _))) (xS (WN (zp (xG _) (zp (yF (zp (zb1 (zt 2) (TF (xn _)) zfd) zG)) (zp (yF (zp (zt 0) (zp (wn Tg (zt 1) (xn _)) zG))) zG))))) we) (yl (Xe (vQ (wn zb7 (zt 3) (xG _))) (xS (WN (zp (xG _) (zp (yF (zp (zb1 (zt 2) (TF (xn _)) zfd) zG)) (zp (yF (zp (zt 0) (zp (wn Tg (zt 1) (xn _)) zG))) zG))))) we) (yl (Xe (zcQ (zgE (zbd zaM (zp (zt 2) zG)) (xn _))) Wu we) (xS (WN (zp (xG _) (zp (yF (zp (zt 0) (zp (wn Tg (zt 1) (xn _)) zG))) zG)))))))))))) h⟩)
  .rw[Yg];exact T.bg.F.okE Vw (λvs H Q E h=>h.1) (λaP A outer s H vs Q E hr h=>⟨_,((Vw^^^(2,uy rfl,T.aG\(ih.1,hr.mono (by walk_at "q2"),zm,pv 0\(pv 1\zb))))<|>yU (Tv (pv 0) T.aM T.ah.mt (xz (fu:=fu) T) (hr.mono (by walk_at "q2")) T.ah.b .nil zm (ze\zb))<|>¬(!pv 2)),yb (n:=2) (k:=1) (b:=vC fu (zD fu n) (zT fu n) (zE fu n) (ye fu n) (zI fu n)) rfl (yl (va (yF (zp (zt 0) (zp (zt 1) zG))) xC) (yl (ZC (xY T.aF (zt 0) (zp (xG _) zG))) (xS (zt 2)))) h⟩)
  .rw[Vx];exact T.e8.F.okE zcj (λvs H Q E h=>h.1) (λaP A outer s H vs Q E hr h=>⟨_,((zcj^^^(3,uy rfl,T.aG\(ih.1,hr.mono (by walk_at "q2"),zm,pv 0\(pv 2\zb))))<|>yU (Tv (pv 0) T.aM T.ah.mt (xz (fu:=fu) T) (hr.mono (by walk_at "q2")) T.ah.b .nil zm (ze\zb))<|>¬(!(~~~(ze\(pv 1\(pv 3\((T.bg\(ih.2.2.1,hr.mono (by walk_at "q2"),zm,pv 0\(pv 2\zb)))\zb))))))),yb (n:=3) (k:=1) (b:=Vm fu (zD fu n) (zT fu n) (zE fu n) (ye fu n) (zI fu n)) rfl (yl (va (yF (zp (zt 0) (zp (zt 2) zG))) xC) (yl (ZC (xY T.aF (zt 0) (zp (xG _) zG))) (xS (WN (zp (xG _) (zp (zt 1) (zp (zt 3) (zp (yF (zp (zt 0) (zp (zt 2) zG))) zG)))))))) h⟩)
  .rw[Yu];exact T.cg.F.okE Ug (λvs H Q E h=>h.1) (λaP A outer s H vs Q E hr h=>⟨_,((Ug^^^(2,uy rfl,@zV _ _ _ _ ((T.aG\(ih.1,hr.mono (by walk_at "q2"),zm,pv 0\(pv 1\zb)))\zb)))<|>yU (Tv (pv 0) T.aM T.ah.mt (xz (fu:=fu) T) (hr.mono (by walk_at "q2")) T.ah.b .nil zm (ze\zb))<|>yU (wI uP uS uT yN (pv 2) ((T.aG\(ih.1,hr.mono (by walk_at "q2"),zm,pv 0\(pv 1\zb)))\zb))<|>YW PassesOwn.leaving (zU xc (ZY (pv 0) T.aM T.ai.mt (xy (fu:=fu) T) (hr.mono (by walk_at "q2")) T.ai.b .nil zm) ze (by rfl)) (yU (Tv (pv 0) T.aM T.ah.mt (xz (fu:=fu) T) (hr.mono (by walk_at "q2")) T.ah.b .nil zm (ze\zb))<|>¬yU (wI uP uS uT yN (pv 2) ((T.aG\(ih.1,hr.mono (by walk_at "q2"),zm,pv 0\(pv 1\zb)))\zb)))<|>yU (Tv (pv 0) T.aM T.ah.mt (xz (fu:=fu) T) (hr.mono (by walk_at "q2")) T.ah.b .nil zm (ze\zb))<|>¬(!yG (xq (K:=K)) rfl T.cC boot_tuple (pv 2\zb))),yb (n:=2) (k:=1) (b:=Zh fu (zD fu n) (zT fu n) (zE fu n) (ye fu n) (zI fu n)) rfl (yl (va (zaL (zp (yF (zp (zt 0) (zp (zt 1) zG))) zG)) xC) (yl (ZC (xY T.aF (zt 0) (zp (xG _) zG))) (yl (ZC (zb2 YT (zt 2) (zp (yF (zp (zt 0) (zp (zt 1) zG))) zG))) (yl (TJ (vQ (wn zk1 (xY T.aF (zt 0) zG) (xG _))) (yl (ZC (xY T.aF (zt 0) (zp (xG _) zG))) (ZC (zb2 YT (zt 2) (zp (yF (zp (zt 0) (zp (zt 1) zG))) zG))))) (yl (ZC (xY T.aF (zt 0) (zp (xG _) zG))) (xS (zbd VL (zp (zt 2) zG)))))))) h⟩)
theorem zc6(T:Tx K mg)(n:Nat):yh P w K mg base (CXE P w) (7+n) T.aG.a T.aG.fd ["rows","opened"] (sTw K 2 (zD fu n)):=(zcp T n).1
noncomputable def Wj(fu:Nat):TwS:=zo (zH (yM []) (gN 1)) (zo (sWh fu (bE (eOp zek (xX "Rows" "first_word" (zY fu) (za 0) []) (tL "box"))) (zo (zH (xX "Rows" "taken" (xU fu) (za 0) []) (gN 2)) (zo (sIf (bE (eOp zd7 (eFn xO [za 2]) (q8 3))) Yk zF) (yY (eMt yn (za 1) [yS [zf (xR fu) [eOp vN (za 2) (q8 1)],zf (xA fu) [eOp vN (za 2) (q8 2)]]]))))) (zJ (eFn vS [za 1])))
noncomputable def ZP(fu:Nat):TwF:=zN 1 2 (Wj fu)
theorem zc7(T:Tx K mg):yh P w K mg base (CXE P w) 4 T.cK.a T.cK.fd ["rows"] (sTw K 1 (ZP fu)):=
 T.cK.F.okE Wd (λvs H Q E h=>h.1) (λaP A outer s H vs Q E hr h=>⟨_,((Wd^^^(1,uy rfl,@zV _ _ _ _ zb))<|>YW PassesOwn.leaving (zU xc (ZY (pv 0) T.aM T.ai.mt (xy (fu:=fu) T) (hr.mono ∅) T.ai.b .nil zm) ze (by rfl)) ((Wd^^^(2,uy rfl,ZY (pv 0) T.aM T.aT.mt (Wg (fu:=fu) T) (hr.mono ∅) T.aT.b .nil zm))<|>zM (zW (zay (zx (zP (K:=K)) rfl T.aN boot_len (pv 2\zb)) zc)) (¬vf) zu<|>¬yU (wI uP uS uT yN (pv 1) ((~~~((T.bG\(YL (fu:=fu) T,hr.mono ∅,zm,(yD (K:=K)%(pv 2,zc))\zb))\((T.bB\(Xq (fu:=fu) T,hr.mono ∅,zm,(yD (K:=K)%(pv 2,zc))\zb))\zb)))\zb)))<|>¬(!yG (xq (K:=K)) rfl T.cC boot_tuple (pv 1\zb))),yb (n:=1) (k:=2) (b:=Wj fu) rfl (yl (va (zaL zG) xC) (yl (TJ (vQ (wn zk1 (xY T.aF (zt 0) zG) (xG _))) (yl (va (xY T.aF (zt 0) zG) xC) (yl (Xe (zcQ (zgE (zbd zaM (zp (zt 2) zG)) (xn _))) Wu we) (ZC (zb2 YT (zt 1) (zp (WN (zp (yF (zp (wn WP (zt 2) (xn _)) zG)) (zp (yF (zp (wn WP (zt 2) (xn _)) zG)) zG))) zG)))))) (xS (zbd VL (zp (zt 1) zG))))) h⟩)
noncomputable def zbI(fu:Nat):TwS:=zo (zH (zgR "Rows" (xZ fu) [za 0]) (gN 1)) (zo (zH (zf (ZP fu) [za 1]) (gN 2)) (zo (zH (zf (zD fu 60) [za 1,q8 0]) (gN 3)) (zo (sIf (bE (eUn zhu (xX "Rows" "first_word" (zY fu) (za 1) []))) Yk zF) (zo (zH (yS [za 2,za 3]) (gN 4)) (zo (sIf (Xd (bE (zf (wx fu) [za 4]))) (zgS "NoProgram" [tL "the text is well built, but goes beyond a bound"]) zF) (zJ (za 4)))))))
noncomputable def XM(fu:Nat):TwF:=zN 1 4 (zbI fu)
theorem zev(T:Tx K mg):yh P w K mg base (CXE P w) 68 T.eE.a T.eE.fd ["text"] (sTw K 1 (XM fu)):=
 T.eE.F.okE zaa (λvs H Q E h=>h.1) (λaP A outer s H vs Q E hr h=>⟨_,((zaa^^^(1,uy rfl,zlY T.ju (zaZ (fu:=fu) T) (hr.mono ∅) rfl T.jJ T.bq.b .nil zm (pv 0\zb)))<|>(zaa^^^(2,uy rfl,T.cK\(zc7 (fu:=fu) T,hr.mono ∅,zm,pv 1\zb)))<|>(zaa^^^(3,uy rfl,T.aG\(zc6 (fu:=fu) T 60,hr.mono ∅,zm,pv 1\(zc\zb))))<|>zM (zW (zlQ (ZY (pv 1) T.aM T.ai.mt (xy (fu:=fu) T) (hr.mono ∅) T.ai.b .nil zm))) (¬vf) zu<|>(zaa^^^(4,uy rfl,~~~(pv 2\(pv 3\zb))))<|>zM (vO (vG (T.cI\(zc3 (fu:=fu) T,hr.mono ∅,zm,pv 4\zb)))) (¬zjQ zmd rfl rfl T.ck PySem.F.excBase_ValueError (ze\zb)) zu<|>¬(!pv 4)),yb (n:=1) (k:=4) (b:=zbI fu) rfl (yl (va (zkN T.aF (zp (zt 0) zG)) xC) (yl (va (yF (zp (zt 1) zG)) xC) (yl (va (yF (zp (zt 1) (zp (xn _) zG))) xC) (yl (Xe (zcQ (zmo (xY T.aF (zt 1) zG))) Wu we) (yl (va (WN (zp (zt 2) (zp (zt 3) zG))) xC) (yl (Xe (zj7 (zcQ (yF (zp (zt 4) zG)))) (zkO T.bZ (zp (xG _) zG)) we) (xS (zt 4)))))))) h⟩)
noncomputable def YM(fu:Nat):TwS:=zo (zH (q8 0) (gN 4)) (zo (sIf (bE (eOp dGt (eFn xO [za 0]) (q8 0))) (zH (eOp vN (za 0) (eOp zcR (za 1) (eFn xO [za 0]))) (gN 4)) zF) (zJ (eOp zcR (eOp zcR (eOp xk (eOp zmq (eOp xk (za 4) (eOp Wv (za 1) (za 1))) (q8 48271)) (q8 11)) (za 2)) (za 3))))
noncomputable def zk(fu:Nat):TwF:=zN 4 1 (YM fu)
theorem zw(T:Tx K mg):yh P w K mg base (CXE P w) 1 T.ae.a T.ae.fd ["_law_script","_law_k","_law_prime","_law_many"] (sTw K 4 (zk fu)):=
 T.ae.F.okE Vg (λvs H Q E h=>h.1) (λaP A outer s H vs Q E hr h=>⟨_,((Vg^^^(4,uy rfl,zc))<|>zM (zW (ZX (zx (zP (K:=K)) rfl T.aN boot_len (pv 0\zb)) zc)) (¬(Vg^^^(4,uy rfl,yD (K:=K)%(pv 0,zq zaC (pv 1) (zx (zP (K:=K)) rfl T.aN boot_len (pv 0\zb)))))) zu<|>¬(!zq zaC (zq zaC (zq yv (zq zol (zq yv (pv 4) (zq WK (pv 1) (pv 1))) zc) zc) (pv 2)) (pv 3))),yb (n:=4) (k:=1) (b:=YM fu) rfl (by unfold YM;walk_at "re") h⟩)
noncomputable def YN(fu:Nat):TwS:=zo (zH (tL "abcdefghijklmnopqrstuvwxyz") (gN 3)) (zo (zH (eOp xk (za 2) (q8 1)) (gN 4)) (zo (sIf (bE (eOp Zs (zf (zk fu) [za 0,q8 1,q8 10009,q8 2]) (q8 0))) (zH (eOp xk (za 4) (zf (zk fu) [za 0,eOp xk (q8 20) (za 1),q8 10037,eOp zb4 (q8 8) (za 2)])) (gN 4)) zF) (zo (zH (tL "") (gN 5)) (zo (UK (iR1 (za 4)) (gN 6) (zo (zH (eOp xk (eOp Wv (za 6) (za 6)) (zf (zk fu) [za 0,q8 2,q8 10039,q8 26])) (gN 7)) (zo (sIf (bE (eOp Zs (zf (zk fu) [za 0,q8 3,q8 10061,q8 2]) (q8 0))) (zH (eOp xk (za 7) (zf (zk fu) [za 0,eOp xk (q8 30) (za 1),q8 10067,q8 26])) (gN 7)) zF) (zo (sIf (bE (eOp Zs (za 6) (za 2))) (zH (eOp xk (za 1) (zf (zk fu) [za 0,q8 4,q8 10069,q8 26])) (gN 7)) zF) (zH (eOp zQ (za 5) (eOp zb0 (za 3) (eOp zcR (za 7) (q8 26)))) (gN 5)))))) (zJ (za 5))))))
noncomputable def Vn(fu:Nat):TwF:=zN 3 5 (YN fu)
theorem zew(T:Tx K mg):yh P w K mg base (CXE P w) 2 T.d4.a T.d4.fd ["_law_script","_law_k","_law_at"] (sTw K 3 (Vn fu)):=
 T.d4.F.okE xb (λvs H Q E h=>h.1) (λaP A outer s H vs Q E hr h=>⟨_,((xb^^^(3,uy rfl,ze))<|>(xb^^^(4,uy rfl,zq yv (pv 2) zc))<|>zM (zW (xt (T.ae\(zw (fu:=fu) T,hr.mono ∅,zm,pv 0\(zc\(zc\(zc\zb))))) zc)) (¬(xb^^^(4,uy rfl,zq yv (pv 4) (T.ae\(zw (fu:=fu) T,hr.mono ∅,zm,pv 0\(zq yv zc (pv 1)\(zc\(zq Vz zc (pv 2)\zb)))))))) zu<|>(xb^^^(5,uy rfl,ze))<|>XU PassesOwn.leaving rfl (YS rfl T.ez (pv 4\zb)) (zO (i:=6) xb.nd rfl (uy rfl)) ((xb^^^(7,uy rfl,zq yv (zq WK (pv 6) (pv 6)) (T.ae\(zw (fu:=fu) T,hr.mono ∅,zm,pv 0\(zc\(zc\(zc\zb)))))))<|>zM (zW (xt (T.ae\(zw (fu:=fu) T,hr.mono ∅,zm,pv 0\(zc\(zc\(zc\zb))))) zc)) (¬(xb^^^(7,uy rfl,zq yv (pv 7) (T.ae\(zw (fu:=fu) T,hr.mono ∅,zm,pv 0\(zq yv zc (pv 1)\(zc\(zc\zb)))))))) zu<|>zM (zW (xt (pv 6) (pv 2))) (¬(xb^^^(7,uy rfl,zq yv (pv 1) (T.ae\(zw (fu:=fu) T,hr.mono ∅,zm,pv 0\(zc\(zc\(zc\zb)))))))) zu<|>¬(xb^^^(5,uy rfl,zq zr (pv 5) (zdP%(pv 3,zq zaC (pv 7) zc)))))<|>¬(!pv 5)),yb (n:=3) (k:=5) (b:=YN fu) rfl (by unfold YN;walk_at "re") h⟩)
noncomputable def ZQ(fu:Nat):TwS:=zo (zH (zf (zk fu) [za 0,q8 5,q8 10079,q8 8]) (gN 3)) (zo (zH (yM []) (gN 4)) (zo (zH (q8 1) (gN 5)) (zo (UK (iR1 (za 1)) (gN 6) (zo (zH (eOp xk (q8 1) (zf (zk fu) [za 0,eOp xk (q8 6) (za 6),q8 10091,q8 9])) (gN 7)) (zo (sIf (bE (eOp dGt (eOp Wv (za 5) (za 7)) (za 2))) (zH (q8 1) (gN 7)) zF) (zo (zH (eOp Wv (za 5) (za 7)) (gN 5)) (zo (zH (zf (Vn fu) [za 0,za 6,za 3]) (gN 8)) (zo (sIf (Wt (bE (eOp Zs (za 6) (q8 1))) (bE (eOp Zs (zf (zk fu) [za 0,q8 9,q8 10369,q8 3]) (q8 0)))) (zo (zH (eSl zfe (eOp zS (eOp vN (za 4) (q8 0)) (q8 0)) oNo (vg (eUn zd8 (q8 1)))) (gN 8)) (sIf (bE (eOp dLt (eFn VJ [za 8]) (q8 7))) (zH (eOp zQ (eOp zS (eOp vN (za 4) (q8 0)) (q8 0)) (tL "e")) (gN 8)) zF)) zF) (yY (eMt yn (za 4) [yS [za 8,za 7]])))))))) (zJ (eFn vS [za 4])))))
noncomputable def Wk(fu:Nat):TwF:=zN 3 6 (ZQ fu)
theorem zc8(T:Tx K mg):yh P w K mg base (CXE P w) 3 T.cN.a T.cN.fd ["_law_script","_law_count","_law_most"] (sTw K 3 (Wk fu)):=
 T.cN.F.okE yJ (λvs H Q E h=>h.1) (λaP A outer s H vs Q E hr h=>⟨_,((yJ^^^(3,uy rfl,T.ae\(zw (fu:=fu) T,hr.mono ∅,zm,pv 0\(zc\(zc\(zc\zb))))))<|>(yJ^^^(4,uy rfl,@zV _ _ _ _ zb))<|>(yJ^^^(5,uy rfl,zc))<|>XU PassesOwn.leaving rfl (YS rfl T.ez (pv 1\zb)) (zO (i:=6) yJ.nd rfl (uy rfl)) ((yJ^^^(7,uy rfl,zq yv zc (T.ae\(zw (fu:=fu) T,hr.mono ∅,zm,pv 0\(zq yv zc (pv 6)\(zc\(zc\zb)))))))<|>zM (zW (ZX (zq WK (pv 5) (pv 7)) (pv 2))) (¬(yJ^^^(7,uy rfl,zc))) zu<|>(yJ^^^(5,uy rfl,zq WK (pv 5) (pv 7)))<|>(yJ^^^(8,uy rfl,T.d4\(zew (fu:=fu) T,hr.mono ∅,zm,pv 0\(pv 6\(pv 3\zb)))))<|>zM (PW.pt (Yi (zW (xt (pv 6) zc)) (vp (zW (xt (T.ae\(zw (fu:=fu) T,hr.mono ∅,zm,pv 0\(zc\(zc\(zc\zb))))) zc))))) ((yJ^^^(8,uy rfl,xW zoA (zA (K:=K)%(yD (K:=K)%(pv 4,zc),zc)) wM (wN (znw zjv zc))))<|>¬zM (zW (zdi (zx Yw rfl T.aN boot_len (pv 8\zb)) zc)) (¬(yJ^^^(8,uy rfl,zq zr (zA (K:=K)%(yD (K:=K)%(pv 4,zc),zc)) ze))) zu) zu<|>¬yU (wI uP uS uT yN (pv 4) ((~~~(pv 8\(pv 7\zb)))\zb)))<|>¬(!yG (xq (K:=K)) rfl T.cC boot_tuple (pv 4\zb))),yb (n:=3) (k:=6) (b:=ZQ fu) rfl (by unfold ZQ;walk_at "re") h⟩)
noncomputable def vD(fu:Nat):TwS:=zo (zH (q8 0) (gN 3)) (zo (sIf (bE (eOp dGt (eFn xO [za 0]) (q8 0))) (zH (eOp vN (za 0) (eOp zcR (za 1) (eFn xO [za 0]))) (gN 3)) zF) (zo (zH (zf (zk fu) [za 0,za 1,q8 10103,q8 4]) (gN 4)) (zo (sIf (Wt (bE (eOp dLt (za 4) (q8 2))) (bE (eOp dGt (eFn xO [za 2]) (q8 0)))) (zJ (eOp zS (eOp zS (za 2) (zf (zk fu) [za 0,za 1,q8 10111,eFn xO [za 2]])) (q8 0))) zF) (zo (sIf (bE (eOp Zs (za 4) (q8 2))) (zJ (eOp zcR (za 3) (eOp ziN (q8 10) (q8 9)))) zF) (zJ (zf (zk fu) [za 0,za 1,q8 10133,q8 10]))))))
noncomputable def yK(fu:Nat):TwF:=zN 3 2 (vD fu)
theorem xL(T:Tx K mg):yh P w K mg base (CXE P w) 2 T.aE.a T.aE.fd ["_law_script","_law_k","_law_boxes_here"] (sTw K 3 (yK fu)):=
 T.aE.F.okE vw (λvs H Q E h=>h.1) (λaP A outer s H vs Q E hr h=>⟨_,((vw^^^(3,uy rfl,zc))<|>zM (zW (ZX (zx (zP (K:=K)) rfl T.aN boot_len (pv 0\zb)) zc)) (¬(vw^^^(3,uy rfl,yD (K:=K)%(pv 0,zq zaC (pv 1) (zx (zP (K:=K)) rfl T.aN boot_len (pv 0\zb)))))) zu<|>(vw^^^(4,uy rfl,T.ae\(zw (fu:=fu) T,hr.mono ∅,zm,pv 0\(pv 1\(zc\(zc\zb))))))<|>zM (PW.pt (Yi (zW (zdi (pv 4) zc)) (vp (zW (ZX (zx (zP (K:=K)) rfl T.aN boot_len (pv 2\zb)) zc))))) (¬(!(zA (K:=K)%(zA (K:=K)%(pv 2,T.ae\(zw (fu:=fu) T,hr.mono ∅,zm,pv 0\(pv 1\(zc\(zx (zP (K:=K)) rfl T.aN boot_len (pv 2\zb)\zb))))),zc)))) zu<|>zM (zW (xt (pv 4) zc)) (¬(!zq zaC (pv 3) (zq zju zc zc))) zu<|>¬(!(T.ae\(zw (fu:=fu) T,hr.mono ∅,zm,pv 0\(pv 1\(zc\(zc\zb))))))),yb (n:=3) (k:=2) (b:=vD fu) rfl (by unfold vD;walk_at "re") h⟩)
noncomputable def YO(fu:Nat):TwS:=zo (zH (eOp zb0 (tL "=<#") (zf (zk fu) [za 0,za 1,q8 10139,q8 3])) (gN 3)) (zJ (yS [zf (yK fu) [za 0,eOp xk (za 1) (q8 1),za 2],za 3,zf (yK fu) [za 0,eOp xk (za 1) (q8 2),za 2]]))
noncomputable def wS(fu:Nat):TwF:=zN 3 1 (YO fu)
theorem Vo(T:Tx K mg):yh P w K mg base (CXE P w) 3 T.bW.a T.bW.fd ["_law_script","_law_k","_law_boxes_here"] (sTw K 3 (wS fu)):=
 T.bW.F.okE zac (λvs H Q E h=>h.1) (λaP A outer s H vs Q E hr h=>⟨_,((zac^^^(3,uy rfl,zdP%(ze,T.ae\(zw (fu:=fu) T,hr.mono ∅,zm,pv 0\(pv 1\(zc\(zc\zb)))))))<|>¬(!(~~~((T.aE\(xL (fu:=fu) T,hr.mono ∅,zm,pv 0\(zq yv (pv 1) zc\(pv 2\zb))))\(pv 3\((T.aE\(xL (fu:=fu) T,hr.mono ∅,zm,pv 0\(zq yv (pv 1) zc\(pv 2\zb))))\zb)))))),yb (n:=3) (k:=1) (b:=YO fu) rfl (by unfold YO;walk_at "re") h⟩)
noncomputable def wE(fu:Nat):TwS:=zo (sIf (bE (eOp Zs (zf (zk fu) [za 0,za 1,q8 10141,q8 3]) (q8 0))) (zJ (yS [zf (yK fu) [za 0,eOp xk (za 1) (q8 1),za 2]])) zF) (zo (zH (eOp zb0 (tL "+-*") (zf (zk fu) [za 0,za 1,q8 10151,q8 3])) (gN 3)) (zJ (yS [zf (yK fu) [za 0,eOp xk (za 1) (q8 1),za 2],za 3,zf (yK fu) [za 0,eOp xk (za 1) (q8 2),za 2]])))
noncomputable def Zj(fu:Nat):TwF:=zN 3 1 (wE fu)
theorem zai(T:Tx K mg):yh P w K mg base (CXE P w) 3 T.bD.a T.bD.fd ["_law_script","_law_k","_law_boxes_here"] (sTw K 3 (Zj fu)):=
 T.bD.F.okE XI (λvs H Q E h=>h.1) (λaP A outer s H vs Q E hr h=>⟨_,(zM (zW (xt (T.ae\(zw (fu:=fu) T,hr.mono ∅,zm,pv 0\(pv 1\(zc\(zc\zb))))) zc)) (¬(!(~~~((T.aE\(xL (fu:=fu) T,hr.mono ∅,zm,pv 0\(zq yv (pv 1) zc\(pv 2\zb))))\zb)))) zu<|>(XI^^^(3,uy rfl,zdP%(ze,T.ae\(zw (fu:=fu) T,hr.mono ∅,zm,pv 0\(pv 1\(zc\(zc\zb)))))))<|>¬(!(~~~((T.aE\(xL (fu:=fu) T,hr.mono ∅,zm,pv 0\(zq yv (pv 1) zc\(pv 2\zb))))\(pv 3\((T.aE\(xL (fu:=fu) T,hr.mono ∅,zm,pv 0\(zq yv (pv 1) zc\(pv 2\zb))))\zb)))))),yb (n:=3) (k:=1) (b:=wE fu) rfl (by unfold wE;walk_at "re") h⟩)
noncomputable def vE(fu:Nat):TwS:=zo (zH (xu [jr,iJ 0,iJ 1] (iR1 (za 2)) (gN 0) xF (zf (zk fu) [za 1,eOp xk (za 2) (za 0),q8 10159,q8 4])) (gN 3)) (zo (zH (zf (zk fu) [za 0,za 1,q8 10163,za 2]) (gN 4)) (zo (sIf (bE (eOp Zs (eFn zgF [za 3]) (q8 0))) (zH (q8 1) (zd2 (za 3) (za 4))) zF) (zo (sIf (bE (eOp Zs (zf (zk fu) [za 0,za 1,q8 10169,q8 6]) (q8 0))) (zH (eOp zb4 (eOp ziN (q8 10) (q8 9)) (q8 1)) (zd2 (za 3) (za 4))) zF) (zJ (eFn vS [za 3])))))
noncomputable def Yo(fu:Nat):TwF:=zN 3 2 (vE fu)
theorem zbv(T:Tx K mg):yh P w K mg base (CXE P w) 2 T.bV.a T.bV.fd ["_law_script","_law_k","_law_size"] (sTw K 3 (Yo fu)):=
 T.bV.F.okE Yn (λvs H Q E h=>h.1) (λaP A outer s H vs Q E hr h=>⟨_,(Tc (i:=3) (N':=["_law_at","_law_script","_law_k"]) rfl (blk (osc:=zg vV) rfl (by decide+kernel)) (xi (Ux (i:=0) rfl rfl (Ux (i:=1) rfl rfl xh))) (YS rfl T.ez (pv 2\zb)) (yw rfl) (λC s₀ H₀ fp=>zO (i:=0) (show(["_law_at","_law_script","_law_k"]:pR Str).Nodup from by decide+kernel) rfl (uy rfl)) (λC s₀ H₀ fp=>xm) (λC s₀ H₀ fp=>(T.ae\(zw (fu:=fu) T,hr.mono ∅,US,pv 1\(zq yv (pv 2) (pv 0)\(zc\(zc\zb)))))) Yn.nd rfl rfl<|>(Yn^^^(4,uy rfl,T.ae\(zw (fu:=fu) T,hr.mono ∅,zm,pv 0\(pv 1\(zc\(pv 2\zb))))))<|>zM (zW (xt (zx (zaJ (K:=K) rfl) rfl T.iX PyProof.Rows.Boot.«sum» (pv 3\zb)) zc)) (¬XT zc (zjo (pv 3) (pv 4) zeW)) zu<|>zM (zW (xt (T.ae\(zw (fu:=fu) T,hr.mono ∅,zm,pv 0\(pv 1\(zc\(zc\zb))))) zc)) (¬XT (zq Vz (zq zju zc zc) zc) (zjo (pv 3) (pv 4) zeW)) zu<|>¬(!yG (xq (K:=K)) rfl T.cC boot_tuple (pv 3\zb))),yb (n:=3) (k:=2) (b:=vE fu) rfl (by unfold vE;walk_at "re") h⟩)
noncomputable def ZR(fu:Nat):TwS:=zo (zH (zf (zk fu) [za 0,za 1,q8 10177,q8 8]) (gN 3)) (zo (sIf (Wt (bE (eOp dLt (za 3) (q8 5))) (bE (eOp dGt (eFn xO [za 2]) (q8 0)))) (zo (zH (eOp zS (za 2) (zf (zk fu) [za 0,za 1,q8 10181,eFn xO [za 2]])) (gT 2 (xf (gN 4) (xf (gN 5) XF)))) (zo (sIf (bE (eOp dLt (za 3) (q8 3))) (zJ (yS [tL "set",za 4,zf (Zj fu) [za 0,za 1,za 2]])) zF) (zJ (yS [tL "draw",za 4,zf (Yo fu) [za 0,za 1,za 5]])))) zF) (zo (sIf (bE (eOp Zs (za 3) (q8 5))) (zJ (yS [tL "pass"])) zF) (zo (sIf (bE (eOp Zs (za 3) (q8 6))) (zJ (yS [tL "look",zf (wS fu) [za 0,za 1,za 2]])) zF) (zJ (yS [tL "gain",zf (yK fu) [za 0,eOp xk (za 1) (q8 1),za 2]])))))
noncomputable def vj(fu:Nat):TwF:=zN 3 3 (ZR fu)
theorem zc9(T:Tx K mg):yh P w K mg base (CXE P w) 4 T.cL.a T.cL.fd ["_law_script","_law_k","_law_boxes_here"] (sTw K 3 (vj fu)):=
 T.cL.F.okE ZH (λvs H Q E h=>h.1) (λaP A outer s H vs Q E hr h=>⟨_,((ZH^^^(3,uy rfl,T.ae\(zw (fu:=fu) T,hr.mono ∅,zm,pv 0\(pv 1\(zc\(zc\zb))))))<|>zM (PW.pt (Yi (zW (zdi (pv 3) zc)) (vp (zW (ZX (zx (zP (K:=K)) rfl T.aN boot_len (pv 2\zb)) zc))))) (XT (zA (K:=K)%(pv 2,T.ae\(zw (fu:=fu) T,hr.mono ∅,zm,pv 0\(pv 1\(zc\(zx (zP (K:=K)) rfl T.aN boot_len (pv 2\zb)\zb)))))) (Yx (K:=K) (n:=2) rfl (yV (zO (i:=4) ZH.nd rfl (uy rfl)) (yV (zO (i:=5) ZH.nd rfl (uy rfl)) Yv)))<|>zM (zW (zdi (pv 3) zc)) (¬(!(~~~(ze\(pv 4\((T.bD\(zai (fu:=fu) T,hr.mono ∅,zm,pv 0\(pv 1\(pv 2\zb))))\zb)))))) zu<|>¬(!(~~~(ze\(pv 4\((T.bV\(zbv (fu:=fu) T,hr.mono ∅,zm,pv 0\(pv 1\(pv 5\zb))))\zb)))))) zu<|>zM (zW (xt (pv 3) zc)) (¬(!(~~~(ze\zb)))) zu<|>zM (zW (xt (pv 3) zc)) (¬(!(~~~(ze\((T.bW\(Vo (fu:=fu) T,hr.mono ∅,zm,pv 0\(pv 1\(pv 2\zb))))\zb))))) zu<|>¬(!(~~~(ze\((T.aE\(xL (fu:=fu) T,hr.mono ∅,zm,pv 0\(zq yv (pv 1) zc\(pv 2\zb))))\zb))))),yb (n:=3) (k:=3) (b:=ZR fu) rfl (by unfold ZR;walk_at "re") h⟩)
noncomputable def Zk(fu:Nat)(eN:TwF)(eM:TwF)(cA:TwF):TwS:=zo (zH (zf (zk fu) [za 0,za 1,q8 10187,q8 11]) (gN 5)) (zo (sIf (bOr (bE (eOp dGt (za 5) (q8 3))) (bE (eOp Zs (za 3) (q8 0)))) (zJ (yS [zf (vj fu) [za 0,za 1,za 2],eOp xk (za 1) (q8 1)])) zF) (zo (sIf (bE (eOp Zs (za 5) (q8 3))) (zJ (zf eM [za 0,za 1,za 2,za 3,za 4])) zF) (zo (zH (zf cA [za 0,eOp xk (za 1) (q8 1),za 2,eOp zb4 (za 3) (q8 1),za 4]) (gT 2 (xf (gN 6) (xf (gN 7) XF)))) (zo (sIf (bE (eOp Zs (za 5) (q8 0))) (zJ (yS [yS [tL "while",zf (wS fu) [za 0,za 1,za 2],za 6],za 7])) zF) (zo (sIf (bE (eOp Zs (za 5) (q8 1))) (zo (zH (zf (zk fu) [za 0,za 1,q8 10193,q8 4]) (gN 8)) (zo (sIf (bE (eOp Zs (zf (zk fu) [za 0,za 1,q8 10211,q8 8]) (q8 0))) (zH (zf (zk fu) [za 0,za 1,q8 10223,q8 61]) (gN 8)) zF) (zJ (yS [yS [tL "times",za 8,za 6],za 7])))) zF) (zo (zH (zf cA [za 0,za 7,za 2,eOp zb4 (za 3) (q8 1),za 4]) (gT 2 (xf (gN 9) (xf (gN 7) XF)))) (zJ (yS [yS [tL "if",zf (wS fu) [za 0,za 1,za 2],za 6,za 9],za 7]))))))))
noncomputable def Zl(fu:Nat)(eN:TwF)(eM:TwF)(cA:TwF):TwS:=zo (zH (eOp xk (q8 2) (zf (zk fu) [za 0,za 1,q8 10193,q8 3])) (gN 5)) (zo (sIf (bE (eOp Zs (zf (zk fu) [za 0,za 1,q8 10211,q8 8]) (q8 0))) (zH (q8 8) (gN 5)) zF) (zo (zH (yM []) (gN 6)) (zo (zH (eOp xk (za 1) (q8 1)) (gN 7)) (zo (UK (iR1 (za 5)) (gN 8) (zo (zH (zf cA [za 0,za 7,za 2,eOp zb4 (za 3) (q8 1),za 4]) (gT 2 (xf (gN 9) (xf (gN 7) XF)))) (yY (eMt yn (za 6) [za 9])))) (zJ (yS [yS [tL "hand",eFn vS [za 6]],za 7]))))))
noncomputable def vk(fu:Nat)(eN:TwF)(eM:TwF)(cA:TwF):TwS:=zo (zH (yM []) (gN 5)) (zo (zH (eOp dGt (zf (zk fu) [za 0,za 1,q8 10243,q8 6]) (q8 0)) (gN 6)) (zo (sWh fu (Wt (bE (za 6)) (bE (eOp dLt (za 1) (za 4)))) (zo (zH (eOp dGt (zf (zk fu) [za 0,za 1,q8 10247,q8 3]) (q8 0)) (gN 6)) (zo (zH (zf eN [za 0,za 1,za 2,za 3,za 4]) (gT 2 (xf (gN 7) (xf (gN 1) XF)))) (yY (eMt yn (za 5) [za 7]))))) (zJ (yS [eFn vS [za 5],za 1]))))
mutual
noncomputable def zZ(fu:Nat):Nat->TwF
 |0=>λ_ _=>jr
 |n+1=>zN 5 5 (Zk fu (zZ fu n) (yo fu n) (yf fu n))
noncomputable def yo(fu:Nat):Nat->TwF
 |0=>λ_ _=>jr
 |n+1=>zN 5 5 (Zl fu (zZ fu n) (yo fu n) (yf fu n))
noncomputable def yf(fu:Nat):Nat->TwF
 |0=>λ_ _=>jr
 |n+1=>zN 5 3 (vk fu (zZ fu n) (yo fu n) (yf fu n))
end
theorem XN(fu n:Nat):zZ fu (n+1)=zN 5 5 (Zk fu (zZ fu n) (yo fu n) (yf fu n)):=by rw[zZ]
theorem zaj(fu:Nat):zZ fu 0=λ_ _=>jr:=by rw[zZ]
theorem XO(fu n:Nat):yo fu (n+1)=zN 5 5 (Zl fu (zZ fu n) (yo fu n) (yf fu n)):=by rw[yo]
theorem zak(fu:Nat):yo fu 0=λ_ _=>jr:=by rw[yo]
theorem Xs(fu n:Nat):yf fu (n+1)=zN 5 3 (vk fu (zZ fu n) (yo fu n) (yf fu n)):=by rw[yf]
theorem Tq(fu:Nat):yf fu 0=λ_ _=>jr:=by rw[yf]
theorem zda(T:Tx K mg):∀n:Nat,yh P w K mg base (CXE P w) (4+n) T.bI.a T.bI.fd ["_law_script","_law_k","_law_boxes_here","_law_nested","_law_stop"] (sTw K 5 (zZ fu n))/\yh P w K mg base (CXE P w) (4+n) T.d5.a T.d5.fd ["_law_script","_law_k","_law_boxes_here","_law_nested","_law_stop"] (sTw K 5 (yo fu n))/\yh P w K mg base (CXE P w) (4+n) T.bK.a T.bK.fd ["_law_script","_law_k","_law_boxes_here","_law_nested","_law_stop"] (sTw K 5 (yf fu n)):=by
 intro n
 induction n with
 |zero=>
  refine⟨?_,?_,?_⟩
  .rw[zaj];exact wf
  .rw[zak];exact wf
  .rw[Tq];exact wf
 |succ n ih=>
  refine⟨?_,?_,?_⟩
  .rw[XN];exact T.bI.F.okE xP (λvs H Q E h=>h.1) (λaP A outer s H vs Q E hr h=>⟨_,((xP^^^(5,uy rfl,T.ae\(zw (fu:=fu) T,hr.mono (by walk_at "q2"),zm,pv 0\(pv 1\(zc\(zc\zb))))))<|>zM (PW.pt (UO (zW (ZX (pv 5) zc)) (XS (zW (xt (pv 3) zc))))) (¬(!(~~~((T.cL\(zc9 (fu:=fu) T,hr.mono (by walk_at "q2"),zm,pv 0\(pv 1\(pv 2\zb))))\(zq yv (pv 1) zc\zb))))) zu<|>zM (zW (xt (pv 5) zc)) (¬(!(T.d5\(ih.2.1,hr.mono (by walk_at "q2"),zm,pv 0\(pv 1\(pv 2\(pv 3\(pv 4\zb)))))))) zu<|>XT (T.bK\(ih.2.2,hr.mono (by walk_at "q2"),zm,pv 0\(zq yv (pv 1) zc\(pv 2\(zq Vz (pv 3) zc\(pv 4\zb)))))) (Yx (K:=K) (n:=2) rfl (yV (zO (i:=6) xP.nd rfl (uy rfl)) (yV (zO (i:=7) xP.nd rfl (uy rfl)) Yv)))<|>zM (zW (xt (pv 5) zc)) (¬(!(~~~((~~~(ze\((T.bW\(Vo (fu:=fu) T,hr.mono (by walk_at "q2"),zm,pv 0\(pv 1\(pv 2\zb))))\(pv 6\zb))))\(pv 7\zb))))) zu<|>zM (zW (xt (pv 5) zc)) ((xP^^^(8,uy rfl,T.ae\(zw (fu:=fu) T,hr.mono (by walk_at "q2"),zm,pv 0\(pv 1\(zc\(zc\zb))))))<|>zM (zW (xt (T.ae\(zw (fu:=fu) T,hr.mono (by walk_at "q2"),zm,pv 0\(pv 1\(zc\(zc\zb))))) zc)) (¬(xP^^^(8,uy rfl,T.ae\(zw (fu:=fu) T,hr.mono (by walk_at "q2"),zm,pv 0\(pv 1\(zc\(zc\zb))))))) zu<|>¬(!(~~~((~~~(ze\(pv 8\(pv 6\zb))))\(pv 7\zb))))) zu<|>XT (T.bK\(ih.2.2,hr.mono (by walk_at "q2"),zm,pv 0\(pv 7\(pv 2\(zq Vz (pv 3) zc\(pv 4\zb)))))) (Yx (K:=K) (n:=2) rfl (yV (zO (i:=9) xP.nd rfl (uy rfl)) (yV (zO (i:=7) xP.nd rfl (uy rfl)) Yv)))<|>¬(!(~~~((~~~(ze\((T.bW\(Vo (fu:=fu) T,hr.mono (by walk_at "q2"),zm,pv 0\(pv 1\(pv 2\zb))))\(pv 6\(pv 9\zb)))))\(pv 7\zb))))),yb (n:=5) (k:=5) (b:=Zk fu (zZ fu n) (yo fu n) (yf fu n)) rfl (by unfold Zk;walk_at "re") h⟩)
  .rw[XO];exact T.d5.F.okE xQ (λvs H Q E h=>h.1) (λaP A outer s H vs Q E hr h=>⟨_,((xQ^^^(5,uy rfl,zq yv zc (T.ae\(zw (fu:=fu) T,hr.mono (by walk_at "q2"),zm,pv 0\(pv 1\(zc\(zc\zb)))))))<|>zM (zW (xt (T.ae\(zw (fu:=fu) T,hr.mono (by walk_at "q2"),zm,pv 0\(pv 1\(zc\(zc\zb))))) zc)) (¬(xQ^^^(5,uy rfl,zc))) zu<|>(xQ^^^(6,uy rfl,@zV _ _ _ _ zb))<|>(xQ^^^(7,uy rfl,zq yv (pv 1) zc))<|>XU PassesOwn.leaving rfl (YS rfl T.ez (pv 5\zb)) (zO (i:=8) xQ.nd rfl (uy rfl)) (XT (T.bK\(ih.2.2,hr.mono (by walk_at "q2"),zm,pv 0\(pv 7\(pv 2\(zq Vz (pv 3) zc\(pv 4\zb)))))) (Yx (K:=K) (n:=2) rfl (yV (zO (i:=9) xQ.nd rfl (uy rfl)) (yV (zO (i:=7) xQ.nd rfl (uy rfl)) Yv)))<|>¬yU (wI uP uS uT yN (pv 6) (pv 9\zb)))<|>¬(!(~~~((~~~(ze\(yG (xq (K:=K)) rfl T.cC boot_tuple (pv 6\zb)\zb)))\(pv 7\zb))))),yb (n:=5) (k:=5) (b:=Zl fu (zZ fu n) (yo fu n) (yf fu n)) rfl (by unfold Zl;walk_at "re") h⟩)
  .rw[Xs];exact T.bK.F.okE ww (λvs H Q E h=>h.1) (λaP A outer s H vs Q E hr h=>⟨_,((ww^^^(5,uy rfl,@zV _ _ _ _ zb))<|>(ww^^^(6,uy rfl,Ta (ZX (T.ae\(zw (fu:=fu) T,hr.mono (by walk_at "q2"),zm,pv 0\(pv 1\(zc\(zc\zb))))) zc)))<|>YW PassesOwn.leaving (PW.pt (Yi (vG (pv 6)) (vp (zW (zdi (pv 1) (pv 4)))))) ((ww^^^(6,uy rfl,Ta (ZX (T.ae\(zw (fu:=fu) T,hr.mono (by walk_at "q2"),zm,pv 0\(pv 1\(zc\(zc\zb))))) zc)))<|>XT (T.bI\(ih.1,hr.mono (by walk_at "q2"),zm,pv 0\(pv 1\(pv 2\(pv 3\(pv 4\zb)))))) (Yx (K:=K) (n:=2) rfl (yV (zO (i:=7) ww.nd rfl (uy rfl)) (yV (zO (i:=1) ww.nd rfl (uy rfl)) Yv)))<|>¬yU (wI uP uS uT yN (pv 5) (pv 7\zb)))<|>¬(!(~~~(yG (xq (K:=K)) rfl T.cC boot_tuple (pv 5\zb)\(pv 1\zb))))),yb (n:=5) (k:=3) (b:=vk fu (zZ fu n) (yo fu n) (yf fu n)) rfl (by unfold vk;walk_at "re") h⟩)
theorem zex(T:Tx K mg)(n:Nat):yh P w K mg base (CXE P w) (4+n) T.bI.a T.bI.fd ["_law_script","_law_k","_law_boxes_here","_law_nested","_law_stop"] (sTw K 5 (zZ fu n)):=(zda T n).1
noncomputable def XQ(fu:Nat):TwS:=zo (zH (yM []) (gN 4)) (zo (zH (q8 0) (gN 5)) (zo (sWh fu (bE (eOp dLt (za 5) (za 3))) (zo (zH (zf (zZ fu 20) [za 0,za 5,za 1,za 2,za 3]) (gT 2 (xf (gN 6) (xf (gN 5) XF)))) (yY (eMt yn (za 4) [za 6])))) (zJ (za 4))))
noncomputable def Ul(fu:Nat):TwF:=zN 4 3 (XQ fu)
theorem zfI(T:Tx K mg):yh P w K mg base (CXE P w) 25 T.dw.a T.dw.fd ["_law_script","_law_boxes_here","_law_nested","_law_stop"] (sTw K 4 (Ul fu)):=
 T.dw.F.okE Yd (λvs H Q E h=>h.1) (λaP A outer s H vs Q E hr h=>⟨_,((Yd^^^(4,uy rfl,@zV _ _ _ _ zb))<|>(Yd^^^(5,uy rfl,zc))<|>YW PassesOwn.leaving (zW (zdi (pv 5) (pv 3))) (XT (T.bI\(zex (fu:=fu) T 20,hr.mono ∅,zm,pv 0\(pv 5\(pv 1\(pv 2\(pv 3\zb)))))) (Yx (K:=K) (n:=2) rfl (yV (zO (i:=6) Yd.nd rfl (uy rfl)) (yV (zO (i:=5) Yd.nd rfl (uy rfl)) Yv)))<|>¬yU (wI uP uS uT yN (pv 4) (pv 6\zb)))<|>¬(!pv 4)),yb (n:=4) (k:=3) (b:=XQ fu) rfl (by unfold XQ;walk_at "re") h⟩)
noncomputable def ZS(fu:Nat):TwS:=zo (sIf (bE (eOp (yz nW) (eOp zS (za 0) (q8 0)) (tL "if"))) (zJ (yM [eOp zS (za 0) (q8 2),eOp zS (za 0) (q8 3)])) zF) (zo (sIf (bOr (bE (eOp (yz nW) (eOp zS (za 0) (q8 0)) (tL "while"))) (bE (eOp (yz nW) (eOp zS (za 0) (q8 0)) (tL "times")))) (zJ (yM [eOp zS (za 0) (q8 2)])) zF) (zo (sIf (bE (eOp (yz nW) (eOp zS (za 0) (q8 0)) (tL "hand"))) (zJ (eFn zhF [eOp zS (za 0) (q8 1)])) zF) (zJ (yM []))))
noncomputable def ZT(fu:Nat):TwF:=zN 1 0 (ZS fu)
theorem zdb(T:Tx K mg):yh P w K mg base (CXE P w) 1 T.cM.a T.cM.fd ["_law_deed_here"] (sTw K 1 (ZT fu)):=
 T.cM.F.okE zc0 (λvs H Q E h=>h.1) (λaP A outer s H vs Q E hr h=>⟨_,(zM (zU xc (zA (K:=K)%(pv 0,zc)) ze (by rfl)) (¬(!@zV _ _ _ _ ((zA (K:=K)%(pv 0,zc))\((zA (K:=K)%(pv 0,zc))\zb)))) zu<|>zM (PW.pt (UO (zU xc (zA (K:=K)%(pv 0,zc)) ze (by rfl)) (XS (zU xc (zA (K:=K)%(pv 0,zc)) ze (by rfl))))) (¬(!@zV _ _ _ _ ((zA (K:=K)%(pv 0,zc))\zb))) zu<|>zM (zU xc (zA (K:=K)%(pv 0,zc)) ze (by rfl)) (¬(!yG (zgt (K:=K)) rfl T.jG boot_list ((zA (K:=K)%(pv 0,zc))\zb))) zu<|>¬(!@zV _ _ _ _ zb)),yb (n:=1) (k:=0) (b:=ZS fu) rfl (by unfold ZS;walk_at "re") h⟩)
noncomputable def Zm(fu:Nat):TwS:=zo (zH (q8 0) (gN 1)) (zo (zH (yM [yS [za 0,q8 1]]) (gN 2)) (zo (sWh fu (bE (eOp dGt (eFn xO [za 2]) (q8 0))) (zo (zH (eMt ziK (za 2) []) (gT 2 (xf (gN 3) (xf (gN 4) XF)))) (UK (iA (za 3)) (gN 5) (zo (zH (eOp xk (za 1) (za 4)) (gN 1)) (zo (zH (za 4) (gN 6)) (zo (sIf (bE (eOp (yz nW) (eOp zS (za 5) (q8 0)) (tL "times"))) (zo (zH (eOp Wv (za 4) (eFn zfh [q8 1,eOp zS (za 5) (q8 1)])) (gN 6)) (zH (eOp xk (za 1) (za 6)) (gN 1))) zF) (UK (iL (zf (ZT fu) [za 5])) (gN 7) (yY (eMt yn (za 2) [yS [za 7,za 6]]))))))))) (zJ (za 1))))
noncomputable def wa(fu:Nat):TwF:=zN 1 7 (Zm fu)
theorem Um(T:Tx K mg):yh P w K mg base (CXE P w) 2 T.bP.a T.bP.fd ["_law_block_here"] (sTw K 1 (wa fu)):=
 T.bP.F.okE yA (λvs H Q E h=>h.1) (λaP A outer s H vs Q E hr h=>⟨_,((yA^^^(1,uy rfl,zc))<|>(yA^^^(2,uy rfl,@zV _ _ _ _ ((~~~(pv 0\(zc\zb)))\zb)))<|>YW PassesOwn.leaving (zW (ZX (zx (zP (K:=K)) rfl T.aN boot_len (pv 2\zb)) zc)) (XT (zov uP PySem.F.slot_list_pop PySem.F.type_list_pop zow (pv 2)) (Yx (K:=K) (n:=2) rfl (yV (zO (i:=3) yA.nd rfl (uy rfl)) (yV (zO (i:=4) yA.nd rfl (uy rfl)) Yv)))<|>¬XU PassesOwn.leaving rfl (zhV (K:=K) (pv 3)) (zO (i:=5) yA.nd rfl (uy rfl)) ((yA^^^(1,uy rfl,zq yv (pv 1) (pv 4)))<|>(yA^^^(6,uy rfl,pv 4))<|>zM (zU xc (zA (K:=K)%(pv 5,zc)) ze (by rfl)) ((yA^^^(6,uy rfl,zq WK (pv 4) (zx (zaE rfl) rfl T.iy boot_max (zc\((zA (K:=K)%(pv 5,zc))\zb)))))<|>¬(yA^^^(1,uy rfl,zq yv (pv 1) (pv 6)))) zu<|>¬XU PassesOwn.leaving rfl (VH (K:=K) (T.cM\(zdb (fu:=fu) T,hr.mono ∅,zm,pv 5\zb))) (zO (i:=7) yA.nd rfl (uy rfl)) (¬yU (wI uP uS uT yN (pv 2) ((~~~(pv 7\(pv 6\zb)))\zb)))))<|>¬(!pv 1)),yb (n:=1) (k:=7) (b:=Zm fu) rfl (by unfold Zm;walk_at "re") h⟩)
noncomputable def ZU(fu:Nat):TwS:=zJ (zaS Vv (tL " ") [xu [jr] (iT (za 0)) (gN 0) xF (eFn zbp [za 0])])
noncomputable def yR(fu:Nat):TwF:=zN 1 0 (ZU fu)
theorem ZV(T:Tx K mg):yh P w K mg base (CXE P w) 1 T.bz.a T.bz.fd ["_law_some"] (sTw K 1 (yR fu)):=
 T.bz.F.okE zc1 (λvs H Q E h=>h.1) (λaP A outer s H vs Q E hr h=>⟨_,¬(!wI Ap Bl Bm zbF ze (yk (xN (N':=["_law_one"]) rfl (blk (osc:=zg YD) rfl (by decide+kernel)) (xi xh) (wA (K:=K) (pv 0)) (yw rfl) (λC s₀ H₀ fp=>zO (i:=0) (show(["_law_one"]:pR Str).Nodup from by decide+kernel) rfl (uy rfl)) (λC s₀ H₀ fp=>xm) (λC s₀ H₀ fp=>(yG UF rfl T.iq PyProof.Rows.Boot.«str» (pv 0\zb)))) zb)),yb (n:=1) (k:=0) (b:=ZU fu) rfl (by unfold ZU;walk_at "re") h⟩)
noncomputable def Zn(fu:Nat)(bQ:TwF)(du:TwF):TwS:=zo (zH (yM []) (gN 1)) (zo (UK (iA (za 0)) (gN 2) (sIf (bE (eOp (yz nW) (eOp zS (za 2) (q8 0)) (tL "pass"))) (yY (eMt yn (za 1) [tL "pass"])) (sIf (bE (eOp (yz nW) (eOp zS (za 2) (q8 0)) (tL "gain"))) (yY (eMt yn (za 1) [eOp zQ (tL "gain ") (eFn zbp [eOp zS (za 2) (q8 1)])])) (sIf (bOr (bE (eOp (yz nW) (eOp zS (za 2) (q8 0)) (tL "set"))) (bE (eOp (yz nW) (eOp zS (za 2) (q8 0)) (tL "draw")))) (yY (eMt yn (za 1) [eOp zQ (eOp zQ (eOp zQ (eOp zQ (eOp zS (za 2) (q8 0)) (tL " ")) (eOp zS (za 2) (q8 1))) (tL " ")) (zf (yR fu) [eOp zS (za 2) (q8 2)])])) (sIf (bE (eOp (yz nW) (eOp zS (za 2) (q8 0)) (tL "look"))) (yY (eMt yn (za 1) [eOp zQ (tL "look ") (zf (yR fu) [eOp zS (za 2) (q8 1)])])) (zH (eOp yI (za 1) (zf du [za 2])) (gN 1))))))) (zJ (za 1)))
noncomputable def xl(fu:Nat)(bQ:TwF)(du:TwF):TwS:=zo (sIf (bE (eOp (yz nW) (eOp zS (za 0) (q8 0)) (tL "if"))) (zo (zH (eOp yI (yM [eOp zQ (tL "if ") (zf (yR fu) [eOp zS (za 0) (q8 1)])]) (zf bQ [eOp zS (za 0) (q8 2)])) (gN 1)) (zH (eOp yI (eOp yI (za 1) (yM [tL "else"])) (zf bQ [eOp zS (za 0) (q8 3)])) (gN 1))) (sIf (bE (eOp (yz nW) (eOp zS (za 0) (q8 0)) (tL "while"))) (zH (eOp yI (yM [eOp zQ (tL "while ") (zf (yR fu) [eOp zS (za 0) (q8 1)])]) (zf bQ [eOp zS (za 0) (q8 2)])) (gN 1)) (sIf (bE (eOp (yz nW) (eOp zS (za 0) (q8 0)) (tL "times"))) (zH (eOp yI (yM [eOp zQ (tL "times ") (eFn zbp [eOp zS (za 0) (q8 1)])]) (zf bQ [eOp zS (za 0) (q8 2)])) (gN 1)) (zo (zH (eOp yI (yM [tL "hand"]) (zf bQ [eOp zS (eOp zS (za 0) (q8 1)) (q8 0)])) (gN 1)) (UK (iT (eSl zgB (eOp zS (za 0) (q8 1)) (vg (q8 1)) oNo)) (gN 2) (zH (eOp yI (eOp yI (za 1) (yM [tL "or"])) (zf bQ [za 2])) (gN 1))))))) (zJ (eOp yI (za 1) (yM [tL "end"])))
mutual
noncomputable def zX(fu:Nat):Nat->TwF
 |0=>λ_ _=>jr
 |n+1=>zN 1 2 (Zn fu (zX fu n) (zK fu n))
noncomputable def zK(fu:Nat):Nat->TwF
 |0=>λ_ _=>jr
 |n+1=>zN 1 2 (xl fu (zX fu n) (zK fu n))
end
theorem XR(fu n:Nat):zX fu (n+1)=zN 1 2 (Zn fu (zX fu n) (zK fu n)):=by rw[zX]
theorem zal(fu:Nat):zX fu 0=λ_ _=>jr:=by rw[zX]
theorem vm(fu n:Nat):zK fu (n+1)=zN 1 2 (xl fu (zX fu n) (zK fu n)):=by rw[zK]
theorem Wl(fu:Nat):zK fu 0=λ_ _=>jr:=by rw[zK]
theorem zdc(T:Tx K mg):∀n:Nat,yh P w K mg base (CXE P w) (1+n) T.aB.a T.aB.fd ["_law_block_here"] (sTw K 1 (zX fu n))/\yh P w K mg base (CXE P w) (1+n) T.bh.a T.bh.fd ["_law_deed_here"] (sTw K 1 (zK fu n)):=by
 intro n
 induction n with
 |zero=>
  refine⟨?_,?_⟩
  .rw[zal];exact wf
  .rw[Wl];exact wf
 |succ n ih=>
  refine⟨?_,?_⟩
  .rw[XR];exact T.aB.F.okE YE (λvs H Q E h=>h.1) (λaP A outer s H vs Q E hr h=>⟨_,((YE^^^(1,uy rfl,@zV _ _ _ _ zb))<|>XU PassesOwn.leaving rfl (zhV (K:=K) (pv 0)) (zO (i:=2) YE.nd rfl (uy rfl)) (¬zM (zU xc (zA (K:=K)%(pv 2,zc)) ze (by rfl)) (¬yU (wI uP uS uT yN (pv 1) (ze\zb))) (¬zM (zU xc (zA (K:=K)%(pv 2,zc)) ze (by rfl)) (¬yU (wI uP uS uT yN (pv 1) (zq zr ze (yG UF rfl T.iq PyProof.Rows.Boot.«str» ((zA (K:=K)%(pv 2,zc))\zb))\zb))) (¬zM (PW.pt (UO (zU xc (zA (K:=K)%(pv 2,zc)) ze (by rfl)) (XS (zU xc (zA (K:=K)%(pv 2,zc)) ze (by rfl))))) (¬yU (wI uP uS uT yN (pv 1) (zq zr (zq zr (zq zr (zq zr (zA (K:=K)%(pv 2,zc)) ze) (zA (K:=K)%(pv 2,zc))) ze) (T.bz\(ZV (fu:=fu) T,hr.mono (by walk_at "q2"),zm,(zA (K:=K)%(pv 2,zc))\zb))\zb))) (¬zM (zU xc (zA (K:=K)%(pv 2,zc)) ze (by rfl)) (¬yU (wI uP uS uT yN (pv 1) (zq zr ze (T.bz\(ZV (fu:=fu) T,hr.mono (by walk_at "q2"),zm,(zA (K:=K)%(pv 2,zc))\zb))\zb))) (¬(YE^^^(1,uy rfl,zq (yO (K:=K)) (pv 1) (T.bh\(ih.2,hr.mono (by walk_at "q2"),zm,pv 2\zb)))))))))<|>¬(!pv 1)),yb (n:=1) (k:=2) (b:=Zn fu (zX fu n) (zK fu n)) rfl (by unfold Zn;walk_at "re") h⟩)
  .rw[vm];exact T.bh.F.okE yt (λvs H Q E h=>h.1) (λaP A outer s H vs Q E hr h=>⟨_,(zM (zU xc (zA (K:=K)%(pv 0,zc)) ze (by rfl)) ((yt^^^(1,uy rfl,zq (yO (K:=K)) (@zV _ _ _ _ (zq zr ze (T.bz\(ZV (fu:=fu) T,hr.mono (by walk_at "q2"),zm,(zA (K:=K)%(pv 0,zc))\zb))\zb)) (T.aB\(ih.1,hr.mono (by walk_at "q2"),zm,(zA (K:=K)%(pv 0,zc))\zb))))<|>¬(yt^^^(1,uy rfl,zq (yO (K:=K)) (zq (yO (K:=K)) (pv 1) (@zV _ _ _ _ (ze\zb))) (T.aB\(ih.1,hr.mono (by walk_at "q2"),zm,(zA (K:=K)%(pv 0,zc))\zb))))) (¬zM (zU xc (zA (K:=K)%(pv 0,zc)) ze (by rfl)) (¬(yt^^^(1,uy rfl,zq (yO (K:=K)) (@zV _ _ _ _ (zq zr ze (T.bz\(ZV (fu:=fu) T,hr.mono (by walk_at "q2"),zm,(zA (K:=K)%(pv 0,zc))\zb))\zb)) (T.aB\(ih.1,hr.mono (by walk_at "q2"),zm,(zA (K:=K)%(pv 0,zc))\zb))))) (¬zM (zU xc (zA (K:=K)%(pv 0,zc)) ze (by rfl)) (¬(yt^^^(1,uy rfl,zq (yO (K:=K)) (@zV _ _ _ _ (zq zr ze (yG UF rfl T.iq PyProof.Rows.Boot.«str» ((zA (K:=K)%(pv 0,zc))\zb))\zb)) (T.aB\(ih.1,hr.mono (by walk_at "q2"),zm,(zA (K:=K)%(pv 0,zc))\zb))))) ((yt^^^(1,uy rfl,zq (yO (K:=K)) (@zV _ _ _ _ (ze\zb)) (T.aB\(ih.1,hr.mono (by walk_at "q2"),zm,(zA (K:=K)%(zA (K:=K)%(pv 0,zc),zc))\zb))))<|>¬XU PassesOwn.leaving rfl (wA (K:=K) (xW (zmj (K:=K)) (zA (K:=K)%(pv 0,zc)) (wN zc) wM)) (zO (i:=2) yt.nd rfl (uy rfl)) (¬(yt^^^(1,uy rfl,zq (yO (K:=K)) (zq (yO (K:=K)) (pv 1) (@zV _ _ _ _ (ze\zb))) (T.aB\(ih.1,hr.mono (by walk_at "q2"),zm,pv 2\zb))))))))<|>¬(!zq (yO (K:=K)) (pv 1) (@zV _ _ _ _ (ze\zb)))),yb (n:=1) (k:=2) (b:=xl fu (zX fu n) (zK fu n)) rfl (by unfold xl;walk_at "re") h⟩)
theorem zam(T:Tx K mg)(n:Nat):yh P w K mg base (CXE P w) (1+n) T.aB.a T.aB.fd ["_law_block_here"] (sTw K 1 (zX fu n)):=(zdc T n).1
noncomputable def wT(fu:Nat):TwS:=zo (zH (xu [jr] (iT (za 0)) (gN 0) xF (eOp zQ (eOp zQ (eOp zQ (tL "box ") (eOp zS (za 0) (q8 0))) (tL " ")) (eFn zbp [eOp zS (za 0) (q8 1)]))) (gN 2)) (zJ (eOp yI (za 2) (zf (zX fu 40) [za 1])))
noncomputable def Zz(fu:Nat):TwF:=zN 2 1 (wT fu)
theorem za0(T:Tx K mg):yh P w K mg base (CXE P w) 42 T.bN.a T.bN.fd ["_law_boxes_here","_law_block_here"] (sTw K 2 (Zz fu)):=
 T.bN.F.okE WA (λvs H Q E h=>h.1) (λaP A outer s H vs Q E hr h=>⟨_,(Tc (i:=2) (N':=["_law_one"]) rfl (blk (osc:=zg vt) rfl (by decide+kernel)) (xi xh) (wA (K:=K) (pv 0)) (yw rfl) (λC s₀ H₀ fp=>zO (i:=0) (show(["_law_one"]:pR Str).Nodup from by decide+kernel) rfl (uy rfl)) (λC s₀ H₀ fp=>xm) (λC s₀ H₀ fp=>(zq zr (zq zr (zq zr ze (zA (K:=K)%(pv 0,zc))) ze) (yG UF rfl T.iq PyProof.Rows.Boot.«str» ((zA (K:=K)%(pv 0,zc))\zb)))) WA.nd rfl rfl<|>¬(!zq (yO (K:=K)) (pv 2) (T.aB\(zam (fu:=fu) T 40,hr.mono ∅,zm,pv 1\zb)))),yb (n:=2) (k:=1) (b:=wT fu) rfl (by unfold wT;walk_at "re") h⟩)
noncomputable def YQ(fu:Nat):TwS:=zo (zH (xu [jr] (iT (za 0)) (gN 0) xF (eOp zS (za 0) (q8 0))) (gN 1)) (zJ (eOp vN (xu [jr,iJ 1] (iS (tL "abcdefghij")) (gN 0) (bE (eOp (dIn jD) (za 0) (za 1))) (za 0)) (q8 0)))
noncomputable def YR(fu:Nat):TwF:=zN 1 1 (YQ fu)
theorem zan(T:Tx K mg):yh P w K mg base (CXE P w) 1 T.cx.a T.cx.fd ["_law_boxes_here"] (sTw K 1 (YR fu)):=
 T.cx.F.okE zad (λvs H Q E h=>h.1) (λaP A outer s H vs Q E hr h=>⟨_,((zad^^^(1,DI rfl,xN (N':=["_law_box"]) rfl (blk (osc:=zg Yc) rfl (by decide+kernel)) (xi xh) (wA (K:=K) (pv 0)) (yw rfl) (λC s₀ H₀ fp=>zO (i:=0) (show(["_law_box"]:pR Str).Nodup from by decide+kernel) rfl (uy rfl)) (λC s₀ H₀ fp=>xm) (λC s₀ H₀ fp=>(zA (K:=K)%(pv 0,zc)))))<|>¬(!(yD (K:=K)%(xN (N':=["_law_name_here","_law_names"]) rfl (blk (osc:=zg Yc) rfl (by decide+kernel)) (xi (Ux (i:=1) rfl rfl xh)) (zgN ze) (yw rfl) (λC s₀ H₀ fp=>zO (i:=0) (show(["_law_name_here","_law_names"]:pR Str).Nodup from by decide+kernel) rfl (uy rfl)) (λC s₀ H₀ fp=>zma (zU (Wr (K:=K)) (pv 0) (pv 1) (by rfl))) (λC s₀ H₀ fp=>(pv 0)),zc)))),yb (n:=1) (k:=1) (b:=YQ fu) rfl (by unfold YQ;walk_at "re") h⟩)
noncomputable def wU(fu:Nat):TwS:=zo (zH (zf (YR fu) [za 1]) (gN 3)) (zo (zH (eOp zS (eOp zfg (za 1) (yS [yS [za 3,q8 2]])) (zf (zk fu) [za 0,q8 61,q8 10253,eFn zfh [q8 1,eFn xO [za 1]]])) (gT 2 (xf (gN 4) (xf (gN 5) XF)))) (zo (zH (yM [yM [eOp zQ (eOp zQ (tL "set ") (za 3)) (tL " 1")],yM [eOp zQ (eOp zQ (eOp zQ (tL "set ") (za 4)) (tL " ")) (za 3)],yM [eOp zQ (eOp zQ (eOp zQ (tL "set ") (za 4)) (tL " 1 + ")) (za 3)],yM [eOp zQ (tL "gain ") (za 3)]]) (gN 6)) (zo (zH (eOp yI (za 6) (yM [yM [eOp zQ (eOp zQ (tL "draw ") (za 4)) (eOp TY (tL " 1") (eOp xk (za 5) (q8 1)))],yM [eOp zQ (eOp zQ (tL "draw ") (za 4)) (eOp TY (tL " 0") (za 5))],yM [eOp zQ (eOp zQ (tL "draw ") (za 3)) (tL " 1 1")]])) (gN 6)) (zo (zH (eOp yI (za 6) (yM [yM [eOp zQ (eOp zQ (tL "look ") (za 3)) (tL " = 0")],yM [eOp zQ (tL "look 0 < ") (za 3)],yM [eOp zQ (tL "while 0 = ") (za 3),tL "end"],yM [tL "times 61",tL "end"]])) (gN 6)) (zo (zH (eOp yI (za 6) (yM [yM [eOp zQ (eOp zQ (tL "if ") (za 3)) (tL " # 1"),tL "else",tL "end"],eOp yI (eOp yI (yM [tL "hand",tL "or"]) (xu [jr] (iR1 (q8 7)) (gN 0) xF (tL "or"))) (yM [tL "end"])])) (gN 6)) (zo (zH (eOp yI (za 6) (yM [yM [tL "times 999999999",tL "pass",tL "end"],xu [jr] (iR1 (eOp zb4 (q8 101) (zf (wa fu) [za 2]))) (gN 0) xF (tL "pass")])) (gN 6)) (zo (sIf (bE (eOp dGt (za 5) (q8 1))) (yY (eMt yn (za 6) [yM [eOp zQ (eOp zQ (tL "draw ") (za 4)) (eOp TY (tL " 1") (eOp zb4 (za 5) (q8 1)))]])) zF) (zJ (eOp vN (za 6) (zf (zk fu) [za 0,q8 62,q8 10259,eFn xO [za 6]]))))))))))
noncomputable def ZB(fu:Nat):TwF:=zN 3 4 (wU fu)
theorem za1(T:Tx K mg):yh P w K mg base (CXE P w) 3 T.bM.a T.bM.fd ["_law_script","_law_boxes_here","_law_block_here"] (sTw K 3 (ZB fu)):=
 T.bM.F.okE yC (λvs H Q E h=>h.1) (λaP A outer s H vs Q E hr h=>⟨_,((yC^^^(3,uy rfl,T.cx\(zan (fu:=fu) T,hr.mono ∅,zm,pv 1\zb)))<|>XT (zA (K:=K)%(zq (zmh (K:=K)) (pv 1) (~~~((~~~(pv 3\(zc\zb)))\zb)),T.ae\(zw (fu:=fu) T,hr.mono ∅,zm,pv 0\(zc\(zc\(zx (zaE rfl) rfl T.iy boot_max (zc\(zx (zP (K:=K)) rfl T.aN boot_len (pv 1\zb)\zb))\zb)))))) (Yx (K:=K) (n:=2) rfl (yV (zO (i:=4) yC.nd rfl (uy rfl)) (yV (zO (i:=5) yC.nd rfl (uy rfl)) Yv)))<|>(yC^^^(6,uy rfl,@zV _ _ _ _ (@zV _ _ _ _ (zq zr (zq zr ze (pv 3)) ze\zb)\(@zV _ _ _ _ (zq zr (zq zr (zq zr ze (pv 4)) ze) (pv 3)\zb)\(@zV _ _ _ _ (zq zr (zq zr (zq zr ze (pv 4)) ze) (pv 3)\zb)\(@zV _ _ _ _ (zq zr ze (pv 3)\zb)\zb))))))<|>(yC^^^(6,uy rfl,zq (yO (K:=K)) (pv 6) (@zV _ _ _ _ (@zV _ _ _ _ (zq zr (zq zr ze (pv 4)) (zq Tj ze (zq yv (pv 5) zc))\zb)\(@zV _ _ _ _ (zq zr (zq zr ze (pv 4)) (zq Tj ze (pv 5))\zb)\(@zV _ _ _ _ (zq zr (zq zr ze (pv 3)) ze\zb)\zb))))))<|>(yC^^^(6,uy rfl,zq (yO (K:=K)) (pv 6) (@zV _ _ _ _ (@zV _ _ _ _ (zq zr (zq zr ze (pv 3)) ze\zb)\(@zV _ _ _ _ (zq zr ze (pv 3)\zb)\(@zV _ _ _ _ (zq zr ze (pv 3)\(ze\zb))\(@zV _ _ _ _ (ze\(ze\zb))\zb)))))))<|>(yC^^^(6,uy rfl,zq (yO (K:=K)) (pv 6) (@zV _ _ _ _ (@zV _ _ _ _ (zq zr (zq zr ze (pv 3)) ze\(ze\(ze\zb)))\(zq (yO (K:=K)) (zq (yO (K:=K)) (@zV _ _ _ _ (ze\(ze\zb))) (xN (N':=["_law_k"]) rfl (blk (osc:=zg wq) rfl (by decide+kernel)) (xi xh) (YS rfl T.ez (zc\zb)) (yw rfl) (λC s₀ H₀ fp=>zO (i:=0) (show(["_law_k"]:pR Str).Nodup from by decide+kernel) rfl (uy rfl)) (λC s₀ H₀ fp=>xm) (λC s₀ H₀ fp=>ze))) (@zV _ _ _ _ (ze\zb))\zb)))))<|>(yC^^^(6,uy rfl,zq (yO (K:=K)) (pv 6) (@zV _ _ _ _ (@zV _ _ _ _ (ze\(ze\(ze\zb)))\(yk (xN (N':=["_law_k"]) rfl (blk (osc:=zg wq) rfl (by decide+kernel)) (xi xh) (YS rfl T.ez (zq Vz zc (T.bP\(Um (fu:=fu) T,hr.mono ∅,zm,pv 2\zb))\zb)) (yw rfl) (λC s₀ H₀ fp=>zO (i:=0) (show(["_law_k"]:pR Str).Nodup from by decide+kernel) rfl (uy rfl)) (λC s₀ H₀ fp=>xm) (λC s₀ H₀ fp=>ze)) zb)))))<|>zM (zW (ZX (pv 5) zc)) (¬yU (wI uP uS uT yN (pv 6) (@zV _ _ _ _ (zq zr (zq zr ze (pv 4)) (zq Tj ze (zq Vz (pv 5) zc))\zb)\zb))) zu<|>¬(!(yD (K:=K)%(pv 6,T.ae\(zw (fu:=fu) T,hr.mono ∅,zm,pv 0\(zc\(zc\(zx (zP (K:=K)) rfl T.aN boot_len (pv 6\zb)\zb)))))))),yb (n:=3) (k:=4) (b:=wU fu) rfl (by unfold wU;walk_at "re") h⟩)
noncomputable def wF(fu:Nat):TwS:=zo (zH (zf (YR fu) [za 1]) (gN 2)) (zo (zH (yM [yM [eOp zQ (eOp zQ (tL "box ") (za 2)) (tL " 0")],yM [eOp zQ (eOp zQ (tL "box ") (za 2)) (tL " 10")],yM [eOp zQ (eOp zQ (tL "box ") (za 2)) (tL " 999999999")]]) (gN 3)) (zo (zH (eOp yI (za 3) (yM [yM [eOp zQ (eOp zQ (tL "box ") (za 2)) (tL " 1"),eOp zQ (eOp zQ (tL "box ") (za 2)) (tL " 2")]])) (gN 3)) (zo (zH (eOp yI (za 3) (yM [xu [jr] (iS (tL "abcdefghij")) (gN 0) xF (eOp zQ (eOp zQ (tL "box four") (za 0)) (tL " 1"))])) (gN 3)) (zo (zH (eOp yI (za 3) (yM [yM [tL "box seven 7",tL "box eight 8",tL "box nine 9",tL "box two 2"]])) (gN 3)) (zo (sIf (bE (eOp dGt (eFn xO [za 1]) (q8 0))) (yY (eMt yn (za 3) [yM [eOp zQ (eOp zQ (tL "box ") (eOp zS (eOp zS (za 1) (zf (zk fu) [za 0,q8 63,q8 10267,eFn xO [za 1]])) (q8 0))) (tL " 1")]])) zF) (zJ (eOp vN (za 3) (zf (zk fu) [za 0,q8 64,q8 10271,eFn xO [za 3]]))))))))
noncomputable def Zo(fu:Nat):TwF:=zN 2 2 (wF fu)
theorem zao(T:Tx K mg):yh P w K mg base (CXE P w) 2 T.bF.a T.bF.fd ["_law_script","_law_boxes_here"] (sTw K 2 (Zo fu)):=
 T.bF.F.okE xj (λvs H Q E h=>h.1) (λaP A outer s H vs Q E hr h=>⟨_,((xj^^^(2,uy rfl,T.cx\(zan (fu:=fu) T,hr.mono ∅,zm,pv 1\zb)))<|>(xj^^^(3,uy rfl,@zV _ _ _ _ (@zV _ _ _ _ (zq zr (zq zr ze (pv 2)) ze\zb)\(@zV _ _ _ _ (zq zr (zq zr ze (pv 2)) ze\zb)\(@zV _ _ _ _ (zq zr (zq zr ze (pv 2)) ze\zb)\zb)))))<|>(xj^^^(3,uy rfl,zq (yO (K:=K)) (pv 3) (@zV _ _ _ _ (@zV _ _ _ _ (zq zr (zq zr ze (pv 2)) ze\(zq zr (zq zr ze (pv 2)) ze\zb))\zb))))<|>(xj^^^(3,uy rfl,zq (yO (K:=K)) (pv 3) (@zV _ _ _ _ (yk (xN (N':=["_law_letter"]) rfl (blk (osc:=zg wO) rfl (by decide+kernel)) (xi xh) (zgN ze) (yw rfl) (λC s₀ H₀ fp=>zO (i:=0) (show(["_law_letter"]:pR Str).Nodup from by decide+kernel) rfl (uy rfl)) (λC s₀ H₀ fp=>xm) (λC s₀ H₀ fp=>(zq zr (zq zr ze (pv 0)) ze))) zb))))<|>(xj^^^(3,uy rfl,zq (yO (K:=K)) (pv 3) (@zV _ _ _ _ (@zV _ _ _ _ (ze\(ze\(ze\(ze\zb))))\zb))))<|>zM (zW (ZX (zx (zP (K:=K)) rfl T.aN boot_len (pv 1\zb)) zc)) (¬yU (wI uP uS uT yN (pv 3) (@zV _ _ _ _ (zq zr (zq zr ze (zA (K:=K)%(zA (K:=K)%(pv 1,T.ae\(zw (fu:=fu) T,hr.mono ∅,zm,pv 0\(zc\(zc\(zx (zP (K:=K)) rfl T.aN boot_len (pv 1\zb)\zb))))),zc))) ze\zb)\zb))) zu<|>¬(!(yD (K:=K)%(pv 3,T.ae\(zw (fu:=fu) T,hr.mono ∅,zm,pv 0\(zc\(zc\(zx (zP (K:=K)) rfl T.aN boot_len (pv 3\zb)\zb)))))))),yb (n:=2) (k:=2) (b:=wF fu) rfl (by unfold wF;walk_at "re") h⟩)
noncomputable def Yp(fu:Nat):TwS:=zo (zH (eC (.bl nW)) (gN 1)) (zo (zkP 2 jr (XM fu) [0] ["NoProgram"] (zH (zcP (eUn (zbo (Xh [("NoProgram",jD)])) (za 2)) (zcP (eUn (zbo (Xh [("NoProgram",jD)])) (za 2)) (eB (Xd (bE (eUn (zbo (Xh [("NoProgram",nW)])) (za 2))))))) (gN 1))) (zJ (za 1)))
noncomputable def Yq(fu:Nat):TwF:=zN 1 2 (Yp fu)
theorem zbw(T:Tx K mg):yh P w K mg base (CXE P w) 69 T.bX.a T.bX.fd ["_law_text"] (sTw K 1 (Yq fu)):=
 T.bX.F.okE vx (λvs H Q E h=>h.1) (λaP A outer s H vs Q E hr h=>⟨_,((vx^^^(1,uy rfl,XA))<|>zjW (i:=2) (zjU (zjS (zev (fu:=fu) T) (hr.mono ∅) rfl T.eE.m T.eE.F.kp T.eE.b .nil (zjR (zoy (pv 0)) zme))) rfl rfl rfl (λe=>zgq rfl T.gC) vx.nd rfl rfl (λe=>(¬(vx^^^(1,uy rfl,zaB (zx (Wq (K:=K)) rfl T.bJ boot_isinstance (yk (pv 2) (yk (yE (v:= .ref T.ak) rfl T.gy rfl) zb))) (zaB (zx (Wq (K:=K)) rfl T.bJ boot_isinstance (yk (pv 2) (yk (zbx (v:= .ty "ValueError") rfl T.fQ PyProof.Rows.Boot.«ValueError» rfl) zb))) (zaA (zjm (zx (zgs (K:=K)) rfl T.bJ boot_isinstance (yk (pv 2) (yk (~~~(yk (yE (v:= .ref T.aJ) rfl T.hZ rfl) (yk (yE (v:= .ref T.bj) rfl T.iY rfl) (yk (yE (v:= .ref T.aR) rfl T.iC rfl) (yk (yE (v:= .ref T.aQ) rfl T.iB rfl) (yk (yE (v:= .ref T.aK) rfl T.i3 rfl) (yk (yE (v:= .ref T.aI) rfl T.hX rfl) zb))))))) zb))))))))))<|>¬(!pv 1)),yb (n:=1) (k:=2) (b:=Yp fu) rfl (yl (va (znJ _) xC) (yl (zpa (zbg.cons T.bZ (zoz T.bY T.gE.hc T.cu T.aD) zbg.nil) (zmK 0 zmJ) (.inr ⟨rfl,rfl⟩) (va (zgz (zkQ rfl (UU.cons T.bZ T.cX (WL T.cX.hc T.cq T.af (λ_=>rfl)) UU.nil) (zt 2)) (zgz (zkQ rfl (UU.cons T.bZ T.cX (zmN T.cm) UU.nil) (zt 2)) (zj8 (zmM (Wy (.ref T.aJ) (Wy (.ref T.bj) (Wy (.ref T.aR) (Wy (.ref T.aQ) (Wy (.ref T.aK) (Wy (.ref T.aI) zmL)))))) rfl (show(6:Nat)<=100 by decide) (VR.cons T.bZ T.cX (Wz (WL T.i6.hc T.cP T.aw (zdA T.af T.aw)) (Wz (WL T.iZ.hc T.dY T.aH (zdA T.af T.aH)) (Wz (WL T.iG.hc T.d9 T.aA (zdA T.af T.aA)) (Wz (WL T.iF.hc T.d8 T.ay (zdA T.af T.ay)) (Wz (WL T.i7.hc T.cQ T.ax (zdA T.af T.ax)) (Wz (WL T.i5.hc T.cO T.av (zdA T.af T.av)) zgT)))))) VR.nil) (zt 2))))) xC)) (xS (zt 1)))) h⟩)
noncomputable def zey(fu:Nat):TwS:=zo (zH (zf (Wk fu) [za 0,zf (zk fu) [za 0,q8 7,q8 10093,q8 5],q8 1000]) (gN 1)) (zo (zH (zf (Ul fu) [za 0,za 1,q8 4,eFn zoM [q8 63,eFn xO [za 0]]]) (gN 2)) (zo (sWh fu (bOr (bE (eOp dGt (zf (wa fu) [za 2]) (q8 60))) (bE (eOp dGt (eFn VJ [zaS Vv (tL "\n") [zf (zX fu 40) [za 2]]]) (q8 2800)))) (zH (eSl Yy (za 2) oNo (vg (eUn zd8 (q8 1)))) (gN 2))) (zo (zH (zf (Zz fu) [za 1,za 2]) (gN 3)) (zo (zH (zaS Vv (tL "\n") [za 3]) (gN 4)) (zo (sIf (bE (eOp Zs (zf (zk fu) [za 0,q8 65,q8 10273,q8 3]) (q8 0))) (zo (zH (zf (zk fu) [za 0,q8 66,q8 10289,eOp xk (eFn xO [za 1]) (q8 1)]) (gN 5)) (zH (eOp yI (eOp yI (eSl Yy (za 3) oNo (vg (za 5))) (zf (Zo fu) [za 0,za 1])) (eSl Yy (za 3) (vg (za 5)) oNo)) (gN 6))) (zo (zH (eOp xk (eFn xO [za 1]) (zf (zk fu) [za 0,q8 66,q8 10289,eOp xk (eOp zb4 (eFn xO [za 3]) (eFn xO [za 1])) (q8 1)])) (gN 5)) (zH (eOp yI (eOp yI (eSl Yy (za 3) oNo (vg (za 5))) (zf (ZB fu) [za 0,za 1,za 2])) (eSl Yy (za 3) (vg (za 5)) oNo)) (gN 6)))) (zo (sIf (bE (eOp (yz jD) (eFn WU [zf (XM fu) [za 4]]) (eFn WU [yS [za 1,eFn vS [za 2]]]))) (zJ (eC (.bl nW))) zF) (zo (sIf (Xd (bE (zf (Yq fu) [zaS Vv (tL "\n") [za 6]]))) (zJ (eC (.bl nW))) zF) (zJ (eOp (yz nW) (eFn WU [zf (XM fu) [za 4]]) (eFn WU [yS [za 1,eFn vS [za 2]]]))))))))))
noncomputable def zgX(fu:Nat):TwF:=zN 1 6 (zey fu)
theorem zmV(T:Tx K mg):yh P w K mg base (CXE P w) 70 T.gF.a T.gF.fd ["_law_script"] (sTw K 1 (zgX fu)):=
 T.gF.F.okE We (λvs H Q E h=>h.1) (λaP A outer s H vs Q E hr h=>⟨_,((We^^^(1,uy rfl,T.cN\(zc8 (fu:=fu) T,hr.mono ∅,zm,pv 0\((T.ae\(zw (fu:=fu) T,hr.mono ∅,zm,pv 0\(zc\(zc\(zc\zb)))))\(zc\zb)))))<|>(We^^^(2,uy rfl,T.dw\(zfI (fu:=fu) T,hr.mono ∅,zm,pv 0\(pv 1\(zc\(zx (zis rfl) rfl T.kJ boot_min (zc\(zx (zP (K:=K)) rfl T.aN boot_len (pv 0\zb)\zb))\zb))))))<|>YW PassesOwn.leaving (PW.pt (UO (zW (ZX (T.bP\(Um (fu:=fu) T,hr.mono ∅,zm,pv 2\zb)) zc)) (XS (zW (ZX (zx Yw rfl T.aN boot_len (wI Ap Bl Bm zbF ze ((T.aB\(zam (fu:=fu) T 40,hr.mono ∅,zm,pv 2\zb))\zb)\zb)) zc))))) (¬(We^^^(2,uy rfl,xW (wK (K:=K)) (pv 2) wM (wN (znw zjv zc)))))<|>(We^^^(3,uy rfl,T.bN\(za0 (fu:=fu) T,hr.mono ∅,zm,pv 1\(pv 2\zb))))<|>(We^^^(4,uy rfl,wI Ap Bl Bm zbF ze (pv 3\zb)))<|>zM (zW (xt (T.ae\(zw (fu:=fu) T,hr.mono ∅,zm,pv 0\(zc\(zc\(zc\zb))))) zc)) ((We^^^(5,uy rfl,T.ae\(zw (fu:=fu) T,hr.mono ∅,zm,pv 0\(zc\(zc\(zq yv (zx (zP (K:=K)) rfl T.aN boot_len (pv 1\zb)) zc\zb))))))<|>¬(We^^^(6,uy rfl,zq (yO (K:=K)) (zq (yO (K:=K)) (xW (wK (K:=K)) (pv 3) wM (wN (pv 5))) (T.bF\(zao (fu:=fu) T,hr.mono ∅,zm,pv 0\(pv 1\zb)))) (xW (wK (K:=K)) (pv 3) (wN (pv 5)) wM)))) ((We^^^(5,uy rfl,zq yv (zx (zP (K:=K)) rfl T.aN boot_len (pv 1\zb)) (T.ae\(zw (fu:=fu) T,hr.mono ∅,zm,pv 0\(zc\(zc\(zq yv (zq Vz (zx (zP (K:=K)) rfl T.aN boot_len (pv 3\zb)) (zx (zP (K:=K)) rfl T.aN boot_len (pv 1\zb))) zc\zb)))))))<|>¬(We^^^(6,uy rfl,zq (yO (K:=K)) (zq (yO (K:=K)) (xW (wK (K:=K)) (pv 3) wM (wN (pv 5))) (T.bM\(za1 (fu:=fu) T,hr.mono ∅,zm,pv 0\(pv 1\(pv 2\zb))))) (xW (wK (K:=K)) (pv 3) (wN (pv 5)) wM))))<|>zM (zU zjx (zx (WT (K:=K) hr) rfl T.hV boot_repr ((T.eE\(zev (fu:=fu) T,hr.mono ∅,zm,pv 4\zb))\zb)) (zx (WT (K:=K) hr) rfl T.hV boot_repr ((~~~(pv 1\(yG (xq (K:=K)) rfl T.cC boot_tuple (pv 2\zb)\zb)))\zb)) (by rfl)) (¬(!XA)) zu<|>zM (vO (vG (T.bX\(zbw (fu:=fu) T,hr.mono ∅,zm,wI Ap Bl Bm zbF ze (pv 6\zb)\zb)))) (¬(!XA)) zu<|>¬(!zby xc (zx (WT (K:=K) hr) rfl T.hV boot_repr ((T.eE\(zev (fu:=fu) T,hr.mono ∅,zm,pv 4\zb))\zb)) (zx (WT (K:=K) hr) rfl T.hV boot_repr ((~~~(pv 1\(yG (xq (K:=K)) rfl T.cC boot_tuple (pv 2\zb)\zb)))\zb)) (by rfl))),yb (n:=1) (k:=6) (b:=zey fu) rfl (by unfold zey;walk_at "re") h⟩)
end
section
open Mth
def Big(fu:Nat):Prop:=2^9000<=fu
theorem Big.le(h:Big fu):1000000<=fu:=v5 (show 1000000<=2^20 by decide) (v5 (A0 ∅ ∅) h)
local macro_rules|`(tactic|walk_at "w1")=>do
 let g(s:String):=(s.splitOn " ").toArray.mapM fun n=>`(tacticSeq|apply $(Lean.mkIdent (.mkSimple n)))
 let a<-g "zgJ zgL zv zmz zh"
 let b<-g "zmy Xg nV zbe zqy wY znL vb zbC zoS zgK zqz zmw zb9 zks md zkv zoT zoU zqA zqB zqC pU zoV zoW zoZ zo0 zo1 zo2"
 `(tactic|first|with_reducible apply zmv|((with_reducible apply zoQ); exact rfl)|(with_reducible first $[| $a]*)|((with_reducible apply wg); try dsimp only[y7])|(with_reducible first $[| $b]*)|((with_reducible apply zoY); exact⟨∅, by decide, by decide⟩)|((with_reducible apply zoX); first | exact .inl ∅ | exact .inr ∅)|with_reducible refine Exists.intro _ (And.intro rfl ?_))
local macro_rules | `(tactic| walk_at "w") => `(tactic| repeat walk_at "w1")
local macro_rules|`(tactic|ext)=>`(tactic|walk_at "w")
local macro_rules | `(tactic| walk_at "wr") => `(tactic| (refine VO rfl rfl ?_; dsimp only [List.map, HAppend.hAppend, Append.append, List.append, List.replicate]))
section
variable{S' S2:Sto}{x y:Xv}
theorem yu[Decidable c]{A B:Prop}(h:c->A)(g:¬c->B):(decide c=jD->A)/\(decide c=nW->B):=⟨λe=>h (of_decide_eq_true e),λe=>g (of_decide_eq_false e)⟩
def Kp(w:Nat->Prop)(S S':Sto):Prop:=S.length<=S'.length/\∀(n:Nat) c,S[n]? =iJ c->¬w n->S'[n]? =iJ c
theorem Kp.refl(w:Nat->Prop):Kp w S S:=⟨uv _,λ_ _ e _=>e⟩
theorem Kp.trans{w:Nat->Prop}(a:Kp w S S')(b:Kp w S' S2):Kp w S S2:=⟨v5 a.1 b.1,λn c e z=>b.2 n c (a.2 n c e z) z⟩
theorem Kp.mono{w w':Nat->Prop}(a:Kp w S S')(h:∀n,w n->w' n):Kp w' S S':=⟨a.1,λn c e z=>a.2 n c e λq=>z (h n q)⟩
theorem Kp.pre{w:Nat->Prop}(p:S<+:S'):Kp w S S':=⟨p.length_le,λn c e _=>by
 obtain⟨T,rfl⟩:=p;rw[uB (uq.1 e).1]
 exact e⟩
theorem Kp.app{w:Nat->Prop}(a:Kp w S S'):Kp w S (S'++T):=a.trans (Kp.pre (List.prefix_append _ _))
theorem Kp.set{w:Nat->Prop}(a:Kp w S S')(h:w n\/S.length<=n):Kp w S (S'.set n c):=⟨by simpa using a.1,λm d e z=>by
 rw[Ai];have hm:=(uq.1 e).1
 rw[if_neg λq=>by
  subst q;rcases h with h|h
  .exact z h
  .omega]
 exact a.2 m d e z⟩
theorem zL:(S++[c])[S.length]? =iJ c:=by simp
theorem xB(h:S[n]? =iJ c):(S.set n c')[n]? =iJ c':=by rw[Ai,if_pos rfl,if_pos (uq.1 h).1]
theorem zcq(h:S[m]? =iJ c)(q:n≠m):(S.set n c')[m]? =iJ c:=by rw[Ai,if_neg q];exact h
theorem zbi(h:n<=100):n<sizeLine:=y9 h ∅
noncomputable abbrev Kn(S S':Sto):Prop:=Kp (λ_=>False) S S'
theorem Kn.at{n:Nat}{c:Ce}(k:Kn S S')(h:S[n]? =iJ c):S'[n]? =iJ c:=k.2 n c h (λz=>z)
theorem Kn.lst(k:Kn S S')(h:ya S (.ref n)=iJ l):ya S' (.ref n)=iJ l:=by
 unfold ya at h ⊢;dsimp only at h ⊢;cases e:S[n]? with
 |none=>rw[e] at h;cases h
 |some c=>rw[e] at h;rw[k.at e];exact h
def Sc(ns:pR Int)(S:Sto):Prop:=ya S (.ref 0)=iJ (ns.map Xv.int)
theorem Sc.keep(h:Sc ns S)(k:Kn S S'):Sc ns S':=Kn.lst k h
theorem zpk{k p m:Int}(hs:Sc ns S)(hk:0<=k/\k<=1000)(hp:0<p)(hm:0<m):W (zk fu [.ref 0,.int k,.int p,.int m] S) λv S'=>∃c,v= .int c/\0<=c/\c<m/\c=(((if 0<ns.length then ns.getD (k % ns.length).toNat 0 else 0)+k*k)*48271+11) % p % m/\S=S':=by
 have hb:intBits k+intBits k<=134217728:=by
  have:intBits k<=10:=A3.mpr ⋯;omega
 walk_at "wr";unfold YM;ext;refine xw (λρ S2=>ρ=[iJ (.ref 0),iJ (.int k),iJ (.int p),iJ (.int m),iJ (.int (if 0<ns.length then ns.getD (k % ns.length).toNat 0 else 0))]/\S2=S) (zy ?_) ?_
 .ext;refine xx hs ?_;ext;rw[um];refine yu (λh=> ?_) (λh=> ?_)
  .have h:0<ns.length:=by omega
   ext;refine xx hs ?_;ext;rw[um];refine zaO ⋯ ?_;have h1:=AA k (show(ns.length:Int)≠0 by omega);have h2:=AQ k (show(0:Int)<ns.length by omega);have h3:(k % (ns.length:Int)).toNat<ns.length:=by omega
   refine xo hs (vc h1 (by rw[uA,uo h3];rfl)) ?_;ext;refine⟨?_,rfl⟩;rw[if_pos h,uz,uo h3];rfl
  .ext;refine⟨?_,rfl⟩;rw[if_neg ⋯]
 .rintro ρ S2 ⟨rfl,rfl⟩;ext;refine WR hb ?_;ext;refine zaO hp ?_;ext;refine zaO hm ?_;exact⟨_,rfl,AA _ ⋯,AQ _ hm,rfl,rfl⟩
end
section
noncomputable def wb(ns:pR Int)(k p m:Int):Int:=(((if 0<ns.length then ns.getD (k % ns.length).toNat 0 else 0)+k*k)*48271+11) % p % m
theorem yZ(hs:Sc ns S)(hk:0<=k/\k<=1000)(hp:0<p)(hm:0<m):W (zk fu [.ref 0,.int k,.int p,.int m] S) λv S'=>v= .int (wb ns k p m)/\0<=wb ns k p m/\wb ns k p m<m/\S=S':=by
 refine(zpk hs hk hp hm).imp ?_;rintro _ _ ⟨c,rfl,h1,h2,rfl,rfl⟩;exact⟨rfl,h1,h2,rfl⟩
theorem xD(h:a.length+b.length<=sizeLine)(k:P (.str (a++b)) S):WO (zQ (.str a) (.str b) S) P:= .of (by unfold zQ;exact if_pos h) k
theorem zpl{a:Str}{lo hi:pT Int}(h:a.length<=sizeLine)(k:P (.str (Txt.slice a lo hi)) S):WO (zfe (.str a) lo hi S) P:= .of (by unfold zfe;exact if_pos h) k
theorem yX(h:n<=100):n<=sizeLine:=z3 (zbi h)
theorem zpm(h0:0<=v)(h1:v<26):zb0 (.str "abcdefghijklmnopqrstuvwxyz") (.int v) S=iJ (.str ⟨#[97+v.toNat]⟩,S):=by
 have all:∀n:Fin 26,(Str.ofString "abcdefghijklmnopqrstuvwxyz").cps.toList[n.1]? =iJ (97+n.1):=by decide
 obtain⟨n,rfl⟩:∃n:Nat,v=n:=⟨v.toNat,⋯⟩;have e:=all ⟨n,⋯⟩;unfold zb0 zoD;dsimp only;rw[if_pos ∅,vc ⋯ (by rw[A7];exact e)];rfl
def AZ(z:Str):Prop:=∀c∈z.cps.toList,97<=c/\c<=122
theorem wV(a b:Str):(a++b).cps.toList=a.cps.toList++b.cps.toList:=by
 show(a.cps++b.cps).toList=_;simp
theorem AZ.app(h:AZ a)(g:AZ b):AZ (a++b):=λc hc=>by
 rw[wV,uW] at hc;exact hc.elim (h c) (g c)
theorem AZ.one(h:n<26):AZ ⟨#[97+n]⟩:=λc hc=>by
 have:c=97+n:=by simpa using hc
 omega
theorem wW(z:Str):z.cps.toList.length=z.length:=by simp[Str.length]
noncomputable def sg(z:Str)(n:Nat):pT Nat:=z.cps.toList[n]?
theorem znU(h:n<a.length):sg (a++b) n=sg a n:=by
 unfold sg;rw[wV,uB (by rw[wW];exact h)]
theorem zpn{a:Str}{c:Nat}:sg (a++⟨#[c]⟩) a.length=iJ c:=by
 unfold sg;rw[wV,uL (by rw[wW];exact uv _),wW,B9];rfl
noncomputable def ltr(ns:pR Int)(k:Int):Nat:=97+((k+wb ns 4 10069 26) % 26).toNat
structure Nm(ns:pR Int)(k:Int)(a:Nat)(z:Str):Prop where
 le:z.length<=8
 lt:a<z.length
 az:AZ z
 at_:sg z a=iJ (ltr ns k)
theorem zpo{k:Int}{a:Nat}(hs:Sc ns S)(hk:0<=k/\k<10)(ha:a<8):W (Vn fu [.ref 0,.int k,.int (a:Int)] S) λv S'=>∃z,v= .str z/\Nm ns k a z/\S=S':=by
 walk_at "wr";unfold YN;ext;refine xw (λρ S2=>∃n:Nat,ρ=[iJ (.ref 0),iJ (.int k),iJ (.int (a:Int)),iJ (.str "abcdefghijklmnopqrstuvwxyz"),iJ (.int (n:Int)),jr,jr,jr]/\a<n/\n<=8/\S2=S) (zy ?_) ?_
 .ext;refine(yZ hs ∅ ∅ ∅).imp ?_;rintro _ _ ⟨rfl,_,_,rfl⟩;ext;refine yu (λh=> ?_) (λh=> ?_)
  .ext;refine(yZ hs ⟨⋯,⋯⟩ ∅ ⋯).imp ?_;rintro _ _ ⟨rfl,h0,h1,rfl⟩;ext;obtain⟨c,hc⟩:∃c:Nat,wb ns (20+k) 10037 (8-(a:Int))=c:=⟨(wb ns (20+k) 10037 (8-(a:Int))).toNat,⋯⟩;rw[hc] at h0 h1 ⊢;exact⟨a+1+c,by rw[show((a+1+c:Nat):Int)=(a:Int)+1+c by omega],⋯,⋯,rfl⟩
  .ext;exact⟨A4 a,ha,rfl⟩
 .rintro ρ S2 ⟨n,rfl,h1,h8,rfl⟩;ext;refine Ym (zcb ?_);ext;refine⟨⟨⋯,⋯⟩,_,rfl,?_⟩;refine ZD (λi ρ S3=>∃(z:Str) (a6 a7:pT Xv),ρ=[iJ (.ref 0),iJ (.int k),iJ (.int (a:Int)),iJ (.str "abcdefghijklmnopqrstuvwxyz"),iJ (.int (n:Int)),iJ (.str z),a6,a7]/\z.length=i/\AZ z/\(a<i->sg z a=iJ (ltr ns k))/\S3=S2) (λ_ _ _ _ _=>rfl) ?_ ?_ ?_
  .rintro i w ρ S3 hw ⟨z,a6,a7,rfl,hz,az,au,rfl⟩;obtain⟨hi,rfl⟩:=UA hw;rw[C8];refine .of rfl ?_;dsimp only[y7];have u3:(i:Int)<8:=by omega
   ext;refine WR (by have:intBits (i:Int)<=10:=A3.mpr ⋯;omega) ?_;ext;refine(yZ hs ∅ ∅ ∅).imp ?_;rintro _ _ ⟨rfl,_,_,rfl⟩;ext;refine xw (λρ S4=>∃c:Int,ρ=[iJ (.ref 0),iJ (.int k),iJ (.int (a:Int)),iJ (.str "abcdefghijklmnopqrstuvwxyz"),iJ (.int (n:Int)),iJ (.str z),iJ (.int (i:Int)),iJ (.int c)]/\S4=S3) (zy ?_) ?_
   .ext;refine(yZ hs ∅ ∅ ∅).imp ?_;rintro _ _ ⟨rfl,_,_,rfl⟩;ext;refine yu (λh=> ?_) (λh=> ?_)
    .ext;refine(yZ hs ⟨⋯,⋯⟩ ∅ ∅).imp ?_;rintro _ _ ⟨rfl,_,_,rfl⟩;ext;exact rfl
    .ext;exact rfl
   .rintro ρ S4 ⟨c,rfl,rfl⟩;ext;refine xw (λρ S5=>∃c:Int,ρ=[iJ (.ref 0),iJ (.int k),iJ (.int (a:Int)),iJ (.str "abcdefghijklmnopqrstuvwxyz"),iJ (.int (n:Int)),iJ (.str z),iJ (.int (i:Int)),iJ (.int c)]/\(i=a->c=k+wb ns 4 10069 26)/\S5=S4) (zy ?_) ?_
    .ext;refine yu (λh=> ?_) (λh=> ?_)
     .ext;refine(yZ hs ∅ ∅ ∅).imp ?_;rintro _ _ ⟨rfl,_,_,rfl⟩;ext;exact⟨λ_=>rfl,rfl⟩
     .ext;exact⟨λz=>absurd (by rw[z]) h,rfl⟩
    .rintro ρ S5 ⟨c2,rfl,jb,rfl⟩;ext;refine zaO ∅ ?_;have e0:=AA c2 (show(26:Int)≠0 by decide);have e1:=AQ c2 (show(0:Int)<26 by decide);refine WO.of (zpm (S:=S5) e0 e1) ?_;have hc:(⟨#[97+(c2 % 26).toNat]⟩:Str).length=1:=rfl;refine xD (yX ⋯) ?_;ext;refine⟨_,_,_,rfl,by rw[Str.length_append];omega,az.app (AZ.one ⋯),λh=> ?_,rfl⟩;by_cases sJ:a<i
     .rw[znU ⋯];exact au sJ
     .obtain rfl:i=a:=by omega
      rw[jb rfl];have:=zpn (a:=z) (c:=ltr ns k);rw[hz] at this;exact this
  .exact⟨_,jr,jr,rfl,rfl,(λc hc=>by cases hc),(λh=>by omega),rfl⟩
  .rintro ρ S3 ⟨z,a6,a7,rfl,hz,az,au,rfl⟩;rw[vH,A7] at hz au;ext;exact⟨⟨⋯,⋯,az,au h1⟩,rfl⟩
noncomputable def yx(b:Str×Int):Xv:= .tup [.str b.1,.int b.2]
noncomputable def yQ:pR (Str×Int)->Int
 |[]=>1
 |b::r=>b.2*yQ r
theorem Xt(b:Str×Int):∀l:pR (Str×Int),yQ (l++[b])=yQ l*b.2
 |[]=>by simp[yQ]
 |c::r=>by
  show c.2*yQ (r++[b])=c.2*yQ r*b.2;rw[Xt b r,C2]
structure Nm1(ns:pR Int)(a:Nat)(z0 z:Str):Prop where
 le:z.length<=8
 pos:1<=z.length
 az:AZ z
 ne:z.length≠z0.length
 at_:a<z.length->sg z a=iJ (ltr ns 0)
def NmB(ns:pR Int)(a:Nat)(bs:pR (Str×Int))(m:Nat)(z:Str):Prop:=Nm ns m a z\/(m=1/\∃b0,bs[0]? =iJ b0/\Nm1 ns a b0.1 z)
theorem zk4{i j:Nat}(hi:i<10)(hj:j<10)(h:ltr ns i=ltr ns j):i=j:=by
 unfold ltr at h;have h1:=AA ((i:Int)+wb ns 4 10069 26) (show(26:Int)≠0 by decide);have h2:=AA ((j:Int)+wb ns 4 10069 26) (show(26:Int)≠0 by decide);omega
theorem NmB.ok(h:NmB ns a bs m z):1<=z.length/\z.length<=8/\AZ z:=by
 rcases h with h|⟨_,_,_,h⟩
 .exact⟨by have:=h.lt;omega,h.le,h.az⟩
 .exact⟨h.pos,h.le,h.az⟩
theorem zpp{a:Nat}(h:∀(m:Nat) b,bs[m]? =iJ b->NmB ns a bs m b.1)(hl:bs.length<=10){i j:Nat}{b c:Str×Int}(hi:bs[i]? =iJ b)(hj:bs[j]? =iJ c)(jy:i<j):b.1≠c.1:=by
 have li:=(uq.1 hi).1;have lj:=(uq.1 hj).1;intro e;have nb:=h i b hi;have nc:=h j c hj;rw[e] at nb;rcases nc with nc|⟨rfl,b0,h0,nc⟩
 .rcases nb with nb|⟨rfl,b0,h0,nb⟩
  .have:=nb.at_.symm.trans nc.at_;have:=zk4 ⋯ ⋯ (y8 this);omega
  .have:=(nb.at_ nc.lt).symm.trans nc.at_;have:=zk4 (i:=0) (j:=j) ⋯ ⋯ (y8 this);omega
 .obtain rfl:i=0:=by omega
  rw[h0] at hi;cases hi;exact nc.ne (by rw[e])
structure Xz(most:Int)(bs:pR (Str×Int)):Prop where
 len:bs.length<=10
 nm:∀b∈bs,1<=b.1.length/\b.1.length<=8/\AZ b.1
 sz:∀b∈bs,1<=b.2/\b.2<=9
 nd:(bs.map (·.1)).Nodup
 pr:yQ bs<=most
 p0:1<=yQ bs
theorem zbJ(h:u.length<=sizeLine)(k:P (.int u.length) S):WO (VJ [.str u] S) P:= .of (by unfold VJ;exact if_pos h) k
theorem zap(h:0<=p)(h1:p<=100000):intBits p<=20:=A3.mpr ⋯
theorem wz(h:S[n]? =iJ (.lst l))(k:P (.tup l) S):WO (vS [.ref n] S) P:= .of (by unfold vS;dsimp only;rw[zj h];rfl) k
theorem zmW{cnt most:Int}(hs:Sc ns S)(hc:0<=cnt/\cnt<=10)(hm:1<=most/\most<=1000):W (Wk fu [.ref 0,.int cnt,.int most] S) λv S'=>∃bs,v= .tup (bs.map yx)/\Xz most bs/\(bs.length:Int)=cnt/\Kn S S':=by
 walk_at "wr";unfold ZQ;ext;refine(yZ hs ∅ ∅ ∅).imp ?_;rintro _ _ ⟨rfl,a0,a1,rfl⟩;obtain⟨a,ha⟩:∃a:Nat,wb ns 5 10079 8=a:=⟨(wb ns 5 10079 8).toNat,⋯⟩;rw[ha] at a0 a1 ⊢;ext;refine Ym (zcb ?_);ext;refine⟨⟨⋯,⋯⟩,_,rfl,?_⟩;refine ZD (λi ρ S3=>∃(bs:pR (Str×Int)) (a6 a7 a8:pT Xv),ρ=[iJ (.ref 0),iJ (.int cnt),iJ (.int most),iJ (.int (a:Int)),iJ (.ref S.length),iJ (.int (yQ bs)),a6,a7,a8]/\bs.length=i/\yQ bs<=most/\1<=yQ bs/\(∀b∈bs,1<=b.2/\b.2<=9)/\(∀(m:Nat) b,bs[m]? =iJ b->NmB ns a bs m b.1)/\S3[S.length]? =iJ (.lst (bs.map yx))/\Kn S S3) (λ_ _ _ _ _=>rfl) ?_ ?_ ?_
 .rintro i w ρ S3 hw ⟨bs,a6,a7,a8,rfl,kR,hp,oP,iW,mE,au,kn⟩;obtain⟨hi,rfl⟩:=UA hw;rw[C8];have ku:=hs.keep kn;refine .of rfl ?_;dsimp only[y7];ext;refine(yZ ku ⟨⋯,⋯⟩ ∅ ∅).imp ?_;rintro _ _ ⟨rfl,d0,d1,rfl⟩;ext;generalize wb ns (6+(i:Int)) 10091 9=sz at d0 d1;refine xw (λρ S4=>∃s:Int,ρ=[iJ (.ref 0),iJ (.int cnt),iJ (.int most),iJ (.int (a:Int)),iJ (.ref S.length),iJ (.int (yQ bs)),iJ (.int (i:Int)),iJ (.int s),a8]/\1<=s/\s<=9/\yQ bs*s<=most/\S4=S3) (zy ?_) ?_
  .ext;refine WR (by have:=zap (p:=yQ bs) ⋯ ⋯;have:=zap (p:=1+sz) ⋯ ⋯;omega) ?_;ext;refine yu (λh=> ?_) (λh=> ?_)
   .ext;exact⟨⋯,⋯,⋯,rfl⟩
   .ext;exact⟨⋯,⋯,⋯,rfl⟩
  rintro ρ S4 ⟨s,rfl,s1,s9,ja,rfl⟩;have oO:1<=yQ bs*s:=by
   have:=B6 oP s1 ⋯ ⋯;omega
  ext;refine WR (by have:=zap (p:=yQ bs) ⋯ ⋯;have:=zap (p:=s) ⋯ ⋯;omega) ?_;ext;refine(zpo ku ⟨⋯,⋯⟩ ⋯).imp ?_;rintro _ _ ⟨z,rfl,hz,rfl⟩;ext;refine xw (λρ S5=>∃z:Str,ρ=[iJ (.ref 0),iJ (.int cnt),iJ (.int most),iJ (.int (a:Int)),iJ (.ref S.length),iJ (.int (yQ bs*s)),iJ (.int (i:Int)),iJ (.int s),iJ (.str z)]/\NmB ns a bs i z/\S5=S4) (zy (xH ?_)) ?_
  .ext;refine yu (λh=> ?_) (λh=> ?_)
   .obtain rfl:i=1:=by omega
    ext;refine(yZ ku ∅ ∅ ∅).imp ?_;rintro _ _ ⟨rfl,_,_,rfl⟩;ext;refine yu (λh=> ?_) (λh=> ?_)
    .obtain⟨⟨z0,s0⟩,rfl⟩:=lq1 kR.symm
     have n0:Nm ns 0 a z0:=by
      rcases mE 0 (z0,s0) rfl with n0|⟨e,_⟩
      .exact n0
      .cases e
     have l0:=n0.le;have o8:=n0.lt;ext;refine xo (zj au) (z:=yx (z0,s0)) rfl ?_;unfold yx;ext;show WO (zfe (.str z0) jr (iJ (-1)) _) _;refine zpl (yX ⋯) ?_;have lz:(Txt.slice z0 jr (iJ (-1))).length=z0.length-1:=by
      rw[<-wW,zaK ⋯,z4,wW];omega
     ext;refine zy ?_;ext;refine zbJ (by rw[lz];exact yX ⋯) ?_;ext;rw[lz];refine yu (λh=> ?_) (λh=> ?_)
     .ext;refine xo (zj au) (z:=yx (z0,s0)) rfl ?_;unfold yx;ext;have h1:(("e":Str)).length=1:=rfl;show WO (zQ (.str z0) (.str "e") _) _;refine xD (yX ⋯) ?_;ext;refine⟨.inr ⟨rfl,_,rfl,⟨by rw[Str.length_append];omega,by rw[Str.length_append];omega,n0.az.app (AZ.one (n:=4) ∅),by rw[Str.length_append];show z0.length+1≠z0.length;omega,λ_=>by rw[znU o8];exact n0.at_⟩⟩,rfl⟩
     .ext;refine⟨.inr ⟨rfl,_,rfl,⟨⋯,⋯,λc hc=> ?_,by show _≠z0.length;omega,λhh=> ?_⟩⟩,rfl⟩
      .rw[zaK ⋯] at hc;exact n0.az c (C9 hc)
      .have:=n0.at_;unfold sg at this ⊢;rw[zaK ⋯,List.getElem?_take,if_pos ⋯];exact this
    .ext;exact⟨.inl hz,rfl⟩
   .refine⟨nofun,λ_=> ?_⟩;ext;exact⟨.inl hz,rfl⟩
  rintro ρ S5 ⟨z,rfl,hz,rfl⟩;ext;refine Xf ?_;ext;refine⟨⟨_,zj au⟩,?_⟩;ext;refine xr (xa au) (by rw[um];exact zbi ⋯) ?_;ext;refine⟨bs++[(z,s)],iJ (.int (i:Int)),iJ (.int s),iJ (.str z),?_,by rw[ur,kR];rfl,by rw[Xt];exact ja,by rw[Xt];exact oO,?_,?_,?_,kn.set (.inr (uv _))⟩
  .rw[Xt]
  .intro b hb;rw[uW,uX] at hb;rcases hb with hb|rfl
   .exact iW b hb
   .exact⟨s1,s9⟩
  .intro m b hb;have up:∀{m' z'},NmB ns a bs m' z'->NmB ns a (bs++[(z,s)]) m' z':=by
    rintro m' z' (h|⟨e,b0,e0,h⟩)
    .exact .inl h
    .exact .inr ⟨e,b0,by rw[uB (uq.1 e0).1];exact e0,h⟩
   by_cases sq:m<bs.length
   .rw[uB sq] at hb;exact up (mE m b hb)
   .have kh:=(uq.1 hb).1;rw[ur,uF] at kh;obtain rfl:m=bs.length:=by omega
    rw[uL (uv _),B9] at hb;cases hb;rw[kR];exact up hz
  .rw[xB au,uO];rfl
 .exact⟨[],jr,jr,jr,rfl,rfl,hm.1,∅,(λb hb=>by cases hb),(λm b hb=>by simp at hb),zL,Kp.app (Kp.refl _)⟩
 .rintro ρ S3 ⟨bs,a6,a7,a8,rfl,kR,hp,oP,iW,mE,au,kn⟩;rw[vH] at kR;ext;refine wz au ?_;refine⟨bs,rfl,⟨⋯,λb hb=> ?_,iW,?_,hp,oP⟩,⋯,kn⟩
  .obtain⟨m,oY,rfl⟩:=B2.1 hb;exact(mE m _ (uo oY)).ok
  .rw[List.nodup_iff_pairwise_ne,List.pairwise_iff_getElem];intro i j hi hj p8;rw[um] at hi hj;rw[Ac,Ac];exact zpp mE ⋯ (uo hi) (uo hj) p8
theorem Kn.refl:Kn S S:=Kp.refl _
theorem Kn.app(k:Kn S S'):Kn S (S'++T):=Kp.app k
theorem Zp{f:Nat->Xv}(hl:xs.length<=sizeLine)(hn:W (n ρ S) λget S1=>(∀S',Kn S1 S'->get S'=iJ xs)/\Kn S S1)
  (he:∀(i:Nat) (x:Xv) S2,xs[i]? =iJ x->Kn S S2->W (e ((zd4 cap ρ).set 0 (iJ x)) S2) λv S3=>v=f i/\Kn S2 S3)
  (k:∀S',Kn S S'->P (.ref S'.length) (S'++[.lst ((y2 xs.length).map f)])):W (xu cap n (gN 0) xF e ρ S) P:=by
 refine zbD (hn.imp ?_);rintro get S1 ⟨hg,k1⟩;refine⟨xs,hg S1 Kn.refl,?_⟩;refine zcc hl (λi es S2=>Kn S1 S2/\es=(y2 i).map f) (λ_ _ _ _ h=>hg _ h.1) ?_ ⟨Kn.refl,rfl⟩ ?_
 .rintro i w es S2 hw sU ⟨k2,rfl⟩;refine .of rfl ?_;ext;refine⟨rfl,?_⟩;refine(he i w S2 hw (k1.trans k2)).imp ?_;rintro _ S3 ⟨rfl,k3⟩;exact⟨k2.trans k3,by rw[DK,uO];rfl⟩
 .rintro es S2 _ ⟨k2,rfl⟩;exact k S2 (k1.trans k2)
theorem zfJ:∀bs:pR Bool,TL (bs.map Xv.bl)=iJ bs
 |[]=>rfl
 |b::r=>by rw[uV];simp[TL,zfJ r]
theorem Xu:∀bs:pR Int,Ww (bs.map Xv.int)=iJ bs
 |[]=>rfl
 |b::r=>by rw[uV];simp[Ww,Xu r]
theorem zpq{bs:pR Bool}(h:ya S x=iJ l)(h2:TL l=iJ bs)(k:P (.bl (bs.all id)) S):WO (zb6 [x] S) P:= .of (by unfold zb6;dsimp only;rw[h,uJ,h2];rfl) k
theorem zgY{bs:pR Int}(h:ya S x=iJ l)(h2:Ww l=iJ bs)(k:P (.int bs.sum) S):WO (zgF [x] S) P:= .of (by unfold zgF;dsimp only;rw[h,uJ,h2];rfl) k
theorem zmX{bs:pR Int}(k:P (.int bs.sum) S):WO (zfj [.tup (bs.map Xv.int)] S) P:= .of (by unfold zfj;dsimp only[Xv.tupOf];rw[uJ,Xu];rfl) k
theorem vF(k:P (.int l.length) S):WO (xO [.tup l] S) P:= .of rfl k
theorem UY(h:W (m ρ S) λv S1=>v= .tup xs/\Kn S S1):W (iT m ρ S) λget S1=>(∀S',Kn S1 S'->get S'=iJ xs)/\Kn S S1:=by
 refine zfq (h.imp ?_);rintro _ S1 ⟨rfl,k⟩;exact⟨xs,rfl,λ_ _=>rfl,k⟩
theorem zk5(h:W (m ρ S) λv S1=>v= .ref n/\ya S1 (.ref n)=iJ xs/\Kn S S1):W (iL m ρ S) λget S1=>(∀S',Kn S1 S'->get S'=iJ xs)/\Kn S S1:=by
 refine zku (h.imp ?_);rintro _ S1 ⟨rfl,e,k⟩;exact⟨xs,e,λS' k'=>Kn.lst k' e,k⟩
theorem WC{p:Nat->Bool}(hl:xs.length<=sizeLine)(hn:W (n ρ S) λget S1=>(∀S',Kn S1 S'->get S'=iJ xs)/\Kn S S1)
  (he:∀(i:Nat) (x:Xv) S2,xs[i]? =iJ x->Kn S S2->W (e ((zd4 cap ρ).set 0 (iJ x)) S2) λv S3=>v= .bl (p i)/\Kn S2 S3)
  (k:∀S',Kn S S'->P (.bl (((y2 xs.length).map p).all id)) S'):W (eFn zb6 [xu cap n (gN 0) xF e] ρ S) P:=by
 ext;refine Zp (f:=λi=> .bl (p i)) hl hn he λS' kn=> ?_;ext;refine zpq (zj zL) (bs:=(y2 xs.length).map p) ?_ (k _ kn.app);rw[<-zfJ,Af];rfl
theorem zmY:W (Uh fu [.int i] S) λv S'=>v= .bl jD/\S=S':=by
 walk_at "wr";unfold XJ;refine Xg (Uz ?_);ext;refine zed (v:=jD) rfl ?_;refine⟨_,rfl,λ_=> ?_,λz=>(by cases z)⟩;ext;refine zed (v:=nW) rfl ?_;exact⟨_,rfl,rfl,rfl⟩
theorem zaq{v lo hi:Int}:W (xT fu [.int v,.int lo,.int hi] S) λr S'=>r= .bl (decide (lo<=v/\v<=hi))/\S=S':=by
 walk_at "wr";unfold ZJ;refine Xg (Uz ?_);ext;refine zmY.imp ?_;rintro _ _ ⟨rfl,rfl⟩;refine⟨_,rfl,λ_=> ?_,λz=>(by cases z)⟩;refine TQ ?_;ext;refine⟨λh=> ?_,λh=> ?_⟩
 .ext;have h:lo<=v:=of_decide_eq_true h;refine⟨?_,rfl⟩;by_cases h2:v<=hi
  .rw[decide_eq_true h2,decide_eq_true ⟨h,h2⟩]
  .rw[decide_eq_false h2,decide_eq_false λz=>h2 z.2]
 .have h:¬lo<=v:=of_decide_eq_false h;exact⟨by rw[decide_eq_false λz=>h z.1],rfl⟩
noncomputable def szX(bs:pR (Str×Int)):pR (Key×Xv):=bs.map λb=>(.inr b.1,.int b.2)
noncomputable def Wm(bs:pR (Str×Int))(n:Str):pT Int:=(bs.find? λb=>decide (b.1=n)).map (·.2)
theorem za2(n:Str):∀bs:pR (Str×Int),Wx (szX bs) (.inr n)=(Wm bs n).map Xv.int
 |[]=>rfl
 |b::r=>by
  have ih:=za2 n r;unfold szX Wm at ih ⊢;rw[uV,A8];unfold Wx at ih ⊢;rw[A8];by_cases h:b.1=n
  .subst h;simp
  .have h1:decide ((Bi b.1:Key)=Bi n)=nW:=decide_eq_false λz=>h (Dx z);rw[h1,decide_eq_false h];exact ih
def WD(x:Xv):Prop:=(∃n,x= .str n)\/∃v:Int,x= .int v
noncomputable def opF(bs:pR (Str×Int)):Xv->Bool
 | .str n=>(Wm bs n).isSome
 | .int v=>decide (0<=v/\v<=999999999)
 |_=>nW
theorem zk6(hd:S[d]? =iJ (.dk (szX bs)))(ho:WD x):W (vz fu [.ref d,x] S) λr S'=>r= .bl (opF bs x)/\S=S':=by
 walk_at "wr";unfold vy;refine zh (zy ?_);rcases ho with⟨n,rfl⟩|⟨v,rfl⟩
 .ext;refine zed (v:=jD) rfl ?_;refine⟨_,rfl,λ_=> ?_,nofun⟩;refine Xg (zec ?_);ext;refine⟨d,szX bs,.inr n,TN hd,rfl,?_,rfl⟩;rw[za2];show Xv.bl (nW !=((Wm bs n).map Xv.int).isSome)=Xv.bl (Wm bs n).isSome;cases Wm bs n<;>rfl
 .ext;refine zed (v:=nW) rfl ?_;refine⟨_,rfl,nofun,λ_=>zv ?_⟩;ext;exact zaq
end
section
noncomputable def wOk(ws:pR Int)(s:Int):Bool:=decide ((ws.length:Int)=s)&&(ws.all (λw=>decide (0<=w/\w<=999999999))&&decide (0<ws.sum))
theorem vM{α:Type}{l:pR α}{q:α->Bool}{p:Nat->Bool}(h:∀(i:Nat) a,l[i]? =iJ a->p i=q a):((y2 l.length).map p).all id=l.all q:=by
 have:(y2 l.length).map p=l.map q:=by
  refine BV λi=> ?_;by_cases hi:i<l.length
  .rw[uA,AI hi,uA,uo hi];exact congrArg iJ (h i _ (uo hi))
  .rw[x5 (by simp;omega),x5 (by simp;omega)]
 rw[this,Ep];rfl
theorem zdd{s:Int}(hl:ws.length<=100):W (Za fu [.tup (ws.map Xv.int),.int s] S) λr S'=>r= .bl (wOk ws s)/\Kn S S':=by
 walk_at "wr";unfold vZ;refine zh (zy (Zu ?_));ext;refine vF ?_;ext;rw[um];refine⟨λh=> ?_,λh=> ?_⟩
 .have h:(ws.length:Int)≠s:=by simpa using h
  refine⟨λ_=> ?_,nofun⟩;ext;refine⟨?_,Kn.refl⟩;unfold wOk;rw[decide_eq_false h];rfl
 .have h:(ws.length:Int)=s:=by simpa using h
  refine vb (wY ?_);refine WC (xs:=ws.map Xv.int) (p:=λi=>decide (0<=ws.getD i 0/\ws.getD i 0<=999999999)) (by rw[um];exact yX ⋯) (UY (by ext;exact⟨rfl,Kn.refl⟩)) ?_ ?_
  .intro i x S2 hx k2;rw[uA,uH] at hx;obtain⟨w,e,rfl⟩:=hx;ext;refine zaq.imp ?_;rintro _ _ ⟨rfl,rfl⟩;rw[uz,e];exact⟨rfl,Kn.refl⟩
  .intro S2 k2;rw[um,vM (q:=λw=>decide (0<=w/\w<=999999999)) (λi a e=>by rw[uz,e];rfl)];refine⟨_,rfl,λh2=> ?_,λh2=> ?_⟩
   .ext;refine⟨?_,k2⟩;unfold wOk;rw[show(ws.all λw=>decide (0<=w/\w<=999999999))=nW by simpa using h2];simp
   .refine zv ?_;ext;refine zmX ?_;ext;refine⟨?_,k2⟩;unfold wOk;rw[show(ws.all λw=>decide (0<=w/\w<=999999999))=jD by simpa using h2,decide_eq_true h];rfl
inductive Own(bs:List (Str×Int)):Xv->Bool->Prop where
 |pass:Own bs (.tup [.str "pass"]) jD
 |gain {x:Xv}:WD x->Own bs (.tup [.str "gain",x]) (opF bs x)
 |look {x y:Xv} {s:Str}:WD x->WD y->Own bs (.tup [.str "look",.tup [x,.str s,y]]) (opF bs x&&opF bs y)
 |cond {x y u w:Xv} {s:Str}:WD x->WD y->Own bs (.tup [.str "if",.tup [x,.str s,y],u,w]) (opF bs x&&opF bs y)
 |whil {x y u:Xv} {s:Str}:WD x->WD y->Own bs (.tup [.str "while",.tup [x,.str s,y],u]) (opF bs x&&opF bs y)
 |times {k:Int} {u:Xv}:Own bs (.tup [.str "times",.int k,u]) (decide (0<=k/\k<=60))
 |hand {us:List Xv}:us.length<=100->Own bs (.tup [.str "hand",.tup us]) (decide (2<=us.length/\us.length<=8))
 |set1 {n:Str} {x:Xv}:WD x->Own bs (.tup [.str "set",.str n,.tup [x]]) ((Wm bs n).isSome&&opF bs x)
 |set3 {n s:Str} {x y:Xv}:WD x->WD y->Own bs (.tup [.str "set",.str n,.tup [x,.str s,y]]) ((Wm bs n).isSome&&(opF bs x&&opF bs y))
 |draw {n:Str} {ws:List Int}:ws.length<=100->Own bs (.tup [.str "draw",.str n,.tup (ws.map Xv.int)]) ((Wm bs n).elim nW λs=>wOk ws s)
theorem zez(k:P (.bl (decide (a=b))) S):WO (yz nW (.str a) (.str b) S) P:= .of (by unfold yz;simp) k
theorem yy(h:a≠b)(k:P (.bl nW) S):WO (yz nW (.str a) (.str b) S) P:=zez (by rw[decide_eq_false h];exact k)
theorem yg(k:P (.bl jD) S):WO (yz nW (.str a) (.str a) S) P:=zez (by rw[decide_eq_true rfl];exact k)
inductive Ops:Xv->List Xv->Prop where
 |gain {x:Xv}:Ops (.tup [.str "gain",x]) [x]
 |set {n z:Xv} {xs:List Xv}:xs.length=1\/xs.length=3->Ops (.tup [.str "set",n,.tup xs]) (wj xs)
 |test {w:Str} {xs r:List Xv}:w="look"\/w="if"\/w="while"->xs.length=1\/xs.length=3->Ops (.tup (.str w:: .tup xs::r)) (wj xs)
 |none {w:Str} {r:List Xv}:w≠"set"->w≠"look"->w≠"if"->w≠"while"->w≠"gain"->Ops (.tup (.str w::r)) []
theorem in3{w:Str}(k:P (.bl (decide (w="look"\/w="if"\/w="while"))) S):WO (dIn nW (.str w) (.tup [.str "look",.str "if",.str "while"]) S) P:=by
 refine zcd rfl rfl ?_;have e:(nW !=Er [Xv.str "look",Xv.str "if",Xv.str "while"] λz=>zb8 z (.str w))=decide (w="look"\/w="if"\/w="while"):=by
  show(nW !=(decide (Str.ofString "look"=w)||(decide (Str.ofString "if"=w)||(decide (Str.ofString "while"=w)||false))))=_;by_cases h1:w="look"
  .subst h1;simp
  .by_cases h2:w="if"
   .subst h2;simp
   .by_cases h3:w="while"
    .subst h3;simp
    .simp[h1,h2,h3,A9 h1,A9 h2,A9 h3]
 rw[e];exact k
theorem zgZ{l:pR Xv}(h:Ops x l):W (vY fu [x] S) λr S'=>r= .tup l/\S=S':=by
 walk_at "wr";unfold vX;cases h with
 |gain=>
  refine zh (zy ?_);ext;refine yy ∅ ⟨_,rfl,nofun,λ_=>zv ?_⟩;refine zh (zy ?_);ext;refine in3 ⟨_,rfl,nofun,λ_=>zv ?_⟩;refine zh (zy ?_);ext;refine yg ⟨_,rfl,λ_=> ?_,nofun⟩;ext;exact⟨rfl,rfl⟩
 | @set n z xs hl=>
  refine zh (zy ?_);ext;refine yg ⟨_,rfl,λ_=> ?_,nofun⟩;ext;refine xJ rfl (z:= .tup xs) rfl ?_;ext;exact zkU rfl hl ⟨rfl,rfl⟩
 | @test w xs r hw hl=>
  refine zh (zy ?_);ext;refine yy (by rcases hw with rfl|rfl|rfl<;>decide) ⟨_,rfl,nofun,λ_=>zv ?_⟩;refine zh (zy ?_);ext;refine in3 ⟨_,rfl,λ_=> ?_,(λz=>absurd hw (of_decide_eq_false z))⟩;ext;exact zkU rfl hl ⟨rfl,rfl⟩
 | @none w r h1 h2 h3 h4 h5=>
  refine zh (zy ?_);ext;refine yy h1 ⟨_,rfl,nofun,λ_=>zv ?_⟩;refine zh (zy ?_);ext
  refine in3 ⟨_,rfl,(λz=>by
   have z:=of_decide_eq_true z;rcases z with z|z|z
   .exact absurd z h2
   .exact absurd z h3
   .exact absurd z h4),λ_=>zv ?_⟩
  refine zh (zy ?_);ext;refine yy h5 ⟨_,rfl,nofun,λ_=>zv ?_⟩;ext;exact⟨rfl,rfl⟩
theorem in2{w:Str}(k:P (.bl (decide (w="set"\/w="draw"))) S):WO (dIn nW (.str w) (.tup [.str "set",.str "draw"]) S) P:=by
 refine zcd rfl rfl ?_;have e:(nW !=Er [Xv.str "set",Xv.str "draw"] λz=>zb8 z (.str w))=decide (w="set"\/w="draw"):=by
  show(nW !=(decide (Str.ofString "set"=w)||(decide (Str.ofString "draw"=w)||false)))=_;by_cases h1:w="set"
  .subst h1;simp
  .by_cases h2:w="draw"
   .subst h2;simp
   .simp[h1,h2,A9 h1,A9 h2]
 rw[e];exact k
noncomputable def zfK(fu:Nat):TwS:=zJ (eFn zb6 [xu [jr,iJ 0] (iT (zf (vY fu) [za 1])) (gN 0) xF (zf (vz fu) [za 1,za 0])])
theorem YU(hd:S[d]? =iJ (.dk (szX bs)))(ho:Ops x l)(hl:l.length<=3)(hi:∀o∈l,WD o)(k:∀S',Kn S S'->R (.bl (l.all (opF bs))) S'):WS (zfK fu [iJ (.ref d),iJ x,a2] S) N R:=by
 unfold zfK;refine Xg ?_;refine WC (xs:=l) (p:=λi=>opF bs (l.getD i .non)) (yX ⋯) (UY ?_) ?_ ?_
 .ext;refine(zgZ ho).imp ?_;rintro _ _ ⟨rfl,rfl⟩;exact⟨rfl,Kn.refl⟩
 .intro i o S2 ho k2;ext;refine(zk6 (k2.at hd) (hi o (x8 ho))).imp ?_;rintro _ _ ⟨rfl,rfl⟩;rw[uz,ho];exact⟨rfl,Kn.refl⟩
 .intro S2 k2;rw[vM (q:=opF bs) (λi a e=>by rw[uz,e];rfl)];exact k S2 k2
noncomputable def zfL(fu:Nat):TwS:=zo (sIf (Wt (bE (eOp (yz nW) (za 2) (tL "hand"))) (Xd (bE (Th (λi j=>decide (i<=j)) (λi j=>decide (i<=j)) (q8 2) (eFn xO [eOp zS (za 1) (q8 1)]) (q8 8))))) (zJ (eC (.bl nW))) zF) (zfK fu)
noncomputable def zfM(fu:Nat):TwS:=zo (sIf (Wt (bE (eOp (yz nW) (za 2) (tL "times"))) (Xd (bE (zf (xT fu) [eOp zS (za 1) (q8 1),q8 0,q8 60])))) (zJ (eC (.bl nW))) zF) (zfL fu)
noncomputable def zh3(fu:Nat):TwS:=zo (sIf (Wt (bE (eOp (yz nW) (za 2) (tL "draw"))) (Xd (bE (zf (Za fu) [eOp zS (za 1) (q8 2),zfo (za 0) (eOp zS (za 1) (q8 1))])))) (zJ (eC (.bl nW))) zF) (zfM fu)
theorem UG:YJ fu=(zo (zH (eOp zS (za 1) (q8 0)) (gN 2)) (zo (sIf (Wt (bE (eOp (dIn nW) (za 2) (yS [tL "set",tL "draw"]))) (bE (ziP jD (eOp zS (za 1) (q8 1)) (za 0)))) (zJ (eC (.bl nW))) zF) (zh3 fu))):=rfl
section
variable{d:Nat}{w:Str}{r:pR Xv}
theorem noD(h:w≠"draw")(k:WS (zfM fu [iJ (.ref d),iJ (.tup (.str w::r)),iJ (.str w)] S) N R):WS (zh3 fu [iJ (.ref d),iJ (.tup (.str w::r)),iJ (.str w)] S) N R:=by
 unfold zh3;refine zh (zy (xH ?_));ext;exact yy h ⟨_,rfl,nofun,λ_=>⟨nofun,λ_=>zv k⟩⟩
theorem noT(h:w≠"times")(k:WS (zfL fu [iJ (.ref d),iJ (.tup (.str w::r)),iJ (.str w)] S) N R):WS (zfM fu [iJ (.ref d),iJ (.tup (.str w::r)),iJ (.str w)] S) N R:=by
 unfold zfM;refine zh (zy (xH ?_));ext;exact yy h ⟨_,rfl,nofun,λ_=>⟨nofun,λ_=>zv k⟩⟩
theorem noH(h:w≠"hand")(k:WS (zfK fu [iJ (.ref d),iJ (.tup (.str w::r)),iJ (.str w)] S) N R):WS (zfL fu [iJ (.ref d),iJ (.tup (.str w::r)),iJ (.str w)] S) N R:=by
 unfold zfL;refine zh (zy (xH ?_));ext;exact yy h ⟨_,rfl,nofun,λ_=>⟨nofun,λ_=>zv k⟩⟩
end
theorem zg0{d:Nat}{b:Bool}(hd:S[d]? =iJ (.dk (szX bs)))(ho:Own bs x b):W (Zb fu [.ref d,x] S) λv S'=>v= .bl b/\Kn S S':=by
 have plain:∀{w:Str} {r l:pR Xv} {b:Bool},x= .tup (.str w::r)->w≠"set"->w≠"draw"->w≠"times"->w≠"hand"->Ops x l->l.length<=3->(∀o∈l,WD o)->l.all (opF bs)=b->W (Zb fu [.ref d,x] S) λv S'=>v= .bl b/\Kn S S':=by
  rintro w r l b rfl n1 n2 n3 n4 iH hl hi rfl;refine VO rfl rfl ?_;dsimp only[Bt,AB,AX,Bg,uI];rw[UG];ext;refine zy (xH ?_);ext
  refine in2 ⟨_,rfl,(λz=>by
   rcases of_decide_eq_true z with z|z
   .exact absurd z n1
   .exact absurd z n2),λ_=>⟨nofun,λ_=>zv ?_⟩⟩
  exact noD n2 (noT n3 (noH n4 (YU hd iH hl hi λS' k=>⟨rfl,k⟩)))
 cases ho with
 |pass=>exact plain rfl ∅ ∅ ∅ ∅ (.none ∅ ∅ ∅ ∅ ∅) (uZ _) (λo h=>by cases h) rfl
 |gain h=>exact plain rfl ∅ ∅ ∅ ∅ .gain (by simp) (λo z=>by rw[uX] at z;subst z;exact h) (by simp)
 |look h g=>exact plain rfl ∅ ∅ ∅ ∅ (.test (.inl rfl) (.inr rfl)) (by simp[wj]) (λo z=>by rcases(by simpa [wj] using z) with rfl|rfl<;>assumption) (by simp[wj])
 |cond h g=>exact plain rfl ∅ ∅ ∅ ∅ (.test (.inr (.inl rfl)) (.inr rfl)) (by simp[wj]) (λo z=>by rcases(by simpa [wj] using z) with rfl|rfl<;>assumption) (by simp[wj])
 |whil h g=>exact plain rfl ∅ ∅ ∅ ∅ (.test (.inr (.inr rfl)) (.inr rfl)) (by simp[wj]) (λo z=>by rcases(by simpa [wj] using z) with rfl|rfl<;>assumption) (by simp[wj])
 | @times k u=>
  refine VO rfl rfl ?_;dsimp only[Bt,AB,AX,Bg,uI];rw[UG];ext;refine zy (xH ?_);ext;refine in2 ⟨_,rfl,nofun,λ_=>⟨nofun,λ_=>zv ?_⟩⟩;refine noD ∅ ?_;unfold zfM;refine zh (zy (xH ?_));ext;refine yg ⟨_,rfl,λ_=> ?_,nofun⟩;ext;refine zaq.imp ?_;rintro _ _ ⟨rfl,rfl⟩;refine⟨_,rfl,λh=> ?_,λh=> ?_⟩
  .ext
   exact⟨by rw[show decide (0<=k/\k<=60)=nW by cases hh:decide (0<=k/\k<=60) with
    |false=>rfl
    |true=>rw[hh] at h;cases h],Kn.refl⟩
  .refine zv ?_;rw[show decide (0<=k/\k<=60)=jD by simpa using h];exact noH ∅ (YU hd (.none ∅ ∅ ∅ ∅ ∅) (uZ _) (λo h=>by cases h) λS' k=>⟨rfl,k⟩)
 | @hand us hl=>
  refine VO rfl rfl ?_;dsimp only[Bt,AB,AX,Bg,uI];rw[UG];ext;refine zy (xH ?_);ext;refine in2 ⟨_,rfl,nofun,λ_=>⟨nofun,λ_=>zv ?_⟩⟩;refine noD ∅ (noT ∅ ?_);unfold zfL;refine zh (zy (xH ?_));ext;refine yg ⟨_,rfl,λ_=> ?_,nofun⟩;refine vb (wY (TQ ?_));ext;refine vF ?_;ext;have go:∀{S'':Sto},S''=S->decide (2<=us.length/\us.length<=8)=jD->WS (zfK fu [iJ (.ref d),iJ (.tup [.str "hand",.tup us]),iJ (.str "hand")] S'') (λx S1=>Xv.non= .bl (decide (2<=us.length/\us.length<=8))/\Kn S S1) (λv S'=>v= .bl (decide (2<=us.length/\us.length<=8))/\Kn S S'):=by
   rintro S'' rfl e;exact YU hd (.none ∅ ∅ ∅ ∅ ∅) (uZ _) (λo h=>by cases h) λS' k=>⟨by rw[e];rfl,k⟩
  refine⟨λh=> ?_,λh=> ?_⟩
  .have h:(2:Int)<=us.length:=of_decide_eq_true h;ext;refine⟨λh2=> ?_,λh2=> ?_⟩
   .have h2:¬(us.length:Int)<=8:=by simpa using h2
    ext;exact⟨by rw[decide_eq_false ⋯],Kn.refl⟩
   .have h2:(us.length:Int)<=8:=by simpa using h2
    exact zv (go rfl (decide_eq_true ⟨⋯,⋯⟩))
  .have h:¬(2:Int)<=us.length:=of_decide_eq_false h;refine⟨_,rfl,λ_=> ?_,nofun⟩;ext;exact⟨by rw[decide_eq_false ⋯],Kn.refl⟩
 | @set1 n x h=>
  refine VO rfl rfl ?_;dsimp only[Bt,AB,AX,Bg,uI];rw[UG];ext;refine zy (xH ?_);ext;refine in2 ⟨_,rfl,λ_=> ?_,nofun⟩;refine wY (zec ?_);ext;refine⟨d,szX bs,.inr n,TN hd,rfl,_,rfl,?_⟩;rw[za2];cases e:Wm bs n with
  |none=>
   refine⟨λ_=> ?_,nofun⟩;ext;exact⟨rfl,Kn.refl⟩
  |some s=>
   refine⟨nofun,λ_=>zv ?_⟩;exact noD ∅ (noT ∅ (noH ∅ (YU hd (.set (z:= .non) (.inl rfl)) (by simp[wj]) (λo z=>by rw[show o=x by simpa [wj] using z];exact h) λS' k=>⟨by simp[wj],k⟩)))
 | @set3 n s x y h g=>
  refine VO rfl rfl ?_;dsimp only[Bt,AB,AX,Bg,uI];rw[UG];ext;refine zy (xH ?_);ext;refine in2 ⟨_,rfl,λ_=> ?_,nofun⟩;refine wY (zec ?_);ext;refine⟨d,szX bs,.inr n,TN hd,rfl,_,rfl,?_⟩;rw[za2];cases e:Wm bs n with
  |none=>
   refine⟨λ_=> ?_,nofun⟩;ext;exact⟨rfl,Kn.refl⟩
  |some s=>
   refine⟨nofun,λ_=>zv ?_⟩;exact noD ∅ (noT ∅ (noH ∅ (YU hd (.set (z:= .non) (.inr rfl)) (by simp[wj]) (λo z=>by rcases(by simpa [wj] using z) with rfl|rfl<;>assumption) λS' k=>⟨by simp[wj],k⟩)))
 | @draw n ws hl=>
  refine VO rfl rfl ?_;dsimp only[Bt,AB,AX,Bg,uI];rw[UG];ext;refine zy (xH ?_);ext;refine in2 ⟨_,rfl,λ_=> ?_,nofun⟩;refine wY (zec ?_);ext;refine⟨d,szX bs,.inr n,TN hd,rfl,_,rfl,?_⟩;rw[za2];cases e:Wm bs n with
  |none=>
   refine⟨λ_=> ?_,nofun⟩;ext;exact⟨rfl,Kn.refl⟩
  |some s=>
   refine⟨nofun,λ_=>zv ?_⟩;unfold zh3;refine zh (zy (xH ?_));ext;refine yg ⟨_,rfl,λ_=> ?_,nofun⟩;ext;refine xJ rfl (z:= .tup (ws.map Xv.int)) rfl ?_;ext;refine zmx ?_;ext;refine⟨d,szX bs,.inr n,.int s,TN hd,rfl,by rw[za2,e];rfl,?_⟩;ext;refine(zdd hl).imp ?_;rintro _ S2 ⟨rfl,k2⟩;refine⟨_,rfl,λh=> ?_,λh=> ?_⟩
   .ext;exact⟨by show Xv.bl nW=Xv.bl (wOk ws s);rw[show wOk ws s=nW by simpa using h],k2⟩
   .refine zv ?_;exact noT ∅ (noH ∅ (YU (k2.at hd) (.none ∅ ∅ ∅ ∅ ∅) (uZ _) (λo h=>by cases h) λS' k=>⟨by show Xv.bl jD=Xv.bl (wOk ws s);rw[show wOk ws s=jD by simpa using h],k2.trans k⟩))
end
section
variable{S' S2:Sto}{x y:Xv}
inductive Nd:Xv->List (List Xv)->Option Int->Bool->Prop where
 |plain {w:Str} {r:List Xv}:w≠"if"->w≠"while"->w≠"times"->w≠"hand"->Nd (.tup (.str w::r)) [] jr nW
 |cond {t:Xv} {u w:List Xv}:Nd (.tup [.str "if",t,.tup u,.tup w]) [u,w] jr jD
 |whil {t:Xv} {u:List Xv}:Nd (.tup [.str "while",t,.tup u]) [u] jr jD
 |times {k:Int} {u:List Xv}:Nd (.tup [.str "times",.int k,.tup u]) [u] (iJ k) jD
 |hand {us:List (List Xv)}:Nd (.tup [.str "hand",.tup (us.map Xv.tup)]) us jr jD
inductive Kd where
 |d (x:Xv)|b (l:List Xv)|s (l:List (List Xv))
noncomputable def zdF:pT Int->Int->Int
 |none,m=>m
 |some k,m=>(if 1<k then k else 1)*(1+m)
inductive Tr(bs:List (Str×Int)):Kd->Int->Nat->Bool->Nat->Prop where
 |deed {x:Xv} {us:List (List Xv)} {tk:Option Int} {bk b g:Bool} {m:Int} {p c:Nat}:Nd x us tk bk->Own bs x b->Tr bs (.s us) m p g c->Tr bs (.d x) (1+zdF tk m) (if bk=jD then 1+p else 0) (b&&g) (c+1)
 |nil:Tr bs (.b []) 0 0 jD 1
 |cons {x:Xv} {r:List Xv} {n m:Int} {q p c e:Nat} {g h:Bool}:Tr bs (.d x) n q g c->Tr bs (.b r) m p h e->Tr bs (.b (x::r)) (n+m) (max q p) (g&&h) (c+e)
 |nils:Tr bs (.s []) 0 0 jD 0
 |conss {u:List Xv} {r:List (List Xv)} {n m:Int} {q p c e:Nat} {g h:Bool}:Tr bs (.b u) n q g c->Tr bs (.s r) m p h e->Tr bs (.s (u::r)) (n+m) (max q p) (g&&h) (c+e)
theorem zcr(h:Nd x us tk bk):W (wQ fu [x] S) λv S'=>v= .tup (us.map Xv.tup)/\S=S':=by
 walk_at "wr";unfold YH;have no:∀{w v:Str} {r:pR Xv} {a:TwS} {N:Rho->Sto->Prop} {R:Xv->Sto->Prop},w≠v->N [iJ (.tup (.str w::r))] S->WS (sIf (bE (eOp (yz nW) (eOp zS (za 0) (q8 0)) (eC (.str v)))) a zF [iJ (.tup (.str w::r))] S) N R:=by
  intro w v r a N R h k;refine zy ?_;ext;exact yy h ⟨_,rfl,nofun,λ_=>zv k⟩
 have mq:∀{w:Str} {r:pR Xv} {a:TwS} {N:Rho->Sto->Prop} {R:Xv->Sto->Prop},w≠"while"->w≠"times"->N [iJ (.tup (.str w::r))] S->WS (sIf (bOr (bE (eOp (yz nW) (eOp zS (za 0) (q8 0)) (tL "while"))) (bE (eOp (yz nW) (eOp zS (za 0) (q8 0)) (tL "times")))) a zF [iJ (.tup (.str w::r))] S) N R:=by
  intro w r a N R h h2 k;refine zy (Zu ?_);ext;refine yy h ⟨_,rfl,nofun,λ_=> ?_⟩;ext;exact yy h2 ⟨_,rfl,nofun,λ_=>zv k⟩
 cases h with
 |plain h1 h2 h3 h4=>
  refine zh (no h1 (zh (mq h2 h3 (zh (no h4 ?_)))));ext;exact⟨rfl,rfl⟩
 |cond=>
  refine zh (zy ?_);ext;refine yg ⟨_,rfl,λ_=> ?_,nofun⟩;ext;refine xJ rfl rfl ?_;ext;refine xJ rfl rfl ?_;ext;exact⟨rfl,rfl⟩
 |whil=>
  refine zh (no ∅ (zh (zy (Zu ?_))));ext;refine yg ⟨_,rfl,λ_=>⟨λ_=> ?_,nofun⟩,nofun⟩;ext;refine xJ rfl rfl ?_;ext;exact⟨rfl,rfl⟩
 |times=>
  refine zh (no ∅ (zh (zy (Zu ?_))));ext;refine yy ∅ ⟨_,rfl,nofun,λ_=> ?_⟩;ext;refine yg ⟨_,rfl,λ_=> ?_,nofun⟩;ext;refine xJ rfl rfl ?_;ext;exact⟨rfl,rfl⟩
 |hand=>
  refine zh (no ∅ (zh (mq ∅ ∅ (zh (zy ?_)))));ext;refine yg ⟨_,rfl,λ_=> ?_,nofun⟩;ext;exact⟨rfl,rfl⟩
theorem Tr.bd(h:Tr bs kd n q g c):g=jD->0<=n/\n<=(c:Int)*122^q:=by
 induction h with
 | @deed x us tk bk b g m p c nd ow h ih=>
  intro e;rw[v9] at e;obtain⟨i1,i2⟩:=ih e.2;have h1:(1:Int)<=122^p:=by exact_mod_cast DV p 122 ∅
  have h2:(122:Int)^(1+p)=122*122^p:=by rw[Bn,Dq,Ca]
  have h3:0<=(c:Int)*122^p:=D8 ⋯ ⋯;have key:∀k:Int,1<=k->k<=60->0<=1+k*(1+m)/\1+k*(1+m)<=((c+1:Nat):Int)*122^(1+p):=by
   intro k k1 rj;have a1:0<=k*(1+m):=D8 ⋯ ⋯;have a2:k*(1+m)<=60*(1+m):=Bf rj ⋯;rw[h2,AV,D2];have a3:(c:Int)*(122*122^p)=122*((c:Int)*122^p):=by rw[<-C2,Ca (c:Int) 122,C2]
   rw[a3];constructor<;>omega
  have kinds:bk=jD->0<=1+m/\1+m<=((c+1:Nat):Int)*122^(1+p):=by
   intro _;have:=key 1 ⋯ ⋯;rw[Int.one_mul] at this;rw[h2,AV,D2] at*;omega
  cases nd with
  |plain=>
   cases h;exact⟨∅,∅⟩
  |cond=>exact kinds rfl
  |whil=>exact kinds rfl
  |hand=>exact kinds rfl
  | @times k u=>
   have hk:0<=k/\k<=60:=by
    have:=e.1;cases ow;exact of_decide_eq_true this
   show 0<=1+(if 1<k then k else 1)*(1+m)/\1+(if 1<k then k else 1)*(1+m)<=((c+1:Nat):Int)*122^(1+p);split
   .exact key k ⋯ hk.2
   .exact key 1 ⋯ ⋯
 |nil=>exact λ_=>⟨∅,∅⟩
 |nils=>exact λ_=>⟨∅,∅⟩
 | @cons x r n m q p c e g h _ _ fI fH=>
  intro z;rw[v9] at z;obtain⟨a1,a2⟩:=fI z.1;obtain⟨b1,b2⟩:=fH z.2;refine⟨⋯,?_⟩;have m1:(c:Int)*122^q<=c*122^(max q p):=A6 (by exact_mod_cast A0 ∅ (DN _ _)) ⋯;have m2:(e:Int)*122^p<=e*122^(max q p):=A6 (by exact_mod_cast A0 ∅ (DE _ _)) ⋯;rw[AV,D2];omega
 | @conss x r n m q p c e g h _ _ fI fH=>
  intro z;rw[v9] at z;obtain⟨a1,a2⟩:=fI z.1;obtain⟨b1,b2⟩:=fH z.2;refine⟨⋯,?_⟩;have m1:(c:Int)*122^q<=c*122^(max q p):=A6 (by exact_mod_cast A0 ∅ (DN _ _)) ⋯;have m2:(e:Int)*122^p<=e*122^(max q p):=A6 (by exact_mod_cast A0 ∅ (DE _ _)) ⋯;rw[AV,D2];omega
def zqN:Kd->Nat->Prop
 | .d _,c=>1<=c
 | .b l,c=>l.length+1<=c
 | .s l,c=>l.length<=c
theorem Tr.cnt(h:Tr bs kd n q g c):zqN kd c:=by
 induction h with
 |deed=>exact Nat.le_add_left _ _
 |nil=>exact uv _
 |nils=>exact uv _
 | @cons x r n m q p c e g h _ _ fI fH=>
  have fI:1<=c:=fI;have fH:r.length+1<=e:=fH;show(x::r).length+1<=c+e;rw[uw];omega
 | @conss u r n m q p c e g h _ _ fI fH=>
  have fI:u.length+1<=c:=fI;have fH:r.length<=e:=fH;show(u::r).length<=c+e;rw[uw];omega
def za3(f:TwF)(x:Xv)(m:Int):Prop:=∀S,W (f [x] S) λv S'=>v= .int m/\Kn S S'
structure zcs(f:TwF)(l:pR Xv)(ms:pR Int):Prop where
 len:ms.length=l.length
 at_:∀(i:Nat) x m,l[i]? =iJ x->ms[i]? =iJ m->za3 f x m
theorem zcs.nil:zcs f [] []:=⟨rfl,λi x m e=>by simp at e⟩
theorem zcs.cons{ms:pR Int}(h:za3 f x m)(g:zcs f l ms):zcs f (x::l) (m::ms):=⟨by rw[uw,uw,g.len],λi y k e1 e2=>by
 cases i with
 |zero=>cases e1;cases e2;exact h
 |succ i=>exact g.at_ i y k (by simpa using e1) (by simpa using e2)⟩
theorem zg1{ms:pR Int}{n:Nat}(h:ms.length=n):(y2 n).map (λi=>Xv.int (ms.getD i 0))=ms.map Xv.int:=by
 refine BV λi=> ?_;by_cases hi:i<n
 .rw[uA,AI hi,uA,uo ⋯];show iJ (Xv.int (ms.getD i 0))=iJ (Xv.int ms[i]);rw[uz,uo ⋯];rfl
 .rw[x5 (by simp;omega),x5 (by simp;omega)]
theorem zar{ms:pR Int}(hl:xs.length<=1000)(hn:W (n ρ S) λget S1=>(∀S',Kn S1 S'->get S'=iJ xs)/\Kn S S1)(hp:zcs f xs ms)
  (k:∀S',Kn S S'->P (.ref S'.length) (S'++[.lst (ms.map Xv.int)])):W (xu [jr] n (gN 0) xF (zf f [za 0]) ρ S) P:=by
 refine Zp (xs:=xs) (f:=λi=> .int (ms.getD i 0)) (z3 (y9 hl ∅)) hn ?_ ?_
 .intro i x S2 hx k2;have hi:=(uq.1 hx).1;have hm:ms[i]? =iJ (ms.getD i 0):=by
   rw[uz,uo (by rw[hp.len];exact hi)];rfl
  show W (zf f [za 0] [iJ x] S2) _;ext;exact(hp.at_ i x _ hx hm) S2
 .intro S2 k2;rw[zg1 hp.len];exact k S2 k2
def zqO(fu:Nat):Kd->Int->Nat->Prop
 | .d x,n,q=>∀f,2*q+1<=f->za3 (yj fu f) x n
 | .b l,n,q=>∃ms:pR Int,ms.sum=n/\∀f,2*q+1<=f->zcs (yj fu f) l ms
 | .s us,n,q=>∃ms:pR Int,ms.sum=n/\∀f,2*q+2<=f->zcs (yc fu f) (us.map Xv.tup) ms
theorem znV(hl:l.length<=1000)(h:zqO fu (.b l) n q):∀f,2*q+2<=f->za3 (yc fu f) (.tup l) n:=by
 obtain⟨ms,rfl,h⟩:=h;intro f hf S;obtain⟨f,rfl⟩:∃e,f=e+1:=⟨f-1,⋯⟩;rw[XL];walk_at "wr";unfold vW;ext;refine zar hl (UY (by ext;exact⟨rfl,Kn.refl⟩)) (h f ⋯) λS' k=> ?_;ext;exact zgY (zj zL) (Xu _) ⟨rfl,k.app⟩
theorem zqP(h:q<=13):(122:Int)^q<=2^100:=by
 have:(122:Nat)^q<=2^100:=v5 (A0 ∅ h) ∅;exact_mod_cast this
theorem Tr.small(h:Tr bs kd n q g c)(hg:g=jD)(hc:c<=1000)(hq:q<=13):0<=n/\n<2^120:=by
 obtain⟨h1,h2⟩:=h.bd hg;have h3:=zqP hq;have h4:(c:Int)*122^q<=1000*2^100:=B6 ⋯ h3 (by exact_mod_cast uZ _) ∅;exact⟨h1,⋯⟩
theorem Tr.lenM(h:Tr bs kd n q g c):g=jD->c<=1000->q<=13->zqO fu kd n q:=by
 induction h with
 |nil=>exact λ_ _ _=>⟨[],rfl,λ_ _=> .nil⟩
 |nils=>exact λ_ _ _=>⟨[],rfl,λ_ _=> .nil⟩
 | @cons x r n m q p c e g h t1 t2 fI fH=>
  intro z hc hq;rw[v9] at z;have i1:=fI z.1 ⋯ ⋯;obtain⟨ms,rfl,i2⟩:=fH z.2 ⋯ ⋯;exact⟨n::ms,rfl,λf hf=> .cons (i1 f ⋯) (i2 f ⋯)⟩
 | @conss u r n m q p c e g h t1 t2 fI fH=>
  intro z hc hq;rw[v9] at z;have hl:u.length+1<=c:=t1.cnt;have i1:=znV ⋯ (fI z.1 ⋯ ⋯);obtain⟨ms,rfl,i2⟩:=fH z.2 ⋯ ⋯;exact⟨n::ms,rfl,λf hf=> .cons (i1 f ⋯) (i2 f ⋯)⟩
 | @deed x us tk bk b g m p c nd ow t ih=>
  intro z hc hq;rw[v9] at z;have hp:p<=13:=by
   cases nd with
   |plain=>cases t;decide
   |cond=>exact Ak (by simpa [Bn] using hq)
   |whil=>exact Ak (by simpa [Bn] using hq)
   |times=>exact Ak (by simpa [Bn] using hq)
   |hand=>exact Ak (by simpa [Bn] using hq)
  obtain⟨ms,kC,i2⟩:=ih z.2 ⋯ hp;obtain⟨m0,m1⟩:=t.small z.2 ⋯ hp;have ly:us.length<=c:=t.cnt;intro f hf S;obtain⟨f,rfl⟩:∃e,f=e+1:=⟨f-1,⋯⟩;have pts:zcs (yc fu f) (us.map Xv.tup) ms:=by
   cases nd with
   |plain=>
    have:=(i2 (2*p+2) (uv _)).len;obtain rfl:ms=[]:=Aa.1 this;exact .nil
   |cond=>exact i2 f (by simp at hf;omega)
   |whil=>exact i2 f (by simp at hf;omega)
   |times=>exact i2 f (by simp at hf;omega)
   |hand=>exact i2 f (by simp at hf;omega)
  rw[Yt];walk_at "wr";unfold wL;ext;refine zar (by rw[um];omega) (UY ?_) pts λS' k=> ?_
  .ext;refine(zcr nd).imp ?_;rintro _ _ ⟨rfl,rfl⟩;exact⟨rfl,Kn.refl⟩
  ext;refine zgY (zj zL) (Xu _) ?_;rw[kC];ext;have no:∀{w:Str} {r:pR Xv} {S2:Sto},w≠"times"->Kn S S2->WS (sIf (bE (eOp (yz nW) (eOp zS (za 0) (q8 0)) (tL "times"))) (zJ (eOp xk (q8 1) (eOp Wv (eFn zfh [eOp zS (za 0) (q8 1),q8 1]) (eOp xk (q8 1) (za 1))))) zF [iJ (.tup (.str w::r)),iJ (.int m)] S2) (λρ S3=>WS (zJ (eOp xk (q8 1) (za 1)) ρ S3) (λx S1=>Xv.non= .int (1+m)/\Kn S S1) (λv S'=>v= .int (1+m)/\Kn S S')) (λv S'=>v= .int (1+m)/\Kn S S'):=by
   intro w r S2 hw k2;refine zy ?_;ext;refine yy hw ⟨_,rfl,nofun,λ_=>zv ?_⟩;ext;exact⟨rfl,k2⟩
  cases nd with
  |plain h1 h2 h3 h4=>exact no h3 k.app
  |cond=>exact no ∅ k.app
  |whil=>exact no ∅ k.app
  |hand=>exact no ∅ k.app
  | @times j u=>
   have hj:0<=j/\j<=60:=by
    have:=z.1;cases ow;exact of_decide_eq_true this
   refine zy ?_;ext;refine yg ⟨_,rfl,λ_=> ?_,nofun⟩;ext;have b1:intBits (if 1>j then 1 else j)<=10:=A3.mpr (by split<;>omega)
   have b2:intBits (1+m)<=200:=A3.mpr (by
    have:(1+m).natAbs<=2^120:=by omega
    exact y9 this ∅)
   refine WR ⋯ ?_;ext;refine⟨?_,k.app⟩;show Xv.int (1+_*(1+m))=Xv.int (1+(if 1<j then j else 1)*(1+m));by_cases h:1<j
   .rw[if_pos h,if_neg ⋯]
   .rw[if_neg h];by_cases h2:1>j
    .rw[if_pos h2]
    .rw[if_neg h2,show j=1 by omega]
theorem zk7(h:Tr bs (.b l) n q jD c)(hc:c<=1000)(hq:q<=13):W (yc fu 40 [.tup l] S) λv S'=>v= .int n/\Kn S S':=by
 have hl:l.length+1<=c:=h.cnt;exact znV ⋯ (h.lenM rfl hc hq) 40 ⋯ S
noncomputable abbrev nI(qs:pR Nat):pR Int:=qs.map λ(q:Nat)=>(q:Int)
theorem zct:∀(qs:pR Nat) (a:Nat),(nI qs).foldl (λa b=>if b>a then b else a) (a:Int)=((max a (qs.foldr max 0):Nat):Int)
 |[],a=>by simp[nI]
 |q::r,a=>by
  rw[nI,uV,CV,DP];by_cases h:(q:Int)>a
  .rw[if_pos h];have:=zct r q;rw[nI] at this;rw[this]
   congr 1
   omega
  .rw[if_neg h];have:=zct r a;rw[nI] at this;rw[this]
   congr 1
   omega
theorem zfN(qs:pR Nat):zef 0 (nI qs)=((qs.foldr max 0:Nat):Int):=by
 unfold zef;cases qs with
 |nil=>rfl
 |cons q r=>
  rw[if_neg (by simp[nI])];unfold zqI;have:=zct (q::r) q;rw[show(nI (q::r)).headD 0=(q:Int) from rfl,this,DP]
  congr 1
  omega
def zqQ(fu:Nat):Kd->Nat->Prop
 | .d x,q=>∀f,2*q+1<=f->za3 (yr fu f) x q
 | .b l,q=>∃qs:pR Nat,qs.foldr max 0=q/\∀f,2*q+1<=f->zcs (yr fu f) l (nI qs)
 | .s us,q=>∃qs:pR Nat,qs.foldr max 0=q/\∀f,2*q+2<=f->zcs (ym fu f) (us.map Xv.tup) (nI qs)
theorem znW(hl:l.length<=1000)(h:zqQ fu (.b l) q):∀f,2*q+2<=f->za3 (ym fu f) (.tup l) q:=by
 obtain⟨ms,rfl,h⟩:=h;intro f hf S;obtain⟨f,rfl⟩:∃e,f=e+1:=⟨f-1,⋯⟩;rw[WB];walk_at "wr";unfold Yf;ext;refine zar hl (UY (by ext;exact⟨rfl,Kn.refl⟩)) (h f ⋯) λS' k=> ?_;ext;refine zhU (zj zL) (Xu _) ?_;rw[zfN];exact⟨rfl,k.app⟩
theorem in4{w:Str}(k:P (.bl (!decide (w="if"\/w="while"\/w="times"\/w="hand"))) S):WO (dIn jD (.str w) (.ct [.str "if",.str "while",.str "times",.str "hand"]) S) P:=by
 refine zcd rfl rfl ?_;have e:(jD !=Er [Xv.str "if",Xv.str "while",Xv.str "times",Xv.str "hand"] λz=>zb8 z (.str w))= !decide (w="if"\/w="while"\/w="times"\/w="hand"):=by
  show(jD !=(decide (Str.ofString "if"=w)||(decide (Str.ofString "while"=w)||(decide (Str.ofString "times"=w)||(decide (Str.ofString "hand"=w)||false)))))=_;by_cases h1:w="if"
  .subst h1;simp
  .by_cases h2:w="while"
   .subst h2;simp
   .by_cases h3:w="times"
    .subst h3;simp
    .by_cases h4:w="hand"
     .subst h4;simp
     .simp[h1,h2,h3,h4,A9 h1,A9 h2,A9 h3,A9 h4]
 rw[e];exact k
theorem Tr.depM{kd:Kd}{n:Int}{q c:Nat}{g:Bool}(h:Tr bs kd n q g c):c<=1000->zqQ fu kd q:=by
 induction h with
 |nil=>exact λ_=>⟨[],rfl,λ_ _=> .nil⟩
 |nils=>exact λ_=>⟨[],rfl,λ_ _=> .nil⟩
 | @cons x r n m q p c e g h t1 t2 fI fH=>
  intro hc;have i1:=fI ⋯;obtain⟨ms,rfl,i2⟩:=fH ⋯;exact⟨q::ms,rfl,λf hf=> .cons (i1 f ⋯) (i2 f ⋯)⟩
 | @conss u r n m q p c e g h t1 t2 fI fH=>
  intro hc;have hl:u.length+1<=c:=t1.cnt;have i1:=znW ⋯ (fI ⋯);obtain⟨ms,rfl,i2⟩:=fH ⋯;exact⟨q::ms,rfl,λf hf=> .cons (i1 f ⋯) (i2 f ⋯)⟩
 | @deed x us tk bk b g m p c nd ow t ih=>
  intro hc;obtain⟨ms,kC,i2⟩:=ih ⋯;have ly:us.length<=c:=t.cnt;intro f hf S;obtain⟨f,rfl⟩:∃e,f=e+1:=⟨f-1,⋯⟩;rw[Xp];walk_at "wr";unfold ZL;have yes:∀{w:Str} {r:pR Xv},x= .tup (.str w::r)->(w="if"\/w="while"\/w="times"\/w="hand")->bk=jD->WS (zo (sIf (bE (eOp (dIn jD) (eOp zS (za 0) (q8 0)) (eC (.ct [.str "if",.str "while",.str "times",.str "hand"])))) (zJ (q8 0)) zF) (zJ (eOp xk (q8 1) (eUn (zcf 0) (xu [jr] (iT (zf (wQ fu) [za 0])) (gN 0) xF (zf (ym fu f) [za 0]))))) [iJ x] S) (λx S1=>Xv.non= .int ((if bk=jD then 1+p else 0:Nat):Int)/\Kn S S1) (λv S'=>v= .int ((if bk=jD then 1+p else 0:Nat):Int)/\Kn S S'):=by
   rintro w r rfl hw rfl;refine zh (zy ?_);ext;refine in4 ⟨_,rfl,(λz=>by rw[decide_eq_true hw] at z;cases z),λ_=>zv ?_⟩;ext;refine zar (by rw[um];omega) (UY ?_) (i2 f (by simp at hf;omega)) λS' k=> ?_
   .ext;refine(zcr nd).imp ?_;rintro _ _ ⟨rfl,rfl⟩;exact⟨rfl,Kn.refl⟩
   ext;refine zhU (zj zL) (Xu _) ?_;rw[zfN,kC];ext;exact⟨by rw[if_pos rfl,AV];rfl,k.app⟩
  cases nd with
  | @plain w r h1 h2 h3 h4=>
   refine zh (zy ?_);ext
   refine in4 ⟨_,rfl,λ_=> ?_,(λz=>by
    rw[decide_eq_false (λq=>by rcases q with q|q|q|q<;>contradiction)] at z
    cases z)⟩
   ext;exact⟨rfl,Kn.refl⟩
  |cond=>exact yes rfl (.inl rfl) rfl
  |whil=>exact yes rfl (.inr (.inl rfl)) rfl
  |times=>exact yes rfl (.inr (.inr (.inl rfl))) rfl
  |hand=>exact yes rfl (.inr (.inr (.inr rfl))) rfl
theorem zmZ(h:Tr bs (.b l) n q g c)(hc:c<=1000)(hq:q<=15):W (ym fu 40 [.tup l] S) λv S'=>v= .int q/\Kn S S':=by
 have hl:l.length+1<=c:=h.cnt;exact znW ⋯ (h.depM hc) 40 ⋯ S
abbrev Fl2:=pR (Xv×Bool)
def dwT(f:TwF)(u:pR Xv)(fl:Fl2):Prop:=∀S,W (f [.tup u] S) λv S'=>∃n,v= .ref n/\S'[n]? =iJ (.lst (fl.map (·.1)))/\S.length<=n/\Kn S S'
inductive zg2(f:TwF):List (List Xv)->Fl2->Prop where
 |nil:zg2 f [] []
 |cons {u:List Xv} {r:List (List Xv)} {a b:Fl2}:dwT f u a->zg2 f r b->zg2 f (u::r) (a++b)
inductive DwL(f:TwF):List Xv->Fl2->Prop where
 |nil:DwL f [] []
 |cons {x:Xv} {r:List Xv} {us:List (List Xv)} {tk:Option Int} {bk b:Bool} {a c:Fl2}:Nd x us tk bk->zg2 f us a->DwL f r c->us.length<=1000->DwL f (x::r) ((x,b)::(a++c))
structure zm0(bs:pR (Str×Int))(fl:Fl2)(g:Bool)(c:Nat):Prop where
 own:∀p∈fl,Own bs p.1 p.2
 all:fl.all (·.2)=g
 len:fl.length<=c
theorem zdG(h:ya S y=iJ zs):XE S y=iJ zs:=by
 cases y with
 |ref n=>exact h
 |_=>cases h
theorem zi3(h:Tf S x=iJ (n,l))(h2:ya S y=iJ zs)(hl:l.length+zs.length<=sizeLine)(k:P .non (S.set n (.lst (l++zs)))):WO (TH x [y] S) P:= .of (by
 unfold TH;rw[h];dsimp only
 rw[show XE S y=iJ zs from zdG h2,uJ,if_pos hl]) k
theorem zqR(hl:fl.length<=1000)(h:DwL (zR fu f) l fl):dwT (zR fu (f+1)) l fl:=by
 intro S;rw[Ye];walk_at "wr";unfold wu;ext;refine Ym (zfq ?_);ext;refine ZD (λi ρ S3=>∃(d r:Fl2) (a2 a3:pT Xv),ρ=[iJ (.tup l),iJ (.ref S.length),a2,a3]/\d++r=fl/\DwL (zR fu f) (l.drop i) r/\S3[S.length]? =iJ (.lst (d.map (·.1)))/\Kn S S3) (λ_ _ _ _ _=>rfl) ?_ ?_ ?_
 .rintro i w ρ S3 hw ⟨d,r,a2,a3,rfl,mP,hD,au,kn⟩;have hi:=(uq.1 hw).1;have hd:l.drop i=w::l.drop (i+1):=by
   rw[Ax hi,(uq.1 hw).2]
  rw[hd] at hD;cases hD with
  | @cons _ _ us tk bk b a c nd hP hr ly=>
   have hlen:d.length+(1+(a.length+c.length))<=1000:=by
    have:=congrArg BX mP;rw[ur,uw,ur] at this;omega
   refine .of rfl ?_;dsimp only[y7];ext;refine Xf ?_;ext;refine⟨⟨_,zj au⟩,?_⟩;ext;refine xr (xa au) (by rw[um];exact y9 (show _<=1000 by omega) ∅) ?_;ext;refine Ym (zfq ?_);ext;refine(zcr nd).imp ?_;rintro _ _ ⟨rfl,rfl⟩;refine⟨_,rfl,_,rfl,?_⟩;refine ZD (λj ρ S4=>∃(d2 r2:Fl2) (a3:pT Xv),ρ=[iJ (.tup l),iJ (.ref S.length),iJ w,a3]/\d2++r2=a/\zg2 (zR fu f) (us.drop j) r2/\S4[S.length]? =iJ (.lst ((d++(w,b)::d2).map (·.1)))/\Kn S S4) (λ_ _ _ _ _=>rfl) ?_ ?_ ?_
   .rintro j z ρ S4 hz ⟨d2,r2,a3,rfl,jN,n9,cz,iV⟩;rw[uA,uH] at hz;obtain⟨u,hz,rfl⟩:=hz;have hj:=(uq.1 hz).1;have hd2:us.drop j=u::us.drop (j+1):=by
     rw[Ax hj,(uq.1 hz).2]
    rw[hd2] at n9;cases n9 with
    | @cons _ _ e e2 hu rX=>
     have qz:d2.length+(e.length+e2.length)=a.length:=by
      have:=congrArg BX jN;rw[ur,ur] at this;omega
     refine .of rfl ?_;dsimp only[y7];ext;refine Xf ?_;ext;refine⟨⟨_,zj cz⟩,?_⟩;ext;refine(hu S4).imp ?_;rintro _ S5 ⟨n,rfl,hn,jC,oe⟩;ext;refine zi3 (xa (oe.at cz)) (zj hn) (by rw[um,um,ur,uw];exact z3 (y9 (show _<=1000 by omega) ∅)) ?_;ext;refine⟨d2++e,e2,_,rfl,by rw[uM];exact jN,rX,?_,(iV.trans oe).set (.inr (uv _))⟩;rw[xB (oe.at cz)]
     congr 2
     simp
   .exact⟨[],a,_,rfl,rfl,hP,by rw[xB au];simp,kn.set (.inr (uv _))⟩
   .rintro ρ S4 ⟨d2,r2,a3,rfl,jN,n9,cz,iV⟩;rw[um,Bu] at n9;cases n9;rw[z6] at jN;subst jN;exact⟨d++(w,b)::d2,c,_,_,rfl,by rw[uM];exact mP,hr,cz,iV⟩
 .exact⟨[],fl,jr,jr,rfl,rfl,h,zL,Kn.refl.app⟩
 .rintro ρ S3 ⟨d,r,a2,a3,rfl,mP,hD,au,kn⟩;rw[Bu] at hD;cases hD;rw[z6] at mP;subst mP;ext;exact⟨au,uv _,kn⟩
def Mdw(fu:Nat)(bs:pR (Str×Int)):Kd->Nat->Bool->Nat->Prop
 | .d x,q,g,c=>∃(us:pR (pR Xv)) (tk:pT Int) (bk b:Bool) (a:Fl2),Nd x us tk bk/\us.length<=1000/\zm0 bs ((x,b)::a) g c/\∀f,q<=f->zg2 (zR fu f) us a
 | .b l,q,g,c=>∃fl,zm0 bs fl g c/\∀f,q<=f->DwL (zR fu f) l fl
 | .s us,q,g,c=>∃fl,zm0 bs fl g c/\∀f,q+1<=f->zg2 (zR fu f) us fl
theorem Tr.dwM(h:Tr bs kd n q g c):c<=1000->Mdw fu bs kd q g c:=by
 induction h with
 |nil=>exact λ_=>⟨[],⟨(λp hp=>by cases hp),rfl,uZ _⟩,λ_ _=> .nil⟩
 |nils=>exact λ_=>⟨[],⟨(λp hp=>by cases hp),rfl,uZ _⟩,λ_ _=> .nil⟩
 | @cons x r n m q p c e g h t1 t2 fI fH=>
  intro hc;obtain⟨us,tk,bk,b,a,nd,ly,ok,i1⟩:=fI ⋯;obtain⟨fl,la,i2⟩:=fH ⋯;refine⟨(x,b)::(a++fl),⟨λz hz=> ?_,?_,?_⟩,λf hf=> .cons nd (i1 f ⋯) (i2 f ⋯) ly⟩
  .rw[<-A5,uW] at hz;exact hz.elim (ok.own z) (la.own z)
  .rw[<-A5,CY,ok.all,la.all]
  .have:=ok.len;have:=la.len;rw[<-A5,ur];omega
 | @conss u r n m q p c e g h t1 t2 fI fH=>
  intro hc;obtain⟨a,ok,i1⟩:=fI ⋯;obtain⟨fl,la,i2⟩:=fH ⋯;refine⟨a++fl,⟨λz hz=> ?_,?_,?_⟩,λf hf=> ?_⟩
  .rw[uW] at hz;exact hz.elim (ok.own z) (la.own z)
  .rw[CY,ok.all,la.all]
  .have:=ok.len;have:=la.len;rw[ur];omega
  .obtain⟨f,rfl⟩:∃e,f=e+1:=⟨f-1,⋯⟩;exact .cons (zqR (by have:=ok.len;omega) (i1 f ⋯)) (i2 _ ⋯)
 | @deed x us tk bk b g m p c nd ow t ih=>
  intro hc;obtain⟨fl,ok,i⟩:=ih ⋯;have ly:us.length<=c:=t.cnt;refine⟨us,tk,bk,b,fl,nd,⋯,⟨λz hz=> ?_,?_,?_⟩,λf hf=> ?_⟩
  .rw[uU] at hz;rcases hz with rfl|hz
   .exact ow
   .exact ok.own z hz
  .rw[Aq,ok.all]
  .have:=ok.len;rw[uw];omega
  .cases nd with
   |plain=>
    cases i (p+1) (uv _);exact .nil
   |cond=>exact i f (by simp at hf;omega)
   |whil=>exact i f (by simp at hf;omega)
   |times=>exact i f (by simp at hf;omega)
   |hand=>exact i f (by simp at hf;omega)
theorem zk8(h:Tr bs (.b l) n q g c)(hc:c<=1000)(hq:q<=15):∃fl,zm0 bs fl g c/\∀S,W (zR fu 20 [.tup l] S) λv S'=>∃n,v= .ref n/\S'[n]? =iJ (.lst (fl.map (·.1)))/\S.length<=n/\Kn S S':=by
 obtain⟨fl,ok,i⟩:=h.dwM (fu:=fu) hc;exact⟨fl,ok,zqR (f:=19) (by have:=ok.len;omega) (i 19 ⋯)⟩
noncomputable def ABC:Str:="abcdefghijklmnopqrstuvwxyz"
noncomputable def nmF(z:Str):Bool:=decide (1<=z.length/\z.length<=8)&&z.cps.toList.all λc=>inS ⟨#[c]⟩ ABC
def asc(z:Str):Prop:=z.cps.all (· <128)=jD
theorem zpr:∀n:Fin 26,inS ⟨#[97+n.1]⟩ ABC=jD:=by decide+kernel
theorem AZ.asc(h:AZ z):asc z:=by
 unfold Prf.asc;rw[C4];intro c hc;have:=h c (by simpa using hc);simp;omega
theorem AZ.nm(h:AZ z)(h1:1<=z.length)(h8:z.length<=8):nmF z=jD:=by
 unfold nmF;rw[decide_eq_true ⟨h1,h8⟩,As,y6];intro c hc;obtain⟨a,b⟩:=h c hc;obtain⟨n,rfl⟩:∃n,c=97+n:=⟨c-97,⋯⟩;exact zpr ⟨n,⋯⟩
theorem zfO(ha:asc z)(hl:z.length<=100):W (Xo fu [.str z] S) λv S'=>v= .bl (nmF z)/\Kn S S':=by
 walk_at "wr";unfold Vh;refine Xg (Uz ?_);refine TQ ?_;ext;refine zbJ (yX hl) ?_;ext;refine⟨λh=> ?_,λh=> ?_⟩
 .have h:(1:Int)<=z.length:=of_decide_eq_true h;ext;refine⟨λh2=> ?_,λh2=> ?_⟩
  .have h2:(z.length:Int)<=8:=of_decide_eq_true h2;ext;walk_at "wr";unfold vh;refine Xg ?_;refine WC (xs:=ve z) (p:=λi=>inS ⟨#[z.cps.toList.getD i 0]⟩ ABC) ?_ ?_ ?_ ?_
   .unfold ve;rw[um,wW];exact yX hl
   .refine zhR ?_;ext;exact⟨ha,λ_ _=>rfl,Kn.refl⟩
   .intro i w S2 hw k2;unfold ve at hw;rw[uA,uH] at hw;obtain⟨c,e,rfl⟩:=hw;show W (eOp ziY (za 0) (za 1) [iJ (.str ⟨#[c]⟩),iJ (.str ABC)] S2) _;ext;refine zkT ?_;rw[uz,e];exact⟨rfl,Kn.refl⟩
   .intro S2 k2;have e:(ve z).length=z.cps.toList.length:=by unfold ve;rw[um]
    rw[e,vM (q:=λc=>inS ⟨#[c]⟩ ABC) (λi a h=>by rw[uz,h];rfl)];refine⟨?_,k2⟩;unfold nmF;rw[decide_eq_true (show 1<=z.length/\z.length<=8 from ⟨⋯,⋯⟩),As]
  .have h2:¬(z.length:Int)<=8:=of_decide_eq_false h2;refine⟨?_,Kn.refl⟩;unfold nmF;rw[decide_eq_false ⋯,Ah]
 .have h:¬(1:Int)<=z.length:=of_decide_eq_false h;refine⟨_,rfl,nofun,λ_=>⟨?_,Kn.refl⟩⟩;unfold nmF;rw[decide_eq_false ⋯,Ah]
theorem zfP:∀(xs acc:pR Str),(Ya acc xs).length=acc.length+xs.length↔xs.Nodup/\∀x∈xs,x∉acc
 |[],acc=>by simp[Ya]
 |x::r,acc=>by
  show(Ya (if x∈acc then acc else acc++[x]) r).length=acc.length+(r.length+1)↔_;by_cases h:x∈acc
  .rw[if_pos h];have:=zce r acc;constructor
   .intro e;omega
   .intro e;exact absurd h (e.2 x (uK ..))
  .rw[if_neg h];have ih:=zfP r (acc++[x]);rw[ur,uF] at ih;rw[show acc.length+(r.length+1)=acc.length+1+r.length by omega,ih,Az];constructor
   .rintro⟨h1,h2⟩;refine⟨⟨λhx=>(h2 x hx) (by simp),h1⟩,λy hy=> ?_⟩;rcases uU.1 hy with rfl|hy
    .exact h
    .exact λz=>h2 y hy (by simp[z])
   .rintro⟨⟨h1,h2⟩,h3⟩;refine⟨h2,λy hy z=> ?_⟩;rcases uW.1 z with z|z
    .exact h3 y (uG _ hy) z
    .rw[uX] at z;subst z;exact h1 hy
theorem WF:∀xs:pR Str,L2.VS (xs.map Xv.str)=iJ xs
 |[]=>rfl
 |b::r=>by rw[uV];simp[L2.VS,WF r]
noncomputable def szF(bs:pR (Str×Int)):Bool:=bs.all λb=>decide (1<=b.2/\b.2<=9)
noncomputable def bxF(bs:pR (Str×Int)):Bool:=decide (bs.length<=9/\(bs.map (·.1)).Nodup)&&((bs.all λb=>nmF b.1)&&(szF bs&&decide (yQ bs<=1000)))
theorem zh4:∀{l:pR (Str×Int)},szF l=jD->1<=yQ l/\yQ l<=9^l.length
 |[],_=>⟨∅,∅⟩
 |b::r,h=>by
  unfold szF at h;rw[Aq,v9] at h;obtain⟨a1,a2⟩:=zh4 (l:=r) h.2;have hb:=of_decide_eq_true h.1;have e:(9:Int)^(b::r).length=9*9^r.length:=by rw[uw,Dq,Ca]
  show 1<=b.2*yQ r/\b.2*yQ r<=_;rw[e];exact⟨by have:=B6 hb.1 a1 ⋯ ⋯;omega,B6 hb.2 a2 ⋯ ⋯⟩
theorem zcu(hl:bs.length<=20)(ha:∀b∈bs,asc b.1/\b.1.length<=100):W (Vj fu [.tup (bs.map yx)] S) λv S'=>v= .bl (bxF bs)/\Kn S S':=by
 walk_at "wr";unfold YI;ext;refine Zp (xs:=bs.map yx) (f:=λi=> .str ((bs.getD i ("",0)).1)) (by rw[um];exact yX ⋯) (UY (by ext;exact⟨rfl,Kn.refl⟩)) ?_ ?_
 .intro i w S2 hw k2;rw[uA,uH] at hw;obtain⟨b,e,rfl⟩:=hw;unfold yx;ext;rw[uz,e];exact⟨rfl,Kn.refl⟩
 intro S2 k2;have pN:(y2 (bs.map yx).length).map (λi=>Xv.str ((bs.getD i ("",0)).1))=(bs.map (·.1)).map Xv.str:=by
  refine BV λi=> ?_;by_cases hi:i<bs.length
  .rw[uA,AI (by rw[um];exact hi),uA,uA,uo hi];show iJ (Xv.str _)=iJ (Xv.str _);rw[uz,uo hi];rfl
  .rw[x5 (by simp;omega),x5 (by simp;omega)]
 rw[pN];have au:(S2++[Ce.lst ((bs.map (·.1)).map Xv.str)])[S2.length]? =iJ (.lst ((bs.map (·.1)).map Xv.str)):=zL;generalize kE:S2++[Ce.lst ((bs.map (·.1)).map Xv.str)]=S3 at au ⊢;have k3:Kn S S3:=by rw[<-kE];exact k2.app
 ext;have kr:((bs.map (·.1)).map Xv.str).length=bs.length:=by rw[um,um]
 refine zy (Zu ?_);ext;refine xx (zj au) ?_;ext;rw[kr];refine⟨λh=> ?_,λh=> ?_⟩
 .have h:¬bs.length<=9:=by
   have:(bs.length:Int)>9:=of_decide_eq_true h;omega
  refine⟨λ_=> ?_,nofun⟩;ext;refine⟨?_,k3⟩;unfold bxF;rw[decide_eq_false (λz=>h z.1),Ah]
 have h9:bs.length<=9:=by
  have:¬(bs.length:Int)>9:=of_decide_eq_false h;omega
 ext;refine zi1 (zj au) (WF _) (by rw[um];omega) ?_;ext;refine xx (zj au) ?_;ext;rw[kr];have lJ:=zfP (bs.map (·.1)) [];rw[um,CW,CH] at lJ;refine⟨λh2=> ?_,λh2=> ?_⟩
 .have h2:(Ya [] (bs.map (·.1))).length≠bs.length:=by
   intro z;rw[z] at h2;simp at h2
  ext;refine⟨?_,k3⟩;unfold bxF;rw[decide_eq_false (λz=>h2 (lJ.2 ⟨z.2,λx _=>by simp⟩)),Ah]
 have oW:(bs.map (·.1)).Nodup:=by
  refine(lJ.1 ?_).1;have:((Ya [] (bs.map (·.1))).length:Int)=bs.length:=by simpa using h2
  omega
 have e1:decide (bs.length<=9/\(bs.map (·.1)).Nodup)=jD:=decide_eq_true ⟨h9,oW⟩;refine zv ?_;refine zh (zy (vb (wY ?_)));refine WC (xs:=(bs.map (·.1)).map Xv.str) (p:=λi=>nmF (bs.getD i ("",0)).1) (by rw[kr];exact yX ⋯) (zk5 (n:=S2.length) (by ext;exact⟨rfl,zj au,Kn.refl⟩)) ?_ ?_
 .intro i w S4 hw k4;rw[uA,uA,DW,uH] at hw;obtain⟨b,e,rfl⟩:=hw;obtain⟨b1,b2⟩:=ha b (x8 e);show W (zf (Xo fu) [za 0] [iJ (.str b.1)] S4) _;ext;refine(zfO b1 b2).imp ?_;rintro _ S5 ⟨rfl,k5⟩;rw[uz,e];exact⟨rfl,k5⟩
 intro S4 k4;rw[kr,vM (q:=λb=>nmF b.1) (λi a h=>by rw[uz,h];rfl)];refine⟨_,rfl,λh3=> ?_,λh3=> ?_⟩
 .ext;refine⟨?_,k3.trans k4⟩;unfold bxF;rw[e1,show(bs.all λb=>nmF b.1)=nW by simpa using h3];rfl
 have e2:(bs.all λb=>nmF b.1)=jD:=by simpa using h3
 refine zv ?_;ext;refine Ym (zfq ?_);ext;refine ZD (λi ρ S5=>∃a3 a4:pT Xv,ρ=[iJ (.tup (bs.map yx)),iJ (.ref S2.length),iJ (.int (yQ (bs.take i))),a3,a4]/\szF (bs.take i)=jD/\S5=S4) (λ_ _ _ _ _=>rfl) ?_ ?_ ?_
 .rintro i w ρ S5 hw ⟨a3,a4,rfl,hz,rfl⟩;rw[uA,uH] at hw;obtain⟨b,e,rfl⟩:=hw;have hi:=(uq.1 e).1;have htk:bs.take (i+1)=bs.take i++[b]:=by
   rw[w9 hi,(uq.1 e).2]
  refine .of rfl ?_;dsimp only[y7];ext;refine zy (vb (wY ?_));ext;refine zaq.imp ?_;rintro _ _ ⟨rfl,rfl⟩;refine⟨_,rfl,λh4=> ?_,λh4=> ?_⟩
  .ext;refine⟨?_,k3.trans k4⟩;have h4:decide (1<=b.2/\b.2<=9)=nW:=by
    cases hh:decide (1<=b.2/\b.2<=9) with
    |false=>rfl
    |true=>rw[hh] at h4;cases h4
   have:szF bs=nW:=by
    unfold szF;rw[CB];exact⟨b,x8 e,by rw[h4];decide⟩
   unfold bxF;rw[e1,e2,this];rfl
  .have h4:decide (1<=b.2/\b.2<=9)=jD:=by simpa using h4
   have hb:=of_decide_eq_true h4;obtain⟨p1,p2⟩:=zh4 hz;have sA:(bs.take i).length<=9:=by rw[z4];omega
   have p3:(9:Int)^(bs.take i).length<=9^9:=by exact_mod_cast A0 ∅ sA
   refine zv ?_;ext
   refine WR (by
    have:intBits (yQ (bs.take i))<=40:=A3.mpr ⋯;have:intBits b.2<=40:=A3.mpr ⋯
    omega) ?_
   ext;refine⟨iJ (.str b.1),iJ (.int b.2),?_,?_,rfl⟩
   .rw[htk,Xt]
   .unfold szF at hz ⊢;rw[htk,CY,hz,As,Aq,h4];rfl
 .exact⟨jr,jr,rfl,rfl,rfl⟩
 .rintro ρ S5 ⟨a3,a4,rfl,hz,rfl⟩;rw[um,z8] at hz ⊢;ext;refine⟨?_,k3.trans k4⟩;unfold bxF;rw[e1,e2,hz];rfl
theorem zh5:∀bs:pR (Str×Int),zfx (bs.map yx)=iJ (szX bs)
 |[]=>rfl
 |b::r=>by
  rw[uV];show(zfx (r.map yx)).map _=_;rw[zh5 r];rfl
theorem zeA(hl:bs.length<=20)(ha:∀b∈bs,asc b.1/\b.1.length<=100)(hb:bxF bs=nW):W (wx fu [.tup [.tup (bs.map yx),z]] S) λv S'=>v= .bl nW/\Kn S S':=by
 walk_at "wr";unfold vi;ext;refine zy (vb (wY ?_));ext;refine(zcu hl ha).imp ?_;rintro _ S2 ⟨rfl,k2⟩;rw[hb];refine⟨_,rfl,λ_=> ?_,nofun⟩;ext;exact⟨rfl,k2⟩
theorem zfQ(hl:bs.length<=20)(ha:∀b∈bs,asc b.1/\b.1.length<=100)(hb:bxF bs=jD)(h:Tr bs (.b l) n q g c)(hc:c<=1000)(hq:q<=15):
  W (wx fu [.tup [.tup (bs.map yx),.tup l]] S) λv S'=>v= .bl (g&&(decide (q<=12)&&decide (n<=100)))/\Kn S S':=by
 have oW:(bs.map (·.1)).Nodup:=by
  unfold bxF at hb;rw[v9] at hb;exact(of_decide_eq_true hb.1).2
 walk_at "wr";unfold vi;ext;refine zy (vb (wY ?_));ext;refine(zcu hl ha).imp ?_;rintro _ S2 ⟨rfl,k2⟩;rw[hb];refine⟨_,rfl,nofun,λ_=>zv ?_⟩;ext;refine zkV (zh5 bs) ?_ ?_
 .unfold szX;rw[Af];have:(bs.map ((λx=>x.1) ∘ λb=>((Bi b.1:Key),Xv.int b.2)))=(bs.map (·.1)).map Bi:=by rw[Af];rfl
  rw[this];exact Ez Bi (λa b e z=>e (Dx z)) oW
 have hd:(S2++[Ce.dk (szX bs)])[S2.length]? =iJ (.dk (szX bs)):=zL;generalize kE:S2++[Ce.dk (szX bs)]=S3 at hd ⊢;have k3:Kn S S3:=by rw[<-kE];exact k2.app
 ext;obtain⟨fl,ok,hw⟩:=zk8 (fu:=fu) h hc hq;refine zy (vb (wY ?_));have oK:W (iL (zf (zR fu 20) [za 2]) [iJ (.tup [.tup (bs.map yx),.tup l]),iJ (.tup (bs.map yx)),iJ (.tup l),iJ (.ref S2.length)] S3) λget S1=>(∀S',Kn S1 S'->get S'=iJ (fl.map (·.1)))/\Kn S3 S1:=by
  refine zku ?_;ext;refine(hw S3).imp ?_;rintro _ S4 ⟨m,rfl,hm,_,k4⟩;exact⟨_,zj hm,λS' k'=>Kn.lst k' (zj hm),k4⟩
 refine WC (xs:=fl.map (·.1)) (p:=λi=>(fl.getD i (.non,nW)).2) (by rw[um];have:=ok.len;exact z3 (y9 (show _<=1000 by omega) ∅)) oK ?_ ?_
 .intro i w S4 hw k4;rw[uA,uH] at hw;obtain⟨p,e,rfl⟩:=hw;show W (zf (Zb fu) [za 1,za 0] [iJ p.1,iJ (.ref S2.length)] S4) _;ext;refine(zg0 (k4.at hd) (ok.own p (x8 e))).imp ?_;rintro _ S5 ⟨rfl,k5⟩;rw[uz,e];exact⟨rfl,k5⟩
 intro S4 k4;rw[um,vM (q:=λp=>p.2) (λi a h=>by rw[uz,h];rfl),ok.all];refine⟨_,rfl,λh3=> ?_,λh3=> ?_⟩
 .ext;exact⟨by rw[show g=nW by simpa using h3];rfl,k3.trans k4⟩
 have hg:g=jD:=by simpa using h3
 subst hg;refine zv ?_;refine Xg (Uz ?_);ext;refine(zmZ h hc hq).imp ?_;rintro _ S5 ⟨rfl,k5⟩;ext;refine⟨λh4=> ?_,λh4=> ?_⟩
 .have h4:q<=12:=by
   have:(q:Int)<=12:=of_decide_eq_true h4;omega
  ext;refine(zk7 h hc ⋯).imp ?_;rintro _ S6 ⟨rfl,k6⟩;ext;exact⟨by rw[decide_eq_true h4];rfl,(k3.trans k4).trans (k5.trans k6)⟩
 .have h4:¬q<=12:=by
   have:¬(q:Int)<=12:=of_decide_eq_false h4;omega
  exact⟨by rw[decide_eq_false h4];rfl,(k3.trans k4).trans k5⟩
theorem zm1(h:Nd x us tk bk):W (ZT fu [x] S) λv S'=>∃n,v= .ref n/\S'[n]? =iJ (.lst (us.map Xv.tup))/\S.length<=n/\Kn S S':=by
 walk_at "wr";unfold ZS;have no:∀{w v:Str} {r:pR Xv} {a:TwS} {N:Rho->Sto->Prop} {R:Xv->Sto->Prop},w≠v->N [iJ (.tup (.str w::r))] S->WS (sIf (bE (eOp (yz nW) (eOp zS (za 0) (q8 0)) (eC (.str v)))) a zF [iJ (.tup (.str w::r))] S) N R:=by
  intro w v r a N R h k;refine zy ?_;ext;exact yy h ⟨_,rfl,nofun,λ_=>zv k⟩
 have mq:∀{w:Str} {r:pR Xv} {a:TwS} {N:Rho->Sto->Prop} {R:Xv->Sto->Prop},w≠"while"->w≠"times"->N [iJ (.tup (.str w::r))] S->WS (sIf (bOr (bE (eOp (yz nW) (eOp zS (za 0) (q8 0)) (tL "while"))) (bE (eOp (yz nW) (eOp zS (za 0) (q8 0)) (tL "times")))) a zF [iJ (.tup (.str w::r))] S) N R:=by
  intro w r a N R h h2 k;refine zy (Zu ?_);ext;refine yy h ⟨_,rfl,nofun,λ_=> ?_⟩;ext;exact yy h2 ⟨_,rfl,nofun,λ_=>zv k⟩
 cases h with
 |plain h1 h2 h3 h4=>
  refine zh (no h1 (zh (mq h2 h3 (zh (no h4 ?_)))));ext;exact⟨zL,uv _,Kn.refl.app⟩
 |cond=>
  refine zh (zy ?_);ext;refine yg ⟨_,rfl,λ_=> ?_,nofun⟩;ext;refine xJ rfl rfl ?_;ext;refine xJ rfl rfl ?_;ext;exact⟨zL,uv _,Kn.refl.app⟩
 |whil=>
  refine zh (no ∅ (zh (zy (Zu ?_))));ext;refine yg ⟨_,rfl,λ_=>⟨λ_=> ?_,nofun⟩,nofun⟩;ext;refine xJ rfl rfl ?_;ext;exact⟨zL,uv _,Kn.refl.app⟩
 |times=>
  refine zh (no ∅ (zh (zy (Zu ?_))));ext;refine yy ∅ ⟨_,rfl,nofun,λ_=> ?_⟩;ext;refine yg ⟨_,rfl,λ_=> ?_,nofun⟩;ext;refine xJ rfl rfl ?_;ext;exact⟨zL,uv _,Kn.refl.app⟩
 | @hand us=>
  refine zh (no ∅ (zh (mq ∅ ∅ (zh (zy ?_)))));ext;refine yg ⟨_,rfl,λ_=> ?_,nofun⟩;ext;refine WO.of (show zhF [.tup (us.map Xv.tup)] S=iJ (.ref S.length,S++[.lst (us.map Xv.tup)]) from rfl) ?_;exact⟨_,rfl,zL,uv _,Kn.refl.app⟩
structure Sk where
 x:Xv
 l:pR Xv
 t:Int
 n:Int
 q:Nat
 c:Nat
noncomputable def Sk.v(e:Sk):Xv:= .tup [e.x,.int e.t]
structure UN(bs:pR (Str×Int))(sn:Nat)(S:Sto)(e:Sk):Prop where
 at_:e.x= .tup e.l\/∃m,e.x= .ref m/\m<sn/\S[m]? =iJ (.lst e.l)
 tr:Tr bs (.b e.l) e.n e.q jD e.c
 q:e.q<=13
 t1:1<=e.t
 t2:e.t<=60^(13-e.q)
theorem UN.keep(h:UN bs sn S e)(k:Kp (· =sn) S S'):UN bs sn S' e:=⟨by
 rcases h.at_ with h|⟨m,h1,h2,h3⟩
 .exact .inl h
 .exact .inr ⟨m,h1,h2,k.2 _ _ h3 ⋯⟩,h.tr,h.q,h.t1,h.t2⟩
noncomputable def Yh:pR Sk->Int
 |[]=>0
 |e::r=>e.t*e.n+Yh r
noncomputable def Zt:pR Sk->Nat
 |[]=>0
 |e::r=>e.c+Zt r
theorem zcv:∀a b:pR Sk,Yh (a++b)=Yh a+Yh b
 |[],b=>by simp[Yh]
 |e::r,b=>by simp only[A5,Yh,zcv r b];omega
theorem zcw:∀a b:pR Sk,Zt (a++b)=Zt a+Zt b
 |[],b=>by simp[Zt]
 |e::r,b=>by simp only[A5,Zt,zcw r b];omega
theorem zfR:∀{l:pR Sk},(∀e∈l,UN bs sn S e)->l.length<=Zt l
 |[],_=>uv _
 |e::r,h=>by
  have:=zfR (l:=r) λz hz=>h z (uG _ hz);have:e.l.length+1<=e.c:=(h e (uK ..)).tr.cnt;simp only[uw,Zt];omega
noncomputable def zm2(fu:Nat):TwS:=UK (iL (zf (ZT fu) [za 5])) (gN 7) (yY (eMt yn (za 2) [yS [za 7,za 6]]))
noncomputable def zk9(fu:Nat):TwS:=zo (zH (eOp xk (za 1) (za 4)) (gN 1)) (zo (zH (za 4) (gN 6)) (zo (sIf (bE (eOp (yz nW) (eOp zS (za 5) (q8 0)) (tL "times"))) (zo (zH (eOp Wv (za 4) (eFn zfh [q8 1,eOp zS (za 5) (q8 1)])) (gN 6)) (zH (eOp xk (za 1) (za 6)) (gN 1))) zF) (zm2 fu)))
noncomputable def zps(fu:Nat):TwS:=zo (zH (eMt ziK (za 2) []) (gT 2 (xf (gN 3) (xf (gN 4) XF)))) (UK (iA (za 3)) (gN 5) (zk9 fu))
theorem zm3:Zm fu=(zo (zH (q8 0) (gN 1)) (zo (zH (yM [yS [za 0,q8 1]]) (gN 2)) (zo (sWh fu (bE (eOp dGt (eFn xO [za 2]) (q8 0))) (zps fu)) (zJ (za 1))))):=rfl
theorem zdH{v0 v3:Xv}{t w len:Int}{sn p c:Nat}{m:Int}{tk:pT Int}{bk:Bool}{st:pR Sk}{a7:pT Xv}(nd:Nd x us tk bk)(tr:Tr bs (.s us) m p jD c)(hp:p<=13)(oE:1<=w)(qt:w<=60^(13-p))
  (gL:∀e∈st,UN bs sn S e) (hc:Zt st+c<=1000) (au:S[sn]? =iJ (.lst (st.map Sk.v))) (hT:T0.length<=sn) (kT:Kn T0 S)
  (k:∀(S2:Sto) (dA:pR Sk) a7,(∀e∈dA,UN bs sn S2 e)->Zt dA=Zt st+c->Yh dA=Yh st+w*m->S2[sn]? =iJ (.lst (dA.map Sk.v))->Kn T0 S2->Kp (· =sn) S S2->N [iJ v0,iJ (.int len),iJ (.ref sn),iJ v3,iJ (.int t),iJ x,iJ (.int w),a7] S2):
  WS (zm2 fu [iJ v0,iJ (.int len),iJ (.ref sn),iJ v3,iJ (.int t),iJ x,iJ (.int w),a7] S) N R:=by
 unfold zm2;refine Ym (zku ?_);ext;refine(zm1 nd).imp ?_;rintro _ S1 ⟨n,rfl,hn,jC,k1⟩;have tT:sn<S.length:=(uq.1 au).1;refine⟨_,zj hn,_,zj hn,?_⟩;have qb:Kp (· =sn) S S1:=k1.mono (λ_ z=>z.elim);refine ZD (λi ρ S2=>∃(dA:pR Sk) (m':Int) (p' c':Nat) (a7:pT Xv),ρ=[iJ v0,iJ (.int len),iJ (.ref sn),iJ v3,iJ (.int t),iJ x,iJ (.int w),a7]/\Tr bs (.s (us.drop i)) m' p' jD c'/\p'<=p/\(∀e∈dA,UN bs sn S2 e)/\Zt dA+c'=Zt st+c/\Yh dA+w*m'=Yh st+w*m/\S2[sn]? =iJ (.lst (dA.map Sk.v))/\S2[n]? =iJ (.lst (us.map Xv.tup))/\Kn T0 S2/\Kp (· =sn) S S2) ?_ ?_ ?_ ?_
 .rintro i ρ S2 _ ⟨_,_,_,_,_,_,_,_,_,_,_,_,h,_⟩;exact zj h
 .rintro i z ρ S2 hz ⟨dA,m',p',c',a7,rfl,jd,ky,j8,jb,kL,cz,jc,ka,lU⟩;rw[uA,uH] at hz;obtain⟨u,hz,rfl⟩:=hz;have hi:=(uq.1 hz).1;rw[Ax hi,(uq.1 hz).2] at jd;generalize hg:(jD:Bool)=gg at jd;cases jd with
  | @conss _ _ n1 m1 q1 p1 c1 e1 g1 g2 t1 t2=>
   have sN:g1=jD/\g2=jD:=by
    cases g1<;>cases g2<;>first|exact⟨rfl,rfl⟩|cases hg
   obtain⟨rfl,rfl⟩:=sN;have lZ:=zfR j8;refine .of rfl ?_;dsimp only[y7];ext;refine Xf ?_;ext;refine⟨⟨_,zj cz⟩,?_⟩;ext;refine xr (xa cz) (by rw[um];exact y9 (show _<=1000 by omega) ∅) ?_;ext;have kp:Kp (· =sn) S2 (S2.set sn (.lst (dA.map Sk.v++[.tup [.tup u,.int w]]))):=(Kp.refl _).set (.inl rfl);have tV:q1<=p:=by omega
   have rZ:(60:Int)^(13-p)<=60^(13-q1):=by exact_mod_cast A0 ∅ ⋯
   refine⟨dA++[⟨.tup u,u,w,n1,q1,c1⟩],m1,p1,e1,_,rfl,t2,⋯,?_,?_,?_,?_,zcq jc ⋯,ka.set (.inr hT),lU.trans kp⟩
   .intro e he;rw[uW,uX] at he;rcases he with he|rfl
    .exact (j8 e he).keep kp
    .exact⟨.inl rfl,t1,by show q1<=13;omega,oE,by show w<=60^(13-q1);omega⟩
   .rw[zcw];simp only[Zt];omega
   .rw[zcv];simp only[Yh];rw[Bx] at kL;omega
   .rw[xB cz,uO];rfl
 .exact⟨st,m,p,c,_,rfl,tr,uv _,λe he=>(gL e he).keep qb,rfl,rfl,k1.at au,hn,kT.trans k1,qb⟩
 .rintro ρ S2 ⟨dA,m',p',c',a7,rfl,jd,ky,j8,jb,kL,cz,jc,ka,lU⟩;rw[um,Bu] at jd;generalize hg:(jD:Bool)=gg at jd;cases jd;exact k S2 dA a7 j8 ⋯ ⋯ cz ka lU
theorem za4(h:(jD:Bool)=(a&&b)):a=jD/\b=jD:=by cases a<;>cases b<;>first|exact⟨rfl,rfl⟩|cases h
theorem zpt(h1:1<=t)(h2:t<=60^(13-q)):intBits t<=100:=A3.mpr (by
 have h3:(60:Int)^(13-q)<=60^13:=by exact_mod_cast A0 ∅ ⋯
 have h4:(60:Int)^13<2^90:=by decide
 have h5:t.natAbs<2^90:=by omega
 exact uY h5 ∅)
theorem zla{v0 v3:Xv}{t len:Int}{sn q c:Nat}{n:Int}{st:pR Sk}{a6 a7:pT Xv}(tr:Tr bs (.d x) n q jD c)(hq:q<=13)(oI:1<=t)(kL:t<=60^(13-q))
  (gL:∀e∈st,UN bs sn S e) (hc:Zt st+c<=1000) (au:S[sn]? =iJ (.lst (st.map Sk.v))) (hT:T0.length<=sn) (kT:Kn T0 S)
  (k:∀(S2:Sto) (dA:pR Sk) (len2:Int) a6 a7,(∀e∈dA,UN bs sn S2 e)->Zt dA+1<=Zt st+c->len2+Yh dA=len+Yh st+t*n->S2[sn]? =iJ (.lst (dA.map Sk.v))->Kn T0 S2->Kp (· =sn) S S2->N [iJ v0,iJ (.int len2),iJ (.ref sn),iJ v3,iJ (.int t),iJ x,a6,a7] S2):
  WS (zk9 fu [iJ v0,iJ (.int len),iJ (.ref sn),iJ v3,iJ (.int t),iJ x,a6,a7] S) N R:=by
 generalize hg:(jD:Bool)=gg at tr;cases tr with
 | @deed _ us tk bk b g m p c nd ow tr=>
  obtain⟨rfl,rfl⟩:=za4 hg;have lW:bk=jD->p<=12/\(60:Int)*60^(13-(if bk=jD then 1+p else 0))=60^(13-p):=by
   rintro rfl;rw[if_pos rfl] at hq ⊢;refine⟨⋯,?_⟩;rw[show 13-p=(13-(1+p))+1 by omega,Dq,Ca]
  have mB:p<=13:=by
   cases nd with
   |plain=>cases tr;decide
   |cond=>exact Ak (Bv (lW rfl).1)
   |whil=>exact Ak (Bv (lW rfl).1)
   |times=>exact Ak (Bv (lW rfl).1)
   |hand=>exact Ak (Bv (lW rfl).1)
  have nH:t<=60^(13-p):=by
   have le:bk=jD->t<=60^(13-p):=by
    intro e;have h:=(lW e).2;have:0<=(60:Int)^(13-(if bk=jD then 1+p else 0)):=by exact_mod_cast uZ _
    omega
   cases nd with
   |plain=>cases tr;exact kL
   |cond=>exact le rfl
   |whil=>exact le rfl
   |times=>exact le rfl
   |hand=>exact le rfl
  unfold zk9;have plain:∀{w:Str} {r:pR Xv},x= .tup (.str w::r)->w≠"times"->tk=jr->WS (zo (zH (eOp xk (za 1) (za 4)) (gN 1)) (zo (zH (za 4) (gN 6)) (zo (sIf (bE (eOp (yz nW) (eOp zS (za 5) (q8 0)) (tL "times"))) (zo (zH (eOp Wv (za 4) (eFn zfh [q8 1,eOp zS (za 5) (q8 1)])) (gN 6)) (zH (eOp xk (za 1) (za 6)) (gN 1))) zF) (zm2 fu))) [iJ v0,iJ (.int len),iJ (.ref sn),iJ v3,iJ (.int t),iJ x,a6,a7] S) N R:=by
   rintro w r rfl hw rfl;ext;refine zy ?_;ext;refine yy hw ⟨_,rfl,nofun,λ_=>zv ?_⟩;refine zdH nd tr mB oI nH gL ⋯ au hT kT ?_;intro S2 dA a7 h1 h2 h3 h4 h5 h6;refine k S2 dA _ _ _ h1 ⋯ ?_ h4 h5 h6;show len+t+Yh dA=len+Yh st+t*(1+m);rw[h3,Bx];omega
  cases nd with
  |plain n1 n2 n3 n4=>exact plain rfl n3 rfl
  |cond=>exact plain rfl ∅ rfl
  |whil=>exact plain rfl ∅ rfl
  |hand=>exact plain rfl ∅ rfl
  | @times j u=>
   have hj:0<=j/\j<=60:=by
    generalize hh:(jD:Bool)=b2 at ow;cases ow;exact of_decide_eq_true hh.symm
   have hb:=zpt oI nH;ext;refine zy ?_;ext;refine yg ⟨_,rfl,λ_=> ?_,nofun⟩;ext;have ej:(if j>1 then j else 1)=(if 1<j then j else 1):=rfl;have j1:1<=(if 1<j then j else 1)/\(if 1<j then j else 1)<=60:=by split<;>omega
   refine WR (by
    have:intBits (if j>1 then j else 1)<=10:=A3.mpr (by rw[ej];omega)
    omega) ?_
   ext;rw[ej];have mw:zdF (iJ j) m=(if 1<j then j else 1)*(1+m):=rfl;rw[mw] at k;generalize (if 1<j then j else 1)=jj at j1 k ⊢;have oE:1<=t*jj:=by
    have:=B6 oI j1.1 ⋯ ⋯;omega
   have qt:t*jj<=60^(13-p):=by
    have h1:=(lW rfl).2;have h2:t*jj<=60^(13-(if jD=jD then 1+p else 0))*60:=B6 kL j1.2 ⋯ (by exact_mod_cast uZ _);rw[Ca _ 60,h1] at h2;exact h2
   refine zdH .times tr mB oE qt gL ⋯ au hT kT ?_;intro S2 dA a7 h1 h2 h3 h4 h5 h6;refine k S2 dA _ _ _ h1 ⋯ ?_ h4 h5 h6;rw[h3,Bx,Bx jj,Dy,Bx,Dy,<-C2];omega
theorem zi4{v0:Xv}{len:Int}{sn:Nat}{e:Sk}{st:pR Sk}{a5 a6 a7:pT Xv}(he:UN bs sn S e)
  (gL:∀e∈st,UN bs sn S e) (hc:Zt st+e.c<=1000) (au:S[sn]? =iJ (.lst (st.map Sk.v))) (hT:T0.length<=sn) (kT:Kn T0 S)
  (k:∀(S2:Sto) (dA:pR Sk) (len2:Int) a5 a6 a7,(∀e∈dA,UN bs sn S2 e)->Zt dA+1<=Zt st+e.c->len2+Yh dA=len+Yh st+e.t*e.n->S2[sn]? =iJ (.lst (dA.map Sk.v))->Kn T0 S2->N [iJ v0,iJ (.int len2),iJ (.ref sn),iJ e.x,iJ (.int e.t),a5,a6,a7] S2):
  WS (UK (iA (za 3)) (gN 5) (zk9 fu) [iJ v0,iJ (.int len),iJ (.ref sn),iJ e.x,iJ (.int e.t),a5,a6,a7] S) N R:=by
 have loop:∀get:Sto->pT (pR Xv),(∀S2,Kp (· =sn) S S2->get S2=iJ e.l)->WS (Vu get (gN 5) (zk9 fu) (e.l.length+1) 0 [iJ v0,iJ (.int len),iJ (.ref sn),iJ e.x,iJ (.int e.t),a5,a6,a7] S) N R:=by
  intro get lK;refine ZD (λi ρ S2=>∃(dA:pR Sk) (n' len2:Int) (q' c':Nat) (a5 a6 a7:pT Xv),ρ=[iJ v0,iJ (.int len2),iJ (.ref sn),iJ e.x,iJ (.int e.t),a5,a6,a7]/\Tr bs (.b (e.l.drop i)) n' q' jD c'/\q'<=e.q/\(∀e∈dA,UN bs sn S2 e)/\Zt dA+c'<=Zt st+e.c/\len2+Yh dA+e.t*n'=len+Yh st+e.t*e.n/\S2[sn]? =iJ (.lst (dA.map Sk.v))/\Kn T0 S2/\Kp (· =sn) S S2) ?_ ?_ ?_ ?_
  .rintro i ρ S2 _ ⟨_,_,_,_,_,_,_,_,_,_,_,_,_,_,_,_,h⟩;exact lK S2 h
  .rintro i z ρ S2 hz ⟨dA,n',len2,q',c',a5,a6,a7,rfl,jd,rY,j8,jb,kL,cz,ka,lU⟩;have hi:=(uq.1 hz).1;rw[Ax hi,(uq.1 hz).2] at jd;generalize hg:(jD:Bool)=gg at jd;cases jd with
   | @cons _ _ n1 m1 q1 p1 c1 e1 g1 g2 t1 t2=>
    obtain⟨rfl,rfl⟩:=za4 hg;refine .of rfl ?_;dsimp only[y7];have uc:=he.q;have rZ:(60:Int)^(13-e.q)<=60^(13-q1):=by exact_mod_cast A0 ∅ ⋯
    have u5:=he.t2;refine zla t1 ⋯ he.t1 ⋯ j8 ⋯ cz hT ka ?_;intro S3 ko lh a6 a7 h1 h2 h3 h4 h5 h6;refine⟨ko,m1,lh,p1,e1,_,a6,a7,rfl,t2,⋯,h1,⋯,?_,h4,h5,lU.trans h6⟩;rw[Bx] at kL;omega
  .exact⟨st,e.n,len,e.q,e.c,a5,a6,a7,rfl,he.tr,uv _,gL,uv _,rfl,au,kT,Kp.refl _⟩
  .rintro ρ S2 ⟨dA,n',len2,q',c',a5,a6,a7,rfl,jd,rY,j8,jb,kL,cz,ka,lU⟩;rw[Bu] at jd;generalize hg:(jD:Bool)=gg at jd;cases jd;exact k S2 dA len2 a5 a6 a7 j8 jb ⋯ cz ka
 rcases he.at_ with hx|⟨m,hx,hm,cz⟩
 .refine Ym (zkX ?_);ext;rw[hx];refine⟨e.l,rfl,e.l,rfl,?_⟩;rw[<-hx];exact loop _ λ_ _=>rfl
 .refine Ym (zkW ?_);ext;rw[hx];refine⟨m,e.l,rfl,zj cz,e.l,zj cz,?_⟩;rw[<-hx];exact loop _ λS2 k2=>by rw[hx];exact zj (k2.2 _ _ cz ⋯)
theorem zlb:∀(k:Nat) (st:pR Sk) (len:Int) (a3 a4 a5 a6 a7:pT Xv) (S:Sto),Zt st<k->Zt st<=1000->(∀e∈st,UN bs sn S e)->S[sn]? =iJ (.lst (st.map Sk.v))->T0.length<=sn->Kn T0 S->
  WS (VI (bE (eOp dGt (eFn xO [za 2]) (q8 0))) (zps fu) k [iJ v0,iJ (.int len),iJ (.ref sn),a3,a4,a5,a6,a7] S) (λρ S'=>∃a3 a4 a5 a6 a7,ρ=[iJ v0,iJ (.int (len+Yh st)),iJ (.ref sn),a3,a4,a5,a6,a7]/\Kn T0 S') R:=by
 intro k
 induction k with
 |zero=>intro st len a3 a4 a5 a6 a7 S h;omega
 |succ k ih=>
  intro st len a3 a4 a5 a6 a7 S hk hc gL au hT kT;refine WQ ?_;ext;refine xx (zj au) ?_;ext;rw[um];refine yu (λjb=> ?_) (λjb=> ?_)
  .unfold zps;have fj:st≠[]:=λq=>by rw[q] at jb;simp at jb
   obtain⟨r,e,rfl⟩:∃r p,st=r++[p]:=⟨st.dropLast,st.getLast fj,(Cj fj).symm⟩;have he:UN bs sn S e:=gL _ (z5 _ (uX.2 rfl));have hr:∀p∈r,UN bs sn S p:=λp hp=>gL p (B1 _ hp);rw[zcw] at hk hc;have e1:Zt [e]=e.c:=by simp[Zt]
   have e2:Yh (r++[e])=Yh r+e.t*e.n:=by rw[zcv];simp[Yh]
   rw[e1] at hk hc;rw[e2];ext;refine VN ?_;refine Xf ?_;ext;refine⟨⟨_,zj au⟩,?_⟩;ext
   refine WO.of (show ziK (.ref sn) [] S = iJ (e.v, S.set sn (.lst (r.map Sk.v))) by
    unfold ziK;rw[xa au];dsimp only;rw[uO,uV,BJ,ur,uF,Nat.add_sub_cancel,uL (uv _),B9,List.dropLast_concat]
    rfl) ?_
   have cz:=xB (c':= .lst (r.map Sk.v)) au;have kp:Kp (· =sn) S (S.set sn (.lst (r.map Sk.v))):=(Kp.refl _).set (.inl rfl);have ka:Kn T0 (S.set sn (.lst (r.map Sk.v))):=kT.set (.inr hT);generalize S.set sn (.lst (r.map Sk.v))=S2 at cz kp ka ⊢;refine .of rfl ?_;dsimp only[y7];refine zi4 (he.keep kp) (λp hp=>(hr p hp).keep kp) ⋯ cz hT ka ?_;intro S3 ko lh a5 a6 a7 h1 h2 h3 h4 h5;have:=ih ko lh (iJ e.x) (iJ (.int e.t)) a5 a6 a7 S3 ⋯ ⋯ h1 h4 hT h5;rw[h3,Df] at this;exact this
  .have:st=[]:=Aa.1 ⋯;subst this;exact⟨a3,a4,a5,a6,a7,by simp[Yh],kT⟩
theorem zlc(eh:Big fu)(h:Tr bs (.b l) n q jD c)(hc:c<=1000)(hq:q<=13)(hx:x= .tup l\/∃m,x= .ref m/\S[m]? =iJ (.lst l)):W (wa fu [x] S) λv S'=>v= .int n/\Kn S S':=by
 refine VO rfl rfl ?_;dsimp only[Bt,AB,AX,Bg,uI];rw[zm3];ext;have au:(S++[Ce.lst [.tup [x,.int 1]]])[S.length]? =iJ (.lst ([(⟨x,l,1,n,q,c⟩:Sk)].map Sk.v)):=zL;have kn:Kn S (S++[Ce.lst [.tup [x,.int 1]]]):=Kn.refl.app;generalize S++[Ce.lst [.tup [x,.int 1]]]=S2 at au kn ⊢;refine xw (λρ S'=>∃a3 a4 a5 a6 a7,ρ=[iJ x,iJ (.int (0+Yh [(⟨x,l,1,n,q,c⟩:Sk)])),iJ (.ref S.length),a3,a4,a5,a6,a7]/\Kn S S') ?_ ?_
 .refine zca ((zlb (bs:=bs) fu [⟨x,l,1,n,q,c⟩] 0 jr jr jr jr jr S2 ?_ ?_ ?_ au (uv _) kn))
  .have:=eh.le;simp only[Zt];omega
  .simp only[Zt];omega
  .intro e he;rw[uX] at he;subst he;refine⟨?_,h,hq,Int.le_refl 1,?_⟩
   .rcases hx with rfl|⟨m,rfl,hm⟩
    .exact .inl rfl
    .exact .inr ⟨m,rfl,(uq.1 hm).1,kn.at hm⟩
   .show (1:Int)<=60^(13-q);exact_mod_cast DV _ 60 ∅
 .rintro ρ S3 ⟨a3,a4,a5,a6,a7,rfl,k3⟩;ext;exact⟨by simp[Yh],k3⟩
def GOp(bs:pR (Str×Int))(x:Xv):Prop:=WD x/\opF bs x=jD
theorem zg3(h:b∈bs):(Wm bs b.1).isSome=jD:=by
 unfold Wm;rw[BU,Dw];exact⟨b,h,decide_eq_true rfl⟩
theorem znX(nd:(bs.map (·.1)).Nodup)(h:b∈bs):Wm bs b.1=iJ b.2:=by
 induction bs with
 |nil=>cases h
 |cons c r ih=>
  rw[uV,Az] at nd;unfold Wm;rw[A8];rcases uU.1 h with rfl|h
  .rw[decide_eq_true rfl];rfl
  .have:c.1≠b.1:=λe=>nd.1 (by rw[e];exact BD h);rw[decide_eq_false this];exact ih nd.2 h
theorem GOp.nm(h:b∈bs):GOp bs (.str b.1):=⟨.inl ⟨_,rfl⟩,zg3 h⟩
theorem GOp.num(h0:0<=v)(h1:v<=999999999):GOp bs (.int v):=⟨.inr ⟨_,rfl⟩,decide_eq_true ⟨h0,h1⟩⟩
theorem zg4{i:Int}(h0:0<=i)(h1:i<bs.length):∃b∈bs,atI (bs.map yx) i=iJ (yx b):=by
 have hi:i.toNat<bs.length:=by omega
 exact⟨bs[i.toNat],Au hi,vc h0 (by rw[uA,uo hi];rfl)⟩
theorem YV{k:Int}(hs:Sc ns S)(hk:0<=k/\k<=1000):W (yK fu [.ref 0,.int k,.tup (bs.map yx)] S) λv S'=>GOp bs v/\S=S':=by
 walk_at "wr";unfold vD;ext;refine xw (λρ S2=>∃c:Int,ρ=[iJ (.ref 0),iJ (.int k),iJ (.tup (bs.map yx)),iJ (.int c),jr]/\S2=S) (zy ?_) ?_
 .ext;refine xx hs ?_;ext;rw[um];refine yu (λh=> ?_) (λh=> ?_)
  .have h:0<ns.length:=by omega
   ext;refine xx hs ?_;ext;rw[um];refine zaO ⋯ ?_;have h1:=AA k (show(ns.length:Int)≠0 by omega);have h2:=AQ k (show(0:Int)<ns.length by omega);have h3:(k % (ns.length:Int)).toNat<ns.length:=by omega
   refine xo hs (vc h1 (by rw[uA,uo h3];rfl)) ?_;ext;exact rfl
  .ext;exact rfl
 .rintro ρ S2 ⟨c,rfl,rfl⟩;ext;refine(yZ hs hk ∅ ∅).imp ?_;rintro _ _ ⟨rfl,_,_,rfl⟩;ext;refine zy (xH ?_);ext;have rest:WS ((zo (sIf (bE (eOp Zs (za 4) (q8 2))) (zJ (eOp zcR (za 3) (eOp ziN (q8 10) (q8 9)))) zF) (zJ (zf (zk fu) [za 0,za 1,q8 10133,q8 10]))) [iJ (.ref 0),iJ (.int k),iJ (.tup (bs.map yx)),iJ (.int c),iJ (.int (wb ns k 10103 4))] S2) (λx S1=>GOp bs .non/\S2=S1) (λv S'=>GOp bs v/\S2=S'):=by
   refine zh (zy ?_);ext;refine yu (λh=> ?_) (λh=> ?_)
   .ext;refine zaO ∅ ?_;have e:((10:Int)^(9:Int).toNat)=1000000000:=by decide
    rw[e];have h1:=AA c (show(1000000000:Int)≠0 by decide);have h2:=AQ c (show(0:Int)<1000000000 by decide);exact⟨.num h1 ⋯,rfl⟩
   .ext;refine(yZ hs hk ∅ ∅).imp ?_;rintro _ _ ⟨rfl,h1,h2,rfl⟩;exact⟨.num h1 ⋯,rfl⟩
  refine yu (λh=> ?_) (λh=> ?_)
  .ext;refine vF ?_;ext;rw[um];refine yu (λh=> ?_) (λh=> ?_)
   .ext;refine vF ?_;ext;rw[um];refine(yZ hs hk ∅ ⋯).imp ?_;rintro _ _ ⟨rfl,h1,h2,rfl⟩;ext;obtain⟨b,hb,e⟩:=zg4 h1 h2;refine xJ rfl e ?_;unfold yx;ext;exact⟨.nm hb,rfl⟩
   .exact zv rest
  .exact⟨nofun,λ_=>zv rest⟩
noncomputable def TS:pR Str:=["=","<","#"]
noncomputable def RS:pR Str:=["+","-","*"]
theorem zqS(h0:0<=v)(h1:v<3):∃s:Str,s∈TS/\zb0 (.str "=<#") (.int v) S=iJ (.str s,S):=by
 rcases(show v=0\/v=1\/v=2 by omega) with rfl|rfl|rfl
 .exact⟨"=",∅,rfl⟩
 .exact⟨"<",∅,rfl⟩
 .exact⟨"#",∅,rfl⟩
theorem zqT(h0:0<=v)(h1:v<3):∃s:Str,s∈RS/\zb0 (.str "+-*") (.int v) S=iJ (.str s,S):=by
 rcases(show v=0\/v=1\/v=2 by omega) with rfl|rfl|rfl
 .exact⟨"+",∅,rfl⟩
 .exact⟨"-",∅,rfl⟩
 .exact⟨"*",∅,rfl⟩
theorem zg5(hs:Sc ns S)(hk:0<=k/\k<=900):W (wS fu [.ref 0,.int k,.tup (bs.map yx)] S) λv S'=>(∃x y s,v= .tup [x,.str s,y]/\s∈TS/\GOp bs x/\GOp bs y)/\S=S':=by
 walk_at "wr";unfold YO;ext;refine(yZ hs ⟨hk.1,⋯⟩ ∅ ∅).imp ?_;rintro _ _ ⟨rfl,h0,h1,rfl⟩;obtain⟨s,jK,ku⟩:=zqS (S:=S) h0 h1;refine WO.of ku ?_;ext;refine(YV (bs:=bs) hs ⟨⋯,⋯⟩).imp ?_;rintro a _ ⟨ha,rfl⟩;ext;refine(YV (bs:=bs) hs ⟨⋯,⋯⟩).imp ?_;rintro b _ ⟨hb,rfl⟩;ext;exact⟨⟨a,b,s,rfl,jK,ha,hb⟩,rfl⟩
theorem zfS(hs:Sc ns S)(hk:0<=k/\k<=900):W (Zj fu [.ref 0,.int k,.tup (bs.map yx)] S) λv S'=>((∃x,v= .tup [x]/\GOp bs x)\/∃x y s,v= .tup [x,.str s,y]/\s∈RS/\GOp bs x/\GOp bs y)/\S=S':=by
 walk_at "wr";unfold wE;refine zh (zy ?_);ext;refine(yZ hs ⟨hk.1,⋯⟩ ∅ ∅).imp ?_;rintro _ _ ⟨rfl,_,_,rfl⟩;ext;refine yu (λh=> ?_) (λh=>zv ?_)
 .ext;refine(YV (bs:=bs) hs ⟨⋯,⋯⟩).imp ?_;rintro a _ ⟨ha,rfl⟩;ext;exact⟨.inl ⟨a,rfl,ha⟩,rfl⟩
 ext;refine(yZ hs ⟨hk.1,⋯⟩ ∅ ∅).imp ?_;rintro _ _ ⟨rfl,h0,h1,rfl⟩;obtain⟨s,jK,ku⟩:=zqT (S:=S) h0 h1;refine WO.of ku ?_;ext;refine(YV (bs:=bs) hs ⟨⋯,⋯⟩).imp ?_;rintro a _ ⟨ha,rfl⟩;ext;refine(YV (bs:=bs) hs ⟨⋯,⋯⟩).imp ?_;rintro b _ ⟨hb,rfl⟩;ext;exact⟨.inr ⟨a,b,s,rfl,jK,ha,hb⟩,rfl⟩
theorem zld{n i:Nat}(h:i<n):ixN n (i:Int)=iJ i:=by
 unfold ixN;rw[if_pos ⋯,if_pos ⋯,A7]
theorem zle{n:Nat}{i:Int}(h0:0<=i)(h1:i<n):ixN n i=iJ i.toNat:=by
 obtain⟨m,rfl⟩:∃m:Nat,i=m:=⟨i.toNat,⋯⟩;exact zld ⋯
theorem zbK{ws:pR Int}{i:Nat}{v:Int}{p:Int->Bool}(h:ws.all p=jD)(hv:p v=jD):(ws.set i v).all p=jD:=by
 rw[y6] at h ⊢;intro w hw;rcases List.mem_or_eq_of_mem_set hw with hw|rfl
 .exact h w hw
 .exact hv
theorem zeB:∀{ws:pR Int},(∀w∈ws,0<=w)->0<=ws.sum/\∀w∈ws,w<=ws.sum
 |[],_=>⟨∅,λw h=>by cases h⟩
 |a::r,h=>by
  obtain⟨h1,h2⟩:=zeB (ws:=r) λw hw=>h w (uG _ hw);have ha:=h a (uK ..);rw[List.sum_cons];refine⟨⋯,λw hw=> ?_⟩;rcases uU.1 hw with rfl|hw
  .omega
  .have:=h2 w hw;omega
theorem zi5{s:Nat}(hs:Sc ns S)(hk:0<=k/\k<=900)(h1:1<=s)(h9:s<=9):W (Yo fu [.ref 0,.int k,.int (s:Int)] S) λv S'=>∃ws:pR Int,v= .tup (ws.map Xv.int)/\ws.length=s/\wOk ws s=jD/\Kn S S':=by
 walk_at "wr";unfold vE;ext;have qU:∀ws:pR Int,ws.length=s->ws.all (λw=>decide (0<=w/\w<=999999999))=jD->0<ws.sum->wOk ws s=jD:=by
  intro ws hl ha hp;unfold wOk;rw[decide_eq_true (by omega:(ws.length:Int)=s),ha,decide_eq_true hp];rfl
 refine Zp (xs:=Yl 0 s) (f:=λi=> .int (wb ns (k+i) 10159 4)) (by rw[vH];exact yX ⋯) ?_ ?_ ?_
 .refine zcb ?_;ext;exact⟨⟨⋯,⋯⟩,λ_ _=>by rw[A7],Kn.refl⟩
 .intro i w S2 hw k2;obtain⟨hi,rfl⟩:=UA hw;show W (zf (zk fu) [za 1,eOp xk (za 2) (za 0),q8 10159,q8 4] [iJ (.int (0+(i:Int))),iJ (.ref 0),iJ (.int k)] S2) _;ext;rw[C8];refine(yZ (hs.keep k2) ⟨⋯,⋯⟩ ∅ ∅).imp ?_;rintro _ _ ⟨rfl,_,_,rfl⟩;exact⟨rfl,Kn.refl⟩
 intro S2 k2;obtain⟨ws,lx,j7,kc⟩:∃ws:pR Int,(y2 (Yl 0 s).length).map (λ(i:Nat)=>Xv.int (wb ns (k+(i:Int)) 10159 4))=ws.map Xv.int/\ws.length=s/\ws.all (λw=>decide (0<=w/\w<=999999999))=jD:=by
  refine⟨(y2 s).map λ(i:Nat)=>wb ns (k+i) 10159 4,by rw[vH,Af];rfl,by rw[um,Cz],?_⟩;rw[y6];intro w hw;obtain⟨i,_,rfl⟩:=Ag.1 hw;unfold wb;have a1:=AA ((((if 0<ns.length then ns.getD ((k+(i:Int)) % ns.length).toNat 0 else 0)+(k+i)*(k+i))*48271+11) % 10159) (show(4:Int)≠0 by decide);have a2:=AQ ((((if 0<ns.length then ns.getD ((k+(i:Int)) % ns.length).toNat 0 else 0)+(k+i)*(k+i))*48271+11) % 10159) (show(0:Int)<4 by decide);exact decide_eq_true ⟨a1,⋯⟩
 rw[lx];have au:(S2++[Ce.lst (ws.map Xv.int)])[S2.length]? =iJ (.lst (ws.map Xv.int)):=zL;generalize kE:S2++[Ce.lst (ws.map Xv.int)]=S3 at au ⊢;have k3:Kn S S3:=by rw[<-kE];exact k2.app
 have jC:S.length<=S2.length:=k2.1;ext;refine(yZ (hs.keep k3) ⟨hk.1,⋯⟩ ∅ ⋯).imp ?_;rintro _ _ ⟨rfl,a0,a1,rfl⟩;ext;generalize wb ns k 10163 s=at_ at a0 a1;have pE:at_.toNat<ws.length:=by omega
 refine xw (λρ S4=>∃ws:pR Int,ρ=[iJ (.ref 0),iJ (.int k),iJ (.int (s:Int)),iJ (.ref S2.length),iJ (.int at_)]/\ws.length=s/\ws.all (λw=>decide (0<=w/\w<=999999999))=jD/\0<ws.sum/\S4[S2.length]? =iJ (.lst (ws.map Xv.int))/\Kn S S4) (zy ?_) ?_
 .ext;refine zgY (zj au) (Xu ws) ?_;ext;have nn:∀w∈ws,0<=w:=λw hw=>(of_decide_eq_true (y6.1 kc w hw)).1;refine yu (λh=> ?_) (λh=> ?_)
  .refine zfp ?_;ext;refine⟨S2.length,ws.map Xv.int,at_,at_.toNat,xa au,rfl,zle a0 (by rw[um];omega),?_⟩;refine⟨ws.set at_.toNat 1,rfl,by rw[Al];exact j7,zbK kc ∅,?_,?_,k3.set (.inr jC)⟩
   .have h1:(1:Int)∈ws.set at_.toNat 1:=Es pE 1;have:=(zeB (ws:=ws.set at_.toNat 1) λw hw=>(of_decide_eq_true (y6.1 (zbK kc ∅ (i:=at_.toNat) (v:=1)) w hw)).1).2 1 h1;omega
   .rw[xB au,Et]
  .ext;exact⟨ws,rfl,j7,kc,by have:=(zeB nn).1;omega,au,k3⟩
 .rintro ρ S4 ⟨ws,rfl,j7,kc,lC,au,k4⟩;ext;refine xw (λρ S5=>∃ws:pR Int,ρ=[iJ (.ref 0),iJ (.int k),iJ (.int (s:Int)),iJ (.ref S2.length),iJ (.int at_)]/\ws.length=s/\ws.all (λw=>decide (0<=w/\w<=999999999))=jD/\0<ws.sum/\S5[S2.length]? =iJ (.lst (ws.map Xv.int))/\Kn S S5) (zy ?_) ?_
  .ext;refine(yZ (hs.keep k4) ⟨hk.1,⋯⟩ ∅ ∅).imp ?_;rintro _ _ ⟨rfl,_,_,rfl⟩;ext;refine yu (λh=> ?_) (λh=> ?_)
   .refine zfp ?_;ext;have e:((10:Int)^(9:Int).toNat-1)=999999999:=by decide
    rw[e];have pE:at_.toNat<ws.length:=by omega
    refine⟨S2.length,ws.map Xv.int,at_,at_.toNat,xa au,rfl,zle a0 (by rw[um];omega),?_⟩;refine⟨ws.set at_.toNat 999999999,rfl,by rw[Al];exact j7,zbK kc ∅,?_,?_,k4.set (.inr jC)⟩
    .have h1:(999999999:Int)∈ws.set at_.toNat 999999999:=Es pE 999999999;have:=(zeB (ws:=ws.set at_.toNat 999999999) λw hw=>(of_decide_eq_true (y6.1 (zbK kc ∅ (i:=at_.toNat) (v:=999999999)) w hw)).1).2 999999999 h1;omega
    .rw[xB au,Et]
   .ext;exact⟨ws,rfl,j7,kc,lC,au,k4⟩
  .rintro ρ S5 ⟨ws,rfl,j7,kc,lC,au,k5⟩;ext;refine wz au ?_;exact⟨ws,rfl,j7,qU ws j7 kc lC,k5⟩
theorem Tr.pl{w:Str}{r:pR Xv}(h1:w≠"if")(h2:w≠"while")(h3:w≠"times")(h4:w≠"hand")(ow:Own bs (.tup (.str w::r)) jD):Tr bs (.d (.tup (.str w::r))) 1 0 jD 1:=Tr.deed (.plain h1 h2 h3 h4) ow .nils
def NmZ(z:Str):Prop:=1<=z.length/\z.length<=8/\AZ z
def SOp(a:Xv):Prop:=(∃z,a= .str z/\NmZ z)\/∃v:Int,a= .int v/\0<=v/\v<=999999999
theorem zqU(h:(Wm bs n).isSome=jD):∃b∈bs,b.1=n:=by
 unfold Wm at h;rw[BU,Dw] at h;obtain⟨b,hb,e⟩:=h;exact⟨b,hb,of_decide_eq_true e⟩
theorem GOp.so(hB:Xz 1000 bs)(h:GOp bs a):SOp a:=by
 obtain⟨⟨n,rfl⟩|⟨v,rfl⟩,h2⟩:=h
 .obtain⟨b,hb,rfl⟩:=zqU (bs:=bs) (n:=n) h2;exact .inl ⟨_,rfl,hB.nm b hb⟩
 .have h2:decide (0<=v/\v<=999999999)=jD:=h2;exact .inr ⟨v,rfl,of_decide_eq_true h2⟩
inductive Pl:Xv->List Xv->Prop where
 |pass:Pl (.tup [.str "pass"]) [.str "pass"]
 |gain {a:Xv}:SOp a->Pl (.tup [.str "gain",a]) [.str "gain",a]
 |look {a b:Xv} {s:Str}:s∈TS->SOp a->SOp b->Pl (.tup [.str "look",.tup [a,.str s,b]]) [.str "look",a,.str s,b]
 |set1 {n:Str} {a:Xv}:NmZ n->SOp a->Pl (.tup [.str "set",.str n,.tup [a]]) [.str "set",.str n,a]
 |set3 {n:Str} {a b:Xv} {s:Str}:NmZ n->s∈RS->SOp a->SOp b->Pl (.tup [.str "set",.str n,.tup [a,.str s,b]]) [.str "set",.str n,a,.str s,b]
 |draw {n:Str} {ws:List Int}:NmZ n->ws.length<=10->1<=ws.length->(∀w∈ws,0<=w/\w<=999999999)->Pl (.tup [.str "draw",.str n,.tup (ws.map Xv.int)]) (.str "draw":: .str n::ws.map Xv.int)
def PW(bs:pR (Str×Int))(x:Xv):Prop:=(∃ps,Pl x ps)/\Tr bs (.d x) 1 0 jD 1
theorem zm4{k:Int}(hs:Sc ns S)(hk:0<=k/\k<=900)(hb:Xz 1000 bs):W (vj fu [.ref 0,.int k,.tup (bs.map yx)] S) λv S'=>PW bs v/\Kn S S':=by
 have kF:=hb;walk_at "wr";unfold ZR;ext;refine(yZ hs ⟨hk.1,⋯⟩ ∅ ∅).imp ?_;rintro _ _ ⟨rfl,w0,w1,rfl⟩;generalize wb ns k 10177 8=w at w0 w1;ext;have rest:WS ((zo (sIf (bE (eOp Zs (za 3) (q8 5))) (zJ (yS [tL "pass"])) zF) (zo (sIf (bE (eOp Zs (za 3) (q8 6))) (zJ (yS [tL "look",zf (wS fu) [za 0,za 1,za 2]])) zF) (zJ (yS [tL "gain",zf (yK fu) [za 0,eOp xk (za 1) (q8 1),za 2]])))) [iJ (.ref 0),iJ (.int k),iJ (.tup (bs.map yx)),iJ (.int w),jr,jr] S) (λx S1=>PW bs .non/\Kn S S1) (λv S'=>PW bs v/\Kn S S'):=by
  refine zh (zy ?_);ext;refine yu (λh=> ?_) (λh=>zv ?_)
  .ext;exact⟨⟨⟨_,.pass⟩,.pl ∅ ∅ ∅ ∅ .pass⟩,Kn.refl⟩
  refine zh (zy ?_);ext;refine yu (λh=> ?_) (λh=>zv ?_)
  .ext;refine(zg5 (bs:=bs) hs hk).imp ?_;rintro _ _ ⟨⟨a,b,s,rfl,jK,ha,hb⟩,rfl⟩;ext;have ow:=Own.look (s:=s) ha.1 hb.1 (bs:=bs);rw[ha.2,hb.2] at ow;exact⟨⟨⟨_,.look jK (ha.so kF) (hb.so kF)⟩,.pl ∅ ∅ ∅ ∅ ow⟩,Kn.refl⟩
  .ext;refine(YV (bs:=bs) hs ⟨⋯,⋯⟩).imp ?_;rintro a _ ⟨ha,rfl⟩;ext;have ow:=Own.gain ha.1 (bs:=bs);rw[ha.2] at ow;exact⟨⟨⟨_,.gain (ha.so kF)⟩,.pl ∅ ∅ ∅ ∅ ow⟩,Kn.refl⟩
 refine zy (xH ?_);ext;refine yu (λh=> ?_) (λh=>⟨nofun,λ_=>zv rest⟩);ext;refine vF ?_;ext;rw[um];refine yu (λh=> ?_) (λh=>zv rest);refine zh (VN ?_);ext;refine vF ?_;ext;rw[um];refine(yZ hs ⟨hk.1,⋯⟩ ∅ ⋯).imp ?_;rintro _ _ ⟨rfl,h1,h2,rfl⟩;ext;obtain⟨b,lO,e⟩:=zg4 h1 h2;refine xJ rfl e ?_;unfold yx;refine .of rfl ?_;dsimp only[y7];obtain⟨s1,s9⟩:=hb.sz b lO;refine zh (zy ?_);ext;refine yu (λh=> ?_) (λh=>zv ?_)
 .ext;refine(zfS (bs:=bs) hs hk).imp ?_;rintro _ _ ⟨⟨a,rfl,ha⟩|⟨a,c,s,rfl,jK,ha,hc⟩,rfl⟩
  .ext;have ow:=Own.set1 (n:=b.1) ha.1 (bs:=bs);rw[ha.2,zg3 lO] at ow;exact⟨⟨⟨_,.set1 (kF.nm b lO) (ha.so kF)⟩,.pl ∅ ∅ ∅ ∅ ow⟩,Kn.refl⟩
  .ext;have ow:=Own.set3 (n:=b.1) (s:=s) ha.1 hc.1 (bs:=bs);rw[ha.2,hc.2,zg3 lO] at ow;exact⟨⟨⟨_,.set3 (kF.nm b lO) jK (ha.so kF) (hc.so kF)⟩,.pl ∅ ∅ ∅ ∅ ow⟩,Kn.refl⟩
 .ext;obtain⟨s,ji⟩:∃s:Nat,b.2=s:=⟨b.2.toNat,⋯⟩;rw[ji];refine(zi5 hs hk ⋯ ⋯).imp ?_;rintro _ S2 ⟨ws,rfl,j7,nF,k2⟩;ext;have ow:=Own.draw (n:=b.1) (ws:=ws) ⋯ (bs:=bs);rw[znX hb.nd lO,ji] at ow;have ow:Own bs _ (wOk ws s):=ow;rw[nF] at ow;have lP:∀w∈ws,0<=w/\w<=999999999:=by
   unfold wOk at nF;rw[v9,v9] at nF;exact λw hw=>of_decide_eq_true (y6.1 nF.2.1 w hw)
  exact⟨⟨⟨_,.draw (kF.nm b lO) ⋯ ⋯ lP⟩,.pl ∅ ∅ ∅ ∅ ow⟩,k2⟩
end
theorem zfT{x y A B:pR Nat}(h1:c∉x)(h2:c∉y)(h:x++c::A=y++c::B):x=y/\A=B:=by
 induction x generalizing y with
 |nil=>cases y with
  |nil=>exact⟨rfl,(x9 h).2⟩
  |cons b y=>exact absurd (by rw[(x9 h).1];exact uK ..) h2
 |cons a x i=>cases y with
  |nil=>exact absurd (by rw[<-(x9 h).1];exact uK ..) h1
  |cons b y=>
   obtain⟨e,h⟩:=x9 h;obtain⟨rfl,rfl⟩:=i (λz=>h1 (uG _ z)) (λz=>h2 (uG _ z)) h;exact⟨by rw[e],rfl⟩
theorem zh6{a b:Str}(h:a.cps.toList=b.cps.toList):a=b:=by
 cases a;cases b
 congr
 exact Array.toList_inj.1 h
theorem vn(a b:Str):(a++b).cps.toList=a.cps.toList++b.cps.toList:=by
 show(a.cps++b.cps).toList=_;simp
theorem zfU:∀{a b:pR Str},a≠[]->b≠[]->(∀p∈a,c∉p.cps.toList)->(∀p∈b,c∉p.cps.toList)->Str.join ⟨#[c]⟩ a=Str.join ⟨#[c]⟩ b->a=b
 |[],_,h,_,_,_,_=>absurd rfl h
 |_,[],_,h,_,_,_=>absurd rfl h
 |[x],[y],_,_,_,_,h=>by
  have h:x=y:=h;rw[h]
 |[x],y::y'::r,_,_,h1,_,h=>by
  have h:x=y++⟨#[c]⟩++Str.join ⟨#[c]⟩ (y'::r):=h;refine absurd ?_ (h1 x (uK ..));rw[h,vn,vn];simp
 |x::x'::r,[y],_,_,_,h2,h=>by
  have h:x++⟨#[c]⟩++Str.join ⟨#[c]⟩ (x'::r)=y:=h;refine absurd ?_ (h2 y (uK ..));rw[<-h,vn,vn];simp
 |x::x'::r,y::y'::s,_,_,h1,h2,h=>by
  have h:x++⟨#[c]⟩++Str.join ⟨#[c]⟩ (x'::r)=y++⟨#[c]⟩++Str.join ⟨#[c]⟩ (y'::s):=h;have h:=congrArg (λz:Str=>z.cps.toList) h;rw[vn,vn,vn,vn,uM,uM] at h;obtain⟨e1,e2⟩:=zfT (c:=c) (h1 x (uK ..)) (h2 y (uK ..)) h;have:=zfU (a:=x'::r) (b:=y'::s) (by simp) (by simp) (λp hp=>h1 p (uG _ hp)) (λp hp=>h2 p (uG _ hp)) (zh6 e2);rw[zh6 e1,this]
theorem zcx(h:xs≠[])(hc:∀p∈xs,c∉p.cps.toList):Txt.split (Txt.join ⟨#[c]⟩ xs) ⟨#[c]⟩=xs:=by
 refine zfU (c:=c) ?_ h (λp hp=>StrLaws.split_free _ _ p hp) hc ?_
 .intro e;have:=PyProof.Rows.split_pos (Txt.join ⟨#[c]⟩ xs) ⟨#[c]⟩;rw[e] at this;exact absurd this ∅
 .rw[StrLaws.join_split];show Ew _ _=_;rw[StrLaws.glued_eq_join]
section
variable{S' S2:Sto}{x y:Xv}
noncomputable def dg(m:Nat):pR Nat:=(CI 10 m).map Char.toNat
theorem zpu:∀m:Fin 10,(Nat.digitChar m.1).toNat=48+m.1:=by decide
theorem zh7(h:m<10):dg m=[48+m]:=by
 unfold dg;rw[Nat.toDigits_of_lt_base h,uV,BJ,zpu ⟨m,h⟩]
theorem zh8(h:10<=m):dg m=dg (m / 10)++[48+m % 10]:=by
 have hm:m % 10<10:=Nat.mod_lt m ∅;have t:CI 10 (m / 10)++CI 10 (m % 10)=CI 10 (10*(m / 10)+m % 10):=Nat.toDigits_append_toDigits ∅ ⋯ hm;rw[Nat.div_add_mod] at t;have e:=zh7 hm;unfold dg at e ⊢;rw[<-t,uO,e]
theorem zlf(m:Nat):(∀c∈dg m,48<=c/\c<=57)/\1<=(dg m).length/\(0<m->(dg m)[0]? ≠iJ 48):=by
 induction m using Nat.strongRecOn with
 |_ m ih=>
  by_cases h:m<10
  .rw[zh7 h];refine⟨λc hc=> ?_,uv _,λh0 e=> ?_⟩
   .have:c=48+m:=by simpa using hc
    omega
   .have:48+m=48:=by simpa using e
    omega
  .obtain⟨h1,h2,h3⟩:=ih (m / 10) ⋯;rw[zh8 ⋯];refine⟨λc hc=> ?_,by rw[ur];omega,λh0 e=> ?_⟩
   .rw[uW,uX] at hc;rcases hc with hc|rfl
    .exact h1 c hc
    .omega
   .rw[uB ⋯] at e;exact h3 ⋯ e
theorem zg6:∀(k m:Nat),m<10^(k+1)->(dg m).length<=k+1
 |0,m,h=>by rw[zh7 (by simpa using h)];exact uv _
 |k+1,m,h=>by
  by_cases pK:m<10
  .rw[zh7 pK];show 1<=_;omega
  .rw[zh8 ⋯,ur,uF];have:=zg6 k (m / 10) (by rw[Nat.pow_succ] at h;omega);omega
noncomputable def nt(v:Int):Str:=Str.ofString (toString v)
theorem zg7(h:0<=v):(nt v).cps.toList=dg v.toNat:=by
 obtain⟨m,rfl⟩:=Int.eq_ofNat_of_zero_le h;exact PySem.W.KIN.signs_num m
noncomputable def FIG:Str:="0123456789"
noncomputable def nbF(z:Str):Bool:=decide (1<=z.length/\z.length<=9)&&(z.cps.toList.all (λc=>inS ⟨#[c]⟩ FIG)&&(decide (sg z 0≠iJ 48)||decide (z="0")))
theorem zpv:∀n:Fin 10,inS ⟨#[48+n.1]⟩ FIG=jD:=by decide+kernel
theorem zpw:∀n:Fin 26,inS ⟨#[97+n.1]⟩ FIG=nW:=by decide+kernel
theorem znY(h0:0<=v)(h1:v<=999999999):nbF (nt v)=jD:=by
 have e:=zg7 h0;obtain⟨a,b,c⟩:=zlf v.toNat;have l:=zg6 8 v.toNat (by show v.toNat<1000000000;omega);have hl:(nt v).length=(dg v.toNat).length:=by rw[<-wW,e]
 unfold nbF;rw[decide_eq_true (show 1<=(nt v).length/\(nt v).length<=9 by omega),As,v9];refine⟨?_,?_⟩
 .rw[y6,e];intro d hd;obtain⟨d1,d2⟩:=a d hd;obtain⟨n,rfl⟩:∃n,d=48+n:=⟨d-48,⋯⟩;exact zpv ⟨n,⋯⟩
 .by_cases hv:0<v
  .rw[decide_eq_true (show sg (nt v) 0≠iJ 48 by unfold sg;rw[e];exact c ⋯),Eu]
  .obtain rfl:v=0:=by omega
   rw[decide_eq_true (show nt 0="0" from rfl),Bool.or_true]
theorem zqV(h:AZ z):nbF z=nW:=by
 unfold nbF;by_cases hz:1<=z.length/\z.length<=9
 .have hl:=wW z;have h0:0<z.cps.toList.length:=by omega
  have:z.cps.toList.all (λc=>inS ⟨#[c]⟩ FIG)=nW:=by
   rw[CB];have hm:z.cps.toList[0]∈z.cps.toList:=Au h0;obtain⟨a,b⟩:=h _ hm;refine⟨_,hm,?_⟩;generalize z.cps.toList[0]=d at a b;obtain⟨n,rfl⟩:∃n,d=97+n:=⟨d-97,⋯⟩;rw[zpw ⟨n,⋯⟩];decide
  rw[this,Ah,z7]
 .rw[decide_eq_false hz,Ah]
theorem zfV(h0:0<=v)(h1:v<=999999999):BM (nt v)=iJ v:=PySem.W.KIN.num_reads h0 (Int.lt_of_le_of_lt h1 ∅)
theorem zg8(h0:0<=v)(h1:v<=999999999):1<=(nt v).length/\(nt v).length<=9:=by
 have l:=zg6 8 v.toNat (by show v.toNat<1000000000;omega);have b:=(zlf v.toNat).2.1;rw[<-wW,zg7 h0];exact⟨b,l⟩
theorem zlg(h0:0<=v):asc (nt v)/\∀c∈(nt v).cps.toList,48<=c/\c<=57:=by
 have a:=(zlf v.toNat).1;rw[<-zg7 h0] at a;refine⟨?_,a⟩;unfold asc;rw[C4];intro c hc;have:=a c (by simpa using hc);simp;omega
theorem zlh{z A:Str}(ha:asc z)(hl:z.length<=100):W (ZI fu [.str z,.str A] S) λv S'=>v= .bl (z.cps.toList.all λc=>inS ⟨#[c]⟩ A)/\Kn S S':=by
 walk_at "wr";unfold vh;refine Xg ?_;refine WC (xs:=ve z) (p:=λi=>inS ⟨#[z.cps.toList.getD i 0]⟩ A) ?_ ?_ ?_ ?_
 .unfold ve;rw[um,wW];exact yX hl
 .refine zhR ?_;ext;exact⟨ha,λ_ _=>rfl,Kn.refl⟩
 .intro i w S2 hw k2;unfold ve at hw;rw[uA,uH] at hw;obtain⟨c,e,rfl⟩:=hw;show W (eOp ziY (za 0) (za 1) [iJ (.str ⟨#[c]⟩),iJ (.str A)] S2) _;ext;refine zkT ?_;rw[uz,e];exact⟨rfl,Kn.refl⟩
 .intro S2 k2;have e:(ve z).length=z.cps.toList.length:=by unfold ve;rw[um]
  rw[e,vM (q:=λc=>inS ⟨#[c]⟩ A) (λi a h=>by rw[uz,h];rfl)];exact⟨rfl,k2⟩
theorem zeC(k:P (.bl (!decide (a=b))) S):WO (yz jD (.str a) (.str b) S) P:= .of (by unfold yz;simp) k
theorem ix0(hz:z.length<=100)(h:sg z 0=iJ c):zb0 (.str z) (.int 0) S=iJ (.str ⟨#[c]⟩,S):=by
 unfold zb0 zoD;dsimp only;rw[if_pos (yX hz),vc ∅ (by exact h)];rfl
theorem sg0(h:1<=z.length):∃c,sg z 0=iJ c:=by
 unfold sg;exact⟨_,uo (by rw[wW];exact h)⟩
theorem zpx:((⟨#[c]⟩:Str)=⟨#[d]⟩)↔c=d:=by
 constructor
 .intro h;have:=congrArg (λz:Str=>z.cps.toList) h;simpa using this
 .rintro rfl;rfl
theorem zcy(ha:asc z)(hl:z.length<=100):W (YG fu [.str z] S) λv S'=>v= .bl (nbF z)/\Kn S S':=by
 walk_at "wr";unfold YF;refine zh (zy (Zu (vb (wY (TQ ?_)))));ext;refine zbJ (yX hl) ?_;ext;have bad:¬(1<=z.length/\z.length<=9)->nbF z=nW:=λh=>by
  unfold nbF;rw[decide_eq_false h,Ah]
 have stop:∀{S3:Sto} {N:Rho->Sto->Prop},nbF z=nW->Kn S S3->WS (zJ (eC (.bl nW)) [iJ (.str z)] S3) N λv S'=>v= .bl (nbF z)/\Kn S S':=by
  intro S3 N h k;ext;exact⟨by rw[h],k⟩
 refine⟨λh1=> ?_,λh1=>⟨_,rfl,λ_=>⟨λ_=>stop (bad λq=> ?_) Kn.refl,nofun⟩,nofun⟩⟩
 .have h1:(1:Int)<=z.length:=of_decide_eq_true h1;ext;refine⟨λh2=>⟨λ_=>stop (bad λq=> ?_) Kn.refl,nofun⟩,λh2=> ?_⟩
  .have h2:(!decide ((z.length:Int)<=9))=jD:=h2;rw[decide_eq_true ⋯] at h2;cases h2
  .have h2:(!decide ((z.length:Int)<=9))=nW:=h2;have h2:(z.length:Int)<=9:=by simpa using h2
   have hz:1<=z.length/\z.length<=9:=by omega
   refine vb (wY ?_);ext;refine(zlh ha hl).imp ?_;rintro _ S3 ⟨rfl,k3⟩;refine⟨_,rfl,λh3=>stop ?_ k3,λh3=>zv ?_⟩
   .have h3:(!(z.cps.toList.all λc=>inS ⟨#[c]⟩ FIG))=jD:=h3;unfold nbF;rw[show(z.cps.toList.all λc=>inS ⟨#[c]⟩ FIG)=nW by simpa using h3,Ah,z7]
   .have h3:(!(z.cps.toList.all λc=>inS ⟨#[c]⟩ FIG))=nW:=h3;have h3:(z.cps.toList.all λc=>inS ⟨#[c]⟩ FIG)=jD:=by simpa using h3
    have e:nbF z=(decide (sg z 0≠iJ 48)||decide (z="0")):=by
     unfold nbF;rw[decide_eq_true hz,h3,As,As]
    rw[e];obtain⟨c,hc⟩:=sg0 hz.1;refine Xg (zoR ?_);ext;refine WO.of (ix0 hl hc) ?_;ext;refine zeC ?_;have e2:(!decide ((⟨#[c]⟩:Str)="0"))=decide (sg z 0≠iJ 48):=by
     rw[hc];by_cases h:c=48
     .subst h;rfl
     .rw[decide_eq_false (show ¬((⟨#[c]⟩:Str)="0") from λq=>h (zpx.1 q)),decide_eq_true (show iJ c≠iJ 48 from λq=>h (y8 q))];rfl
    rw[e2];refine⟨_,rfl,λh4=> ?_,λh4=> ?_⟩
    .exact⟨by rw[h4,Eu],k3⟩
    .ext;refine zez ?_;exact⟨by rw[h4,Bool.false_or],k3⟩
 .have h1:¬(1:Int)<=z.length:=of_decide_eq_false h1;omega
noncomputable def tx:Xv->Str
 | .str z=>z
 | .int v=>nt v
 |_=>""
structure Uo(z:Str):Prop where
 asc:asc z
 le:z.length<=9
 pos:1<=z.length
 sp:32∉z.cps.toList
 nl:10∉z.cps.toList
theorem AZ.wd(h:AZ z)(h1:1<=z.length)(h8:z.length<=9):Uo z:=⟨h.asc,h8,h1,λq=>by have:=h _ q;omega,λq=>by have:=h _ q;omega⟩
theorem zfW(h0:0<=v)(h1:v<=999999999):Uo (nt v):=by
 have l:=zg8 h0 h1;obtain⟨a,b⟩:=zlg h0;exact⟨a,l.2,l.1,λq=>by have:=b _ q;omega,λq=>by have:=b _ q;omega⟩
theorem NmZ.wd(h:NmZ z):Uo z:=h.2.2.wd h.1 (by have:=h.2.1;omega)
theorem SOp.wd(h:SOp a):Uo (tx a):=by
 rcases h with⟨z,rfl,h⟩|⟨v,rfl,h0,h1⟩
 .exact h.wd
 .exact zfW h0 h1
theorem zg9(ha:asc z)(hl:z.length<=100)(h:nmF z=jD):W (xR fu [.str z] S) λv S'=>v= .str z/\Kn S S':=by
 walk_at "wr";unfold YK;refine zh (zy (vb (wY ?_)));ext;refine(zfO ha hl).imp ?_;rintro _ S1 ⟨rfl,k1⟩;rw[h];refine⟨_,rfl,nofun,λ_=>zv ?_⟩;ext;exact⟨rfl,k1⟩
theorem NmZ.from(h:NmZ z):W (xR fu [.str z] S) λv S'=>v= .str z/\Kn S S':=zg9 h.2.2.asc (by have:=h.2.1;omega) (h.2.2.nm h.1 h.2.1)
theorem Vp(h0:0<=v)(h1:v<=999999999):W (xA fu [.str (nt v)] S) λr S'=>r= .int v/\Kn S S':=by
 have l:=zg8 h0 h1;walk_at "wr";unfold Zc;refine zh (zy (vb (wY ?_)));ext;refine(zcy (zlg h0).1 ⋯).imp ?_;rintro _ S1 ⟨rfl,k1⟩;rw[znY h0 h1];refine⟨_,rfl,nofun,λ_=>zv ?_⟩;ext;exact zh0 ⋯ (zfV h0 h1) ⟨rfl,k1⟩
theorem ZW(h:SOp a):W (xK fu [.str (tx a)] S) λr S'=>r=a/\Kn S S':=by
 walk_at "wr";unfold vA;refine zh (zy ?_);ext;have w:=h.wd;refine(zcy w.asc (by have:=w.le;omega)).imp ?_;rintro _ S1 ⟨rfl,k1⟩;rcases h with⟨z,rfl,hz⟩|⟨v,rfl,h0,h1⟩
 .rw[show nbF (tx (.str z))=nW from zqV hz.2.2];refine⟨_,rfl,nofun,λ_=>zv ?_⟩;ext;refine hz.from.imp ?_
  rintro _ S2 ⟨rfl,k2⟩;exact⟨rfl,k1.trans k2⟩
 .rw[show nbF (tx (.int v))=jD from znY h0 h1];refine⟨_,rfl,λ_=> ?_,nofun⟩;ext;exact zh0 (by have:=zg8 h0 h1;show(nt v).length<=640;omega) (zfV h0 h1) ⟨rfl,k1⟩
theorem zrf(k:P (.bl (!decide (w=a\/w=b\/w=c))) S):WO (dIn jD (.str w) (.ct [.str a,.str b,.str c]) S) P:=by
 refine zcd rfl rfl ?_;show P (.bl (jD !=((a==w)||((b==w)||((c==w)||false))))) S;rw[De];have e:((a==w)||((b==w)||((c==w)||false)))=decide (w=a\/w=b\/w=c):=by
  rw[Bc,BF,BF,BF,beq_iff_eq,beq_iff_eq,beq_iff_eq,decide_eq_true_iff];constructor
  .rintro (h|h|h|h)
   .exact .inl h.symm
   .exact .inr (.inl h.symm)
   .exact .inr (.inr h.symm)
   .cases h
  .rintro (h|h|h)
   .exact .inl h.symm
   .exact .inr (.inl h.symm)
   .exact .inr (.inr (.inl h.symm))
 rw[e];exact k
def Txs(S:Sto)(n:Nat)(ts:pR Str):Prop:=S[n]? =iJ (.lst (ts.map Xv.str))
theorem zas{s c1 c2 c3:Str}(ha:SOp a)(hb:SOp b)(hs:s∈[c1,c2,c3])(au:Txs S m [tx a,s,tx b]):
  W (Ze fu [.ref m,.ct [.str c1,.str c2,.str c3]] S) λr S'=>r= .tup [a,.str s,b]/\Kn S S':=by
 have e:ya S (.ref m)=iJ [.str (tx a),.str s,.str (tx b)]:=zj au;walk_at "wr";unfold Zd;refine zh (zy (Zu ?_));ext;refine xx e ?_;ext;rw[show(!decide ((([Xv.str (tx a),.str s,.str (tx b)]:pR Xv).length:Int)=3))=nW from rfl];refine⟨nofun,λ_=> ?_⟩;ext;refine xo e (z:= .str s) rfl ?_;ext;refine zrf ?_;have hs:s=c1\/s=c2\/s=c3:=by simpa using hs
 rw[decide_eq_true hs];refine⟨_,rfl,nofun,λ_=>zv ?_⟩;ext;refine xo e (z:= .str (tx a)) rfl ?_;ext;refine(ZW ha).imp ?_;rintro _ S1 ⟨rfl,k1⟩;ext;refine xo (k1.lst e) (z:= .str s) rfl ?_;ext;refine xo (k1.lst e) (z:= .str (tx b)) rfl ?_;ext;refine(ZW hb).imp ?_;rintro _ S2 ⟨rfl,k2⟩;ext;exact⟨rfl,k1.trans k2⟩
theorem Xw{α:Type}(l:pR α)(n:Nat):L2.XX l (iJ (n:Int)) jr=l.drop n:=by
 unfold L2.XX;rw[HT.zhk,HT.zbV];by_cases h:n<=l.length
 .rw[DQ h,Bh (by rw[AJ];exact uv _)]
 .rw[DF ⋯,D3 (uv _),D3 ⋯,Ec]
theorem Ts{s:Str}(ha:SOp a)(hb:SOp b)(hs:s∈TS)(au:Txs S m [tx a,s,tx b]):W (Zf fu [.ref m] S) λr S'=>r= .tup [a,.str s,b]/\Kn S S':=by
 walk_at "wr";unfold Vk;ext;exact zas ha hb hs au
theorem zi6(ha:SOp a)(au:Txs S m [tx a]):W (wD fu [.ref m] S) λr S'=>r= .tup [a]/\Kn S S':=by
 have e:ya S (.ref m)=iJ [.str (tx a)]:=zj au;walk_at "wr";unfold wC;refine zh (zy ?_);ext;refine xx e ?_;ext;refine⟨λ_=> ?_,λz=> ?_⟩
 .ext;refine xo e (z:= .str (tx a)) rfl ?_;ext;refine(ZW ha).imp ?_;rintro _ S1 ⟨rfl,k1⟩;ext;exact⟨rfl,k1⟩
 .exact absurd (show decide (((1:Nat):Int)=1)=nW from z) ∅
theorem zi7{s:Str}(ha:SOp a)(hb:SOp b)(hs:s∈RS)(au:Txs S m [tx a,s,tx b]):W (wD fu [.ref m] S) λr S'=>r= .tup [a,.str s,b]/\Kn S S':=by
 have e:ya S (.ref m)=iJ [.str (tx a),.str s,.str (tx b)]:=zj au;walk_at "wr";unfold wC;refine zh (zy ?_);ext;refine xx e ?_;ext;refine⟨λz=> ?_,λ_=>zv ?_⟩
 .exact absurd (show decide (((3:Nat):Int)=1)=jD from z) ∅
 .ext;exact zas ha hb hs au
theorem zfX(h:Pl x (.str w::r))(au:Txs S m (r.map tx)):W (Wh fu [.str w,.ref m] S) λv S'=>v=x/\Kn S S':=by
 have e0:ya S (.ref m)=iJ ((r.map tx).map Xv.str):=zj au;walk_at "wr";unfold ZM;have no:∀{w v:Str} {c:TwT} {a:TwS} {N:Rho->Sto->Prop} {R:Xv->Sto->Prop},w≠v->N [iJ (.str w),iJ (.ref m)] S->WS (sIf (Wt (bE (eOp (yz nW) (za 0) (eC (.str v)))) c) a zF [iJ (.str w),iJ (.ref m)] S) N R:=by
  intro w v c a N R h k;refine zy (xH ?_);ext;exact yy h ⟨_,rfl,nofun,λ_=>⟨nofun,λ_=>zv k⟩⟩
 have tM:∀{w v:Str} {a:TwS} {N:Rho->Sto->Prop} {R:Xv->Sto->Prop},w≠v->N [iJ (.str w),iJ (.ref m)] S->WS (sIf (bE (eOp (yz nW) (za 0) (eC (.str v)))) a zF [iJ (.str w),iJ (.ref m)] S) N R:=by
  intro w v a N R h k;refine zy ?_;ext;exact yy h ⟨_,rfl,nofun,λ_=>zv k⟩
 generalize ja:Xv.str w::r=ps at h;cases h with
 |pass=>
  obtain⟨e1,rfl⟩:=x9 ja;cases e1;refine zh (zy (xH ?_));ext;refine yg ⟨_,rfl,λ_=> ?_,nofun⟩;ext;refine xx e0 ?_;ext;refine⟨λ_=> ?_,λz=>absurd (show decide (((0:Nat):Int)=0)=nW from z) ∅⟩;ext;exact⟨rfl,Kn.refl⟩
 | @gain a ha=>
  obtain⟨e1,rfl⟩:=x9 ja;cases e1;refine zh (no ∅ (zh (no ∅ (zh (no ∅ (zh (zy (xH ?_))))))));ext;refine yg ⟨_,rfl,λ_=> ?_,nofun⟩;ext;refine xx e0 ?_;ext;refine⟨λ_=> ?_,λz=>absurd (show decide (((1:Nat):Int)=1)=nW from z) ∅⟩;ext;refine xo e0 (z:= .str (tx a)) rfl ?_;ext;refine(ZW ha).imp ?_;rintro _ S1 ⟨rfl,k1⟩;ext;exact⟨rfl,k1⟩
 | @look a b s hs ha hb=>
  obtain⟨e1,rfl⟩:=x9 ja;cases e1;refine zh (no ∅ (zh (no ∅ (zh (no ∅ (zh (no ∅ (zh (zy ?_)))))))));ext;refine yg ⟨_,rfl,λ_=> ?_,nofun⟩;ext;refine(Ts ha hb hs au).imp ?_;rintro _ S1 ⟨rfl,k1⟩;ext;exact⟨rfl,k1⟩
 | @set1 n a hn ha=>
  obtain⟨e1,rfl⟩:=x9 ja;cases e1;refine zh (no ∅ (zh (zy (xH ?_))));ext;refine yg ⟨_,rfl,λ_=> ?_,nofun⟩;ext;refine xx e0 ?_;ext;refine⟨λ_=> ?_,λz=>absurd (show decide (((2:Nat):Int)>1)=nW from z) ∅⟩;ext;refine xo e0 (z:= .str n) rfl ?_;ext;refine hn.from.imp ?_
  rintro _ S1 ⟨rfl,k1⟩;ext;refine VP (k1.lst e0) ?_;rw[show L2.XX ((Bt tx [Xv.str n,a]).map Xv.str) (iJ 1) jr=[Xv.str (tx a)] from Xw _ 1];ext;refine(zi6 ha zL).imp ?_;rintro _ S2 ⟨rfl,k2⟩;ext;exact⟨rfl,k1.trans (Kn.refl.app.trans k2)⟩
 | @set3 n a b s hn hs ha hb=>
  obtain⟨e1,rfl⟩:=x9 ja;cases e1;refine zh (no ∅ (zh (zy (xH ?_))));ext;refine yg ⟨_,rfl,λ_=> ?_,nofun⟩;ext;refine xx e0 ?_;ext;refine⟨λ_=> ?_,λz=>absurd (show decide (((4:Nat):Int)>1)=nW from z) ∅⟩;ext;refine xo e0 (z:= .str n) rfl ?_;ext;refine hn.from.imp ?_
  rintro _ S1 ⟨rfl,k1⟩;ext;refine VP (k1.lst e0) ?_;rw[show L2.XX ((Bt tx [Xv.str n,a,.str s,b]).map Xv.str) (iJ 1) jr=[Xv.str (tx a),.str s,.str (tx b)] from Xw _ 1];ext;refine(zi7 ha hb hs zL).imp ?_;rintro _ S2 ⟨rfl,k2⟩;ext;exact⟨rfl,k1.trans (Kn.refl.app.trans k2)⟩
 | @draw n ws hn h9 h1 hw=>
  obtain⟨e1,rfl⟩:=x9 ja;cases e1;refine zh (no ∅ (zh (no ∅ (zh (zy (xH ?_))))));ext;refine yg ⟨_,rfl,λ_=> ?_,nofun⟩;ext;refine xx e0 ?_;ext;have hlen:(((Xv.str n::ws.map Xv.int).map tx).map Xv.str).length=ws.length+1:=by simp
  rw[hlen];refine⟨λ_=> ?_,λz=>absurd (of_decide_eq_false z) ⋯⟩;ext;refine xo e0 (z:= .str n) (vc ∅ rfl) ?_;ext;refine hn.from.imp ?_
  rintro _ S1 ⟨rfl,k1⟩;ext;have pO:L2.XX (((Xv.str n::ws.map Xv.int).map tx).map Xv.str) (iJ 1) jr=ws.map λv=>Xv.str (nt v):=by
   rw[show L2.XX (((Xv.str n::ws.map Xv.int).map tx).map Xv.str) (iJ 1) jr=((ws.map Xv.int).map tx).map Xv.str from Xw _ 1,Af,Af];rfl
  refine Zp (xs:=ws.map λv=>Xv.str (nt v)) (f:=λi=> .int (ws.getD i 0)) (by rw[um];exact yX ⋯) ?_ ?_ ?_
  .refine zk5 (n:=S1.length) ?_;ext;refine VP (k1.lst e0) ?_;rw[pO];exact⟨rfl,zj zL,Kn.refl.app⟩
  .intro i w S2 hi k2;rw[uA,uH] at hi;obtain⟨v,e,rfl⟩:=hi;obtain⟨v0,v1⟩:=hw v (x8 e);show W (zf (xA fu) [za 0] [iJ (.str (nt v))] S2) _;ext;refine(Vp v0 v1).imp ?_;rintro _ S3 ⟨rfl,k3⟩;rw[uz,e];exact⟨rfl,k3⟩
  .intro S2 k2;ext;refine wz zL ?_;ext;have er:(y2 (ws.map λv=>Xv.str (nt v)).length).map (λi=>Xv.int (ws.getD i 0))=ws.map Xv.int:=by
    rw[um];apply CJ
    .simp
    .intro i p q;rw[Ac,Ac,Cq];have hi:i<ws.length:=by simpa using q
     rw[uz,uo hi];rfl
   rw[er];exact⟨rfl,k1.trans k2.app⟩
def Pt(p:Xv):Prop:=(∃z,p= .str z/\Uo z)\/∃v:Int,p= .int v/\0<=v/\v<=999999999
theorem Pt.wd(h:Pt p):Uo (tx p):=by
 rcases h with⟨z,rfl,h⟩|⟨v,rfl,h0,h1⟩
 .exact h
 .exact zfW h0 h1
theorem SOp.pt(h:SOp a):Pt a:=by
 rcases h with⟨z,rfl,h⟩|⟨v,rfl,h0,h1⟩
 .exact .inl ⟨_,rfl,h.wd⟩
 .exact .inr ⟨v,rfl,h0,h1⟩
theorem zpy:∀z∈[("pass":Str),"gain","look","set","draw","box","=","<","#","+","-","*","if","while","times","hand","else","or","end"],z.cps.all (· <128)=jD/\z.length<=9/\1<=z.length/\32∉z.cps.toList/\10∉z.cps.toList:=by decide+kernel
theorem vL(h:z∈[("pass":Str),"gain","look","set","draw","box","=","<","#","+","-","*","if","while","times","hand","else","or","end"]):Uo z:=by
 obtain⟨a,b,c,d,e⟩:=zpy z h;exact⟨a,b,c,d,e⟩
theorem Zq(h:z∈[("pass":Str),"gain","look","set","draw","box","=","<","#","+","-","*","if","while","times","hand","else","or","end"]):Pt (.str z):= .inl ⟨z,rfl,vL h⟩
theorem zfY{s:Str}(h:s∈TS):Pt (.str s):=by
 have h:s="="\/s="<"\/s="#":=by simpa [TS] using h
 rcases h with rfl|rfl|rfl<;>exact Zq ∅
theorem znZ{s:Str}(h:s∈RS):Pt (.str s):=by
 have h:s="+"\/s="-"\/s="*":=by simpa [RS] using h
 rcases h with rfl|rfl|rfl<;>exact Zq ∅
theorem Pl.pts(h:Pl x ps):(∀p∈ps,Pt p)/\ps.length<=12/\∃w r,ps= .str w::r/\w∈[("pass":Str),"gain","look","set","draw"]:=by
 have all:∀{l:pR Xv},(∀p∈l,Pt p)->∀{q:Xv},Pt q->∀p∈q::l,Pt p:=by
  intro l hl q hq p hp;rcases uU.1 hp with rfl|hp
  .exact hq
  .exact hl p hp
 have nil:∀p∈([]:pR Xv),Pt p:=λp hp=>by cases hp
 cases h with
 |pass=>exact⟨all nil (Zq ∅),show 1<=12 by decide,_,_,rfl,∅⟩
 |gain ha=>exact⟨all (all nil (ha.pt)) (Zq ∅),show 2<=12 by decide,_,_,rfl,∅⟩
 |look hs ha hb=>exact⟨all (all (all (all nil (hb.pt)) (zfY hs)) (ha.pt)) (Zq ∅),show 4<=12 by decide,_,_,rfl,∅⟩
 |set1 hn ha=>exact⟨all (all (all nil (ha.pt)) (.inl ⟨_,rfl,hn.wd⟩)) (Zq ∅),show 3<=12 by decide,_,_,rfl,∅⟩
 |set3 hn hs ha hb=>exact⟨all (all (all (all (all nil (hb.pt)) (znZ hs)) (ha.pt)) (.inl ⟨_,rfl,hn.wd⟩)) (Zq ∅),show 5<=12 by decide,_,_,rfl,∅⟩
 | @draw n ws hn h9 h1 hw=>
  refine⟨all (all ?_ (.inl ⟨_,rfl,hn.wd⟩)) (Zq ∅),by rw[uw,uw,um];omega,_,_,rfl,∅⟩;intro p hp;rw[Ag] at hp;obtain⟨v,hv,rfl⟩:=hp;exact .inr ⟨v,rfl,hw v hv⟩
noncomputable def yP(ps:pR Xv):Str:=Txt.join " " (ps.map tx)
theorem zeD{v:Int}(h0:0<=v)(h1:v<=999999999):v.natAbs.log2<1920:=by
 by_cases h:v.natAbs=0
 .rw[h];decide
 .have:v.natAbs.log2<30:=(Nat.log2_lt h).2 ⋯;omega
theorem zh9(hB:∀t∈ts,t.length<=B)(h:ts.length*B+ts.length*sep.length<=16777216):JoinOk sep ts=jD:=by
 have:=StrLaws.joinFits (sep:=sep) hB h;unfold JoinOk;rw[Dt];exact this
theorem zi8{l:pR Xv}{f:Nat->Xv}{g:Xv->Xv}(h:∀(i:Nat) p,l[i]? =iJ p->f i=g p):(y2 l.length).map f=l.map g:=by
 apply CJ
 .simp
 .intro i p q;have hi:i<l.length:=by simpa using q
  rw[Ac,Ac,Cq];exact h i _ (uo hi)
theorem zli(hp:∀p∈ps,Pt p)(hl:ps.length<=12)(hm:W (m ρ S) λv S1=>v= .tup ps/\Kn S S1)(k:∀S',Kn S S'->P (.str (yP ps)) S'):
  W (zaS Vv (tL " ") [xu [jr] (iT m) (gN 0) xF (eFn zbp [za 0])] ρ S) P:=by
 refine zaT ?_;ext;refine⟨⟨_,rfl⟩,?_⟩;ext;refine Zp (xs:=ps) (f:=λi=> .str (tx (ps.getD i .non))) (yX ⋯) (UY hm) ?_ ?_
 .intro i p S2 hi k2;show W (eFn zbp [za 0] [iJ p] S2) _;ext;rw[uz,hi];rcases hp p (x8 hi) with⟨z,rfl,_⟩|⟨v,rfl,h0,h1⟩
  .exact zhZ ⟨rfl,Kn.refl⟩
  .exact zbH (zeD h0 h1) ⟨rfl,Kn.refl⟩
 .intro S2 k2;rw[zi8 (g:=λp=> .str (tx p)) (λi p h=>by rw[uz,h];rfl)];ext;refine zbG (xa zL) (ts:=ps.map tx) (by rw[<-WF (ps.map tx),Af];rfl) (zh9 (B:=9) ?_ ?_) (k _ k2.app)
  .intro t ht;rw[Ag] at ht;obtain⟨p,ky,rfl⟩:=ht;exact(hp p ky).wd.le
  .rw[um];show ps.length*9+ps.length*1<=_;omega
theorem zm5{a b:pR Xv}(h:a.length+b.length<=1000)(k:P (.tup (a++b)) S):WO (zfg (.tup a) (.tup b) S) P:= .of (by unfold zfg;exact if_pos (z3 (y9 h ∅))) k
theorem Vq(sep:Str)(ts:pR Str):Txt.join sep ts=Str.join sep ts:=StrLaws.glued_eq_join sep ts
theorem wc:yP (p::q::r)=tx p++" "++yP (q::r):=by
 unfold yP;rw[Vq,Vq];rfl
theorem wv:yP [p]=tx p:=by
 unfold yP;rw[Vq];rfl
theorem Up(hp:∀p∈ps,Pt p)(hl:ps.length<=12):(yP ps).length<=120:=by
 unfold yP;rw[Vq];have h1:=StrLaws.join_length_le " " (ps.map tx)
 have h2:=StrLaws.sumLen_le (B:=9) (ps.map tx) (λt ht=>by
  rw[Ag] at ht;obtain⟨p,ky,rfl⟩:=ht
  exact(hp p ky).wd.le)
 rw[um] at h1 h2;have h3:((" ":Str)).length=1:=rfl;rw[h3] at h1;omega
theorem Tt(hp:∀p∈ps,Pt p)(hl:ps.length<=12):W (yR fu [.tup ps] S) λv S'=>v= .str (yP ps)/\Kn S S':=by
 walk_at "wr";unfold ZU;refine Xg (zli hp hl ?_ λS1 k1=>⟨rfl,k1⟩);ext;exact⟨rfl,Kn.refl⟩
structure Vy(S:Sto)(o:Nat)(wss:pR (pR Str))(k:Nat)(l:Nat)(ms:pR Nat):Prop where
 ob:S[o]? =iJ (.ins "Rows" [("rows",.ref l),("place",.int (k:Int))])
 li:S[l]? =iJ (.lst (ms.map Xv.ref))
 len:ms.length=wss.length
 at_:∀(i m:Nat) (ws:pR Str),ms[i]? =iJ m->wss[i]? =iJ ws->Txs S m ws
theorem Vy.keep(h:Vy S o wss k l ms)(q:Kn S S'):Vy S' o wss k l ms:=⟨q.at h.ob,q.at h.li,h.len,λi m ws a b=>q.at (h.at_ i m ws a b)⟩
theorem Uq(h:Vy S o wss k l ms)(hk:k<=wss.length)(hw:∀ws∈wss,ws≠[]):
  W (zY fu [.ref o] S) λv S'=>v=(match wss[k]? with|some (w::_)=> .str w|_=> .non)/\S=S':=by
 have el:=h.li;walk_at "wr";unfold vJ;refine zh (zy ?_);ext;refine zaR ?_;ext;refine⟨_,_,_,rfl,h.ob,rfl,?_⟩;ext;refine zaR ?_;ext;refine⟨_,_,_,rfl,h.ob,rfl,?_⟩;ext;refine xx (zj el) ?_;ext;rw[um,h.len];refine yu (λe=> ?_) (λe=>zv ?_)
 .ext;rw[x5 ⋯];exact⟨rfl,rfl⟩
 .have ki:k<wss.length:=by omega
  have mM:k<ms.length:=by rw[h.len];exact ki
  have hb:=h.at_ k _ _ (uo mM) (uo ki);have fj:=hw _ (Au ki);ext;refine zaR ?_;ext;refine⟨_,_,_,rfl,h.ob,rfl,?_⟩;ext;refine zaR ?_;ext;refine⟨_,_,_,rfl,h.ob,rfl,?_⟩;ext;refine xo (zj el) (z:= .ref ms[k]) (vc ⋯ (by rw[A7,uA,uo mM];rfl)) ?_;ext;rw[uo ki];revert hb fj;cases wss[k] with
  |nil=>intro _ q;exact absurd rfl q
  |cons w r=>
   intro hb _;exact xo (zj hb) (z:= .str w) (vc ∅ rfl) ⟨rfl,rfl⟩
theorem zia(h:Vy S o wss k l ms)(hk:wss[k]? =iJ ws):
  W (xU fu [.ref o] S) λv S'=>∃m,v= .ref m/\Txs S' m ws/\Vy S' o wss (k+1) l ms/\Kp (· =o) S S':=by
 have ki:=(uq.1 hk).1;have mM:k<ms.length:=by rw[h.len];exact ki
 have hb:=h.at_ k _ _ (uo mM) hk;have ne:∀{n:Nat} {xs:pR Xv},S[n]? =iJ (.lst xs)->n≠o:=λe q=>by rw[q,h.ob] at e;cases e
 walk_at "wr";unfold Wf;ext;refine zaR ?_;ext;refine⟨_,_,_,rfl,h.ob,rfl,?_⟩;ext;refine zaR ?_;ext;refine⟨_,_,_,rfl,h.ob,rfl,?_⟩;ext;refine xo (zj h.li) (z:= .ref ms[k]) (vc ⋯ (by rw[A7,uA,uo mM];rfl)) ?_;ext;refine zmP ?_;ext;refine⟨_,_,_,rfl,h.ob,rfl,?_⟩;ext;refine⟨_,_,rfl,h.ob,show 2<1000 by decide,?_⟩;ext;have kp:∀{c:Ce},Kp (· =o) S (S.set o c):=(Kp.refl _).set (.inl rfl);refine⟨kp.2 _ _ hb (ne hb),⟨?_,kp.2 _ _ h.li (ne h.li),h.len,λi m ws a b=>kp.2 _ _ (h.at_ i m ws a b) (ne (h.at_ i m ws a b))⟩,kp⟩;exact xB h.ob
noncomputable def w1(z:Str):pR Xv:=[.str z]
noncomputable def yT(b:Str):pR (pR (pR Xv))->pR (pR Xv)
 |[]=>[]
 |[r]=>r
 |r::q::t=>r++w1 b::yT b (q::t)
theorem zdI:∀{l:pR (pR (pR Xv))},l≠[]->yT b (l++[r])=yT b l++w1 b::r
 |[],h=>absurd rfl h
 |[a],_=>rfl
 |a::c::t,_=>by
  show a++w1 b::yT b ((c::t)++[r])=(a++w1 b::yT b (c::t))++w1 b::r;rw[zdI (l:=c::t) (by intro q;cases q),uM];rfl
inductive Nx:Xv->List (List Xv)->List Xv->Str->Prop where
 |cond {a b:Xv} {s:Str} {u v:List Xv}:s∈TS->SOp a->SOp b->Nx (.tup [.str "if",.tup [a,.str s,b],.tup u,.tup v]) [u,v] [.str "if",a,.str s,b] "else"
 |whil {a b:Xv} {s:Str} {u:List Xv}:s∈TS->SOp a->SOp b->Nx (.tup [.str "while",.tup [a,.str s,b],.tup u]) [u] [.str "while",a,.str s,b] "or"
 |times {k:Int} {u:List Xv}:0<=k->k<=999999999->Nx (.tup [.str "times",.int k,.tup u]) [u] [.str "times",.int k] "or"
 |hand {us:List (List Xv)}:2<=us.length->us.length<=10->Nx (.tup [.str "hand",.tup (us.map Xv.tup)]) us [.str "hand"] "or"
inductive Pg:Kd->List (List Xv)->Nat->Prop where
 |plain {x:Xv} {ps:List Xv} {q:Nat}:Pl x ps->Pg (.d x) [ps] q
 |nest {x:Xv} {us:List (List Xv)} {rss:List (List (List Xv))} {hd:List Xv} {bw:Str} {q:Nat}:Nx x us hd bw->us.length=rss.length->(∀(i:Nat) u r,us[i]? =iJ u->rss[i]? =iJ r->Pg (.b u) r q)->Pg (.d x) (hd::(yT bw rss++[w1 "end"])) (q+1)
 |blk {ds:List Xv} {rss:List (List (List Xv))} {q:Nat}:ds.length=rss.length->(∀(i:Nat) x r,ds[i]? =iJ x->rss[i]? =iJ r->Pg (.d x) r q)->Pg (.b ds) rss.flatten q
theorem Pg.mono(h:Pg kd rows q):∀{p:Nat},q<=p->Pg kd rows p:=by
 induction h with
 |plain h=>intro p _;exact .plain h
 |nest h1 h2 _ ih=>
  intro p hp;obtain⟨p,rfl⟩:∃m,p=m+1:=⟨p-1,⋯⟩;exact .nest h1 h2 λi u r a b=>ih i u r a b ⋯
 |blk h1 _ ih=>intro p hp;exact .blk h1 λi u r a b=>ih i u r a b hp
theorem Pg.nil:Pg (.b []) [] q:= .blk (rss:=[]) rfl λi x r h=>by simp at h
theorem Pg.snoc(h:Pg (.b l) r q)(g:Pg (.d x) r' q):Pg (.b (l++[x])) (r++r') q:=by
 cases h with
 | @blk _ rss _ hl h=>
  have e:rss.flatten++r'=(rss++[r']).flatten:=by rw[Ao];simp
  rw[e];refine .blk (by rw[ur,ur,hl];rfl) λi y s h1 h2=> ?_;by_cases hi:i<l.length
  .rw[uB hi] at h1;rw[uB ⋯] at h2;exact h i y s h1 h2
  .have:=(uq.1 h1).1;rw[ur,uF] at this;obtain rfl:i=l.length:=by omega
   rw[uL (uv _),B9] at h1;rw[uL ⋯,show l.length-rss.length=0 by omega] at h2;cases h1;cases h2;exact g
theorem Pg.one(g:Pg (.d x) r q):Pg (.b [x]) r q:=by
 have:=Pg.nil.snoc g;rwa [BG] at this
theorem zib{α:Type}{l:pR (pR α)}{i:Nat}{r:pR α}(h:l[i]? =iJ r):r.length<=l.flatten.length:=by
 induction l generalizing i with
 |nil=>simp at h
 |cons a t k=>
  rw[Aj,ur];cases i with
  |zero=>cases h;omega
  |succ i=>have:=k h;omega
theorem zlj:∀{l:pR (pR (pR Xv))} {i:Nat} {r:pR (pR Xv)},l[i]? =iJ r->r.length<=(yT b l).length
 |[],i,r,h=>by simp at h
 |[a],0,r,h=>by cases h;exact uv _
 |[a],i+1,r,h=>by simp at h
 |a::c::t,0,r,h=>by
  cases h;show a.length<=(a++w1 b::yT b (c::t)).length;rw[ur];omega
 |a::c::t,i+1,r,h=>by
  have:=zlj (b:=b) (l:=c::t) (i:=i) (r:=r) (by simpa using h);show r.length<=(a++w1 b::yT b (c::t)).length;rw[ur,uw];omega
theorem Nx.pts(h:Nx x us hd bw):(∀p∈hd,Pt p)/\hd.length<=12/\∃w r,hd= .str w::r/\w∈[("if":Str),"while","times","hand"]:=by
 have all:∀{l:pR Xv},(∀p∈l,Pt p)->∀{q:Xv},Pt q->∀p∈q::l,Pt p:=by
  intro l hl q hq p hp;rcases uU.1 hp with rfl|hp
  .exact hq
  .exact hl p hp
 have nil:∀p∈([]:pR Xv),Pt p:=λp hp=>by cases hp
 cases h with
 |cond hs ha hb=>exact⟨all (all (all (all nil hb.pt) (zfY hs)) ha.pt) (Zq ∅),show 4<=12 by decide,_,_,rfl,∅⟩
 |whil hs ha hb=>exact⟨all (all (all (all nil hb.pt) (zfY hs)) ha.pt) (Zq ∅),show 4<=12 by decide,_,_,rfl,∅⟩
 |times h0 h1=>exact⟨all (all nil (.inr ⟨_,rfl,h0,h1⟩)) (Zq ∅),show 2<=12 by decide,_,_,rfl,∅⟩
 |hand=>exact⟨all nil (Zq ∅),show 1<=12 by decide,_,_,rfl,∅⟩
def zat(ps:pR Xv):Prop:=(∀p∈ps,Pt p)/\ps.length<=12/\∃w r,ps= .str w::r/\w≠"box"
theorem zic(h:z∈[("pass":Str),"gain","look","set","draw","box","=","<","#","+","-","*","if","while","times","hand","else","or","end"])(hb:z≠"box"):zat (w1 z):=⟨λp hp=>by
 have:p= .str z:=by simpa [w1] using hp
 rw[this]
 exact Zq h,show 1<=12 by decide,z,[],rfl,hb⟩
theorem zid:∀{l:pR (pR (pR Xv))},p∈yT b l->p=w1 b\/∃(i:Nat) (r:pR (pR Xv)),l[i]? =iJ r/\p∈r
 |[],h=>by cases h
 |[a],h=> .inr ⟨0,a,rfl,h⟩
 |a::c::t,h=>by
  have h:p∈a++w1 b::yT b (c::t):=h;rw[uW,uU] at h;rcases h with h|h|h
  .exact .inr ⟨0,a,rfl,h⟩
  .exact .inl h
  .rcases zid h with h|⟨i,r,e,h⟩
   .exact .inl h
   .exact .inr ⟨i+1,r,e,h⟩
theorem Pg.rowok(h:Pg kd rows q):∀ps∈rows,zat ps:=by
 induction h with
 |plain h=>
  intro ps hp;rw[uX] at hp;subst hp;obtain⟨a,b,w,r,e,hw⟩:=h.pts;exact⟨a,b,w,r,e,λz=>by subst z;exact absurd hw ∅⟩
 | @nest x us rss hd bw q h1 h2 _ ih=>
  intro ps hp;rw[uU,uW,uX] at hp;rcases hp with rfl|hp|rfl
  .obtain⟨a,b,w,r,e,hw⟩:=h1.pts;exact⟨a,b,w,r,e,λz=>by subst z;exact absurd hw ∅⟩
  .rcases zid hp with rfl|⟨i,r,e,hp⟩
   .cases h1<;>exact zic ∅ ∅
   .have hi:=(uq.1 e).1;exact ih i _ r (uo ⋯) e ps hp
  .exact zic ∅ ∅
 | @blk ds rss q h1 _ ih=>
  intro ps hp;rw[List.mem_flatten] at hp;obtain⟨r,hr,hp⟩:=hp;obtain⟨i,hi,rfl⟩:=B2.1 hr;exact ih i _ _ (uo ⋯) (uo hi) ps hp
noncomputable def xg(qT:pR (pR Xv)):pR Xv:=qT.map λps=> .str (yP ps)
theorem szM(h:n<=9999):n<sizeLine:=y9 h ∅
theorem zdJ(a b:pR (pR Xv)):xg (a++b)=xg a++xg b:=uO
theorem UH(a:pR (pR Xv)):(xg a).length=a.length:=um _
theorem zfZ{b:Str}{i:Nat}{r:pR (pR Xv)}(h:rss[i]? =iJ r):yT b (rss.take (i+1))=(if i=0 then [] else yT b (rss.take i)++[w1 b])++r:=by
 have hi:=(uq.1 h).1;rw[w9 hi,(uq.1 h).2];by_cases h0:i=0
 .subst h0;rw[if_pos rfl];rfl
 .rw[if_neg h0,zdI (by intro q;have:=congrArg BX q;rw[z4] at this;have:min i rss.length=0:=this;omega),uM];rfl
theorem Ur:∀(l:pR (pR (pR Xv))) (i:Nat),(yT b (l.take i)).length<=(yT b l).length
 |[],i=>by simp
 |a::t,0=>uZ _
 |[a],i+1=>by rw[BE,Ec];exact uv _
 |a::c::t,1=>by
  show a.length<=(a++w1 b::yT b (c::t)).length;rw[ur];omega
 |a::c::t,i+2=>by
  have:=Ur (b:=b) (c::t) (i+1);rw[BE] at this;show(a++w1 b::yT b (c::t.take i)).length<=(a++w1 b::yT b (c::t)).length;rw[ur,ur,uw,uw];omega
theorem zrg(h:w∈[("if":Str),"while","times","hand"]):decide (w="if"\/w="while"\/w="times"\/w="hand")=jD:=decide_eq_true (by simpa using h)
theorem Vr(h1:S[m]? =iJ (.lst (xg a)))(h2:S[n]? =iJ (.lst (xg b)))(hl:a.length+b.length<=9000)(k:P (.ref S.length) (S++[.lst (xg (a++b))])):WO (yI (.ref m) (.ref n) S) P:=by
 rw[zdJ] at k;refine WO.of ?_ k;unfold yI;rw[zj h1,zj h2];exact if_pos (by rw[UH,UH];exact z3 (szM ⋯))
noncomputable def lrB(fu f:Nat):TwS:=sIf (bE (eOp (yz nW) (eOp zS (za 2) (q8 0)) (tL "pass"))) (yY (eMt yn (za 1) [tL "pass"])) (sIf (bE (eOp (yz nW) (eOp zS (za 2) (q8 0)) (tL "gain"))) (yY (eMt yn (za 1) [eOp zQ (tL "gain ") (eFn zbp [eOp zS (za 2) (q8 1)])])) (sIf (bOr (bE (eOp (yz nW) (eOp zS (za 2) (q8 0)) (tL "set"))) (bE (eOp (yz nW) (eOp zS (za 2) (q8 0)) (tL "draw")))) (yY (eMt yn (za 1) [eOp zQ (eOp zQ (eOp zQ (eOp zQ (eOp zS (za 2) (q8 0)) (tL " ")) (eOp zS (za 2) (q8 1))) (tL " ")) (zf (yR fu) [eOp zS (za 2) (q8 2)])])) (sIf (bE (eOp (yz nW) (eOp zS (za 2) (q8 0)) (tL "look"))) (yY (eMt yn (za 1) [eOp zQ (tL "look ") (zf (yR fu) [eOp zS (za 2) (q8 1)])])) (zH (eOp yI (za 1) (zf (zK fu f) [za 2])) (gN 1)))))
theorem zlk:Zn fu (zX fu f) (zK fu f)=(zo (zH (yM []) (gN 1)) (zo (UK (iA (za 0)) (gN 2) (lrB fu f)) (zJ (za 1)))):=rfl
def LrP(fu:Nat):Kd->pR (pR Xv)->Nat->Prop
 | .d x,rows,q=>∀(f:Nat) (S T0:Sto) (m:Nat) (l:pR (pR Xv)) (v0:Xv) (R:Xv->Sto->Prop),2*q<=f->l.length+rows.length<=2000->S[m]? =iJ (.lst (xg l))->T0.length<=m->Kn T0 S->
  WS (lrB fu f [iJ v0,iJ (.ref m),iJ x] S) (λρ S'=>∃m',ρ=[iJ v0,iJ (.ref m'),iJ x]/\S'[m']? =iJ (.lst (xg (l++rows)))/\T0.length<=m'/\Kn T0 S') R
 | .b ds,rows,q=>∀(f:Nat) (S:Sto) (x:Xv),2*q+1<=f->rows.length<=2000->(x= .tup ds\/∃m,x= .ref m/\S[m]? =iJ (.lst ds))->W (zX fu f [x] S) λv S'=>∃n,v= .ref n/\S'[n]? =iJ (.lst (xg rows))/\S.length<=n/\Kn S S'
 | .s _,_,_=>True
theorem za5(hl:l.length+1<=2000)(au:S[m]? =iJ (.lst (xg l)))(hm:T0.length<=m)(kT:Kn T0 S)
  (he:W (e [iJ v0,iJ (.ref m),iJ x] S) λv S'=>v= .str (yP ps)/\Kn S S'):
  WS (yY (eMt yn (za 1) [e]) [iJ v0,iJ (.ref m),iJ x] S) (λρ S'=>∃m',ρ=[iJ v0,iJ (.ref m'),iJ x]/\S'[m']? =iJ (.lst (xg (l++[ps])))/\T0.length<=m'/\Kn T0 S') R:=by
 ext;refine Xf ?_;ext;refine⟨⟨_,zj au⟩,?_⟩;ext;refine he.imp ?_;rintro _ S1 ⟨rfl,k1⟩;ext;refine xr (xa (k1.at au)) (by rw[UH];exact szM ⋯) ?_;ext;refine⟨?_,hm,(kT.trans k1).set (.inr hm)⟩;rw[xB (k1.at au),zdJ];rfl
theorem zll(h:Pl x ps)(hl:l.length+1<=2000)(au:S[m]? =iJ (.lst (xg l)))(hm:T0.length<=m)(kT:Kn T0 S):
  WS (lrB fu f [iJ v0,iJ (.ref m),iJ x] S) (λρ S'=>∃m',ρ=[iJ v0,iJ (.ref m'),iJ x]/\S'[m']? =iJ (.lst (xg (l++[ps])))/\T0.length<=m'/\Kn T0 S') R:=by
 obtain⟨hp,nR,_⟩:=h.pts;unfold lrB;have no:∀{w v:Str} {r:pR Xv} {a b:TwS} {N:Rho->Sto->Prop} {R:Xv->Sto->Prop},w≠v->WS (b [iJ v0,iJ (.ref m),iJ (.tup (.str w::r))] S) N R->WS (sIf (bE (eOp (yz nW) (eOp zS (za 2) (q8 0)) (eC (.str v)))) a b [iJ v0,iJ (.ref m),iJ (.tup (.str w::r))] S) N R:=by
  intro w v r a b N R h k;refine zy ?_;ext;exact yy h ⟨_,rfl,nofun,λ_=>k⟩
 have iI:∀{n:Nat},n<=999->n<=sizeLine:=λh=>z3 (y9 h ∅);have big:∀{w n:Str} {r:pR Xv} {q:Xv} {N:Rho->Sto->Prop},Uo w->Uo n->(∀z∈(.str w:: .str n::q::r),Pt z)->(Xv.str w:: .str n::q::r).length<=12->
   W (eOp zQ (eOp zQ (eOp zQ (eOp zQ (eOp zS (za 2) (q8 0)) (tL " ")) (eOp zS (za 2) (q8 1))) (tL " ")) (zf (yR fu) [eOp zS (za 2) (q8 2)]) [iJ v0,iJ (.ref m),iJ (.tup [.str w,.str n,.tup (q::r)])] S) λv S'=>v= .str (yP (.str w:: .str n::q::r))/\Kn S S':=by
  intro w n r q N hw hn h1 h2;have h3:∀z∈q::r,Pt z:=λz hz=>h1 z (uG _ (uG _ hz));have h4:(q::r).length<=12:=by
   rw[uw,uw] at h2;omega
  have l1:=hw.le;have l2:=hn.le;have ls:((" ":Str)).length=1:=rfl;ext;refine xD (iI (by show _+1<=_;omega)) ?_;ext;refine xD (iI (by rw[Str.length_append,ls];omega)) ?_;ext;refine xD (iI (by rw[Str.length_append,Str.length_append,ls];omega)) ?_;ext;refine xJ rfl rfl ?_;ext;refine(Tt h3 h4).imp ?_;rintro _ S1 ⟨rfl,k1⟩;have lr:=Up h3 h4;refine xD (iI (by rw[Str.length_append,Str.length_append,Str.length_append,ls];omega)) ?_;refine⟨?_,k1⟩;rw[wc,wc];show Xv.str (w++" "++n++" "++yP (q::r))=Xv.str (w++" "++(n++" "++yP (q::r)));simp only[Str.append_assoc]
 cases h with
 |pass=>
  refine zy ?_;ext;refine yg ⟨_,rfl,λ_=> ?_,nofun⟩;refine za5 hl au hm kT ?_;ext;exact⟨by rw[wv];rfl,Kn.refl⟩
 | @gain a ha=>
  refine no ∅ (zy ?_);ext;refine yg ⟨_,rfl,λ_=> ?_,nofun⟩;refine za5 hl au hm kT ?_;have w:=ha.pt.wd.le;have e:yP [.str "gain",a]="gain "++tx a:=by
   rw[wc,wv];rfl
  rw[e];have fin:WO (zQ (.str "gain ") (.str (tx a)) S) λv S'=>v= .str ("gain "++tx a)/\Kn S S':=xD (iI (by show 5+_<=_;omega)) ⟨rfl,Kn.refl⟩;ext;rcases ha.pt with⟨z,rfl,_⟩|⟨v,rfl,h0,h1⟩
  .exact zhZ fin
  .exact zbH (zeD h0 h1) fin
 | @look a b s hs ha hb=>
  refine no ∅ (no ∅ (zy (Zu ?_)));ext;refine yy ∅ ⟨_,rfl,nofun,λ_=> ?_⟩;ext;refine yy ∅ ⟨_,rfl,nofun,λ_=>zy ?_⟩;ext;refine yg ⟨_,rfl,λ_=> ?_,nofun⟩;refine za5 hl au hm kT ?_;ext;have h3:(∀z∈[a,Xv.str s,b],Pt z):=λz hz=>hp z (uG _ hz);have h4:([a,Xv.str s,b]:pR Xv).length<=12:=show 3<=12 by decide
  refine(Tt h3 h4).imp ?_;rintro _ S1 ⟨rfl,k1⟩;have lr:=Up h3 h4;refine xD (iI (by show 5+_<=_;omega)) ⟨?_,k1⟩;rw[wc (p:= .str "look")];rfl
 | @set1 n a hn ha=>
  refine no ∅ (no ∅ (zy (Zu ?_)));ext;refine yg ⟨_,rfl,λ_=>⟨λ_=> ?_,nofun⟩,nofun⟩;exact za5 hl au hm kT (big (N:=λ_ _=>True) (vL ∅) hn.wd hp nR)
 | @set3 n a b s hn hs ha hb=>
  refine no ∅ (no ∅ (zy (Zu ?_)));ext;refine yg ⟨_,rfl,λ_=>⟨λ_=> ?_,nofun⟩,nofun⟩;exact za5 hl au hm kT (big (N:=λ_ _=>True) (vL ∅) hn.wd hp nR)
 | @draw n ws hn h9 h1 hw=>
  match ws,h1 with
  |v::ws,_=>
   refine no ∅ (no ∅ (zy (Zu ?_)));ext;refine yy ∅ ⟨_,rfl,nofun,λ_=> ?_⟩;ext;refine yg ⟨_,rfl,λ_=> ?_,nofun⟩;exact za5 hl au hm kT (big (N:=λ_ _=>True) (vL ∅) hn.wd hp nR)
theorem zbL(h:c= .lst [.str (yP hd)]):(S++[c])[S.length]? =iJ (.lst (xg [hd])):=by
 rw[h];exact zL
theorem zpz{l:pR Xv}{lo hi:pT Int}(k:P (.tup (L2.XX l lo hi)) S):WO (zgB (.tup l) lo hi S) P:= .of (by unfold zgB;rfl) k
theorem zlm(h1:Nx x us hd bw)(h2:us.length=rss.length)(ih:∀(i:Nat) u r,us[i]? =iJ u->rss[i]? =iJ r->LrP fu (.b u) r q)(hf:2*q+2<=f)(hl:(yT bw rss).length+2<=2000):
  W (zK fu f [x] S) λv S'=>∃n,v= .ref n/\S'[n]? =iJ (.lst (xg (hd::(yT bw rss++[w1 "end"]))))/\S.length<=n/\Kn S S':=by
 obtain⟨f,rfl⟩:∃e,f=e+1:=⟨f-1,⋯⟩;obtain⟨hp,nR,_⟩:=h1.pts;have iI:∀{n:Nat},n<=999->n<=sizeLine:=λh=>z3 (y9 h ∅);rw[vm];walk_at "wr";unfold xl;have no:∀{w v:Str} {r:pR Xv} {a b:TwS} {N:Rho->Sto->Prop} {R:Xv->Sto->Prop},w≠v->WS (b [iJ (.tup (.str w::r)),jr,jr] S) N R->WS (sIf (bE (eOp (yz nW) (eOp zS (za 0) (q8 0)) (eC (.str v)))) a b [iJ (.tup (.str w::r)),jr,jr] S) N R:=by
  intro w v r a b N R h k;refine zy ?_;ext;exact yy h ⟨_,rfl,nofun,λ_=>k⟩
 have fin:∀{m:Nat} {S2:Sto} {a2:pT Xv} {rows:pR (pR Xv)} {N:Rho->Sto->Prop},S2[m]? =iJ (.lst (xg (hd::rows)))->rows.length+2<=2000->rows=yT bw rss->Kn S S2->WS (zJ (eOp yI (za 1) (yM [tL "end"])) [iJ x,iJ (.ref m),a2] S2) N λv S'=>∃n,v= .ref n/\S'[n]? =iJ (.lst (xg (hd::(yT bw rss++[w1 "end"]))))/\S.length<=n/\Kn S S':=by
  intro m S2 a2 rows N au hl hr k2;subst hr;ext;have ea:(S2++[Ce.lst [.str "end"]])[S2.length]? =iJ (.lst (xg [w1 "end"])):=zbL (by unfold w1;rw[wv];rfl);refine Vr (a:=hd::yT bw rss) (b:=[w1 "end"]) (Kn.refl.app.at au) ea (by rw[uw,uF];omega) ?_;refine⟨_,rfl,zL,?_,k2.app.app⟩;have:=k2.1;rw[ur];omega
 have one:∀{m:TwE} {e:TwE} {u:pR Xv} {r:pR (pR Xv)} {P:Xv->Sto->Prop},us[0]? =iJ u->rss[0]? =iJ r->r.length<=1000\/r.length+2<=2000->(W (m [iJ x,jr,jr] S) λv S'=>v= .str (yP hd)/\Kn S S')->(∀S1,W (e [iJ x,jr,jr] S1) λv S'=>v= .tup u/\S1=S')->
   (∀n S1,S1[n]? =iJ (.lst (xg (hd::r)))->Kn S S1->P (.ref n) S1)->W (eOp yI (yM [m]) (zf (zX fu f) [e]) [iJ x,jr,jr] S) P:=by
  intro m e u r P eu er rW hm he k;ext;refine hm.imp ?_;rintro _ S1 ⟨rfl,k1⟩;ext;refine(he _).imp ?_;rintro _ _ ⟨rfl,rfl⟩;ext;refine(ih 0 u r eu er f _ _ ⋯ ⋯ (.inl rfl)).imp ?_;rintro _ S3 ⟨n,rfl,hn,jC,k3⟩;have ea:(S1++[Ce.lst [.str (yP hd)]])[S1.length]? =iJ (.lst (xg [hd])):=zbL rfl;refine Vr (a:=[hd]) (b:=r) (k3.at ea) hn (by rw[uF];omega) ?_;exact k _ _ zL (k1.app.trans k3).app
 have pS:∀{w wp s:Str} {a b:Xv} {r:pR Xv},wp=w++" "->wp.length<=10->(∀z∈[a,Xv.str s,b],Pt z)->W (eOp zQ (eC (.str wp)) (zf (yR fu) [eOp zS (za 0) (q8 1)]) [iJ (.tup (.str w:: .tup [a,.str s,b]::r)),jr,jr] S) λv S'=>v= .str (yP [.str w,a,.str s,b])/\Kn S S':=by
  intro w wp s a b r e j7 h3;ext;have h4:([a,Xv.str s,b]:pR Xv).length<=12:=show 3<=12 by decide
  refine(Tt h3 h4).imp ?_;rintro _ S1 ⟨rfl,k1⟩;have lr:=Up h3 h4;refine xD (iI ⋯) ⟨?_,k1⟩;rw[wc (p:= .str w),e];rfl
 cases h1 with
 | @cond a b s u v hs ha hb=>
  obtain⟨r1,r2,rfl⟩:=lq3 h2
  have lz:r1.length+(r2.length+1)+2<=2000:=by
   have:(yT "else" [r1,r2]).length=r1.length+(r2.length+1):=by
    show(r1++w1 "else"::r2).length=_;rw[ur];rfl
   omega
  refine zh (zy ?_);ext;refine yg ⟨_,rfl,λ_=> ?_,nofun⟩;refine zh (wg ?_);refine one (u:=u) (r:=r1) rfl rfl ⋯ (pS rfl ∅ λz hz=>hp z (uG _ hz)) (λS1=>by ext;exact xJ rfl rfl ⟨rfl,rfl⟩) ?_;intro n S1 hn k1;dsimp only[y7];ext;have ea:(S1++[Ce.lst [.str "else"]])[S1.length]? =iJ (.lst (xg [w1 "else"])):=zbL (by unfold w1;rw[wv];rfl);refine Vr (b:=[w1 "else"]) (Kn.refl.app.at hn) ea (by rw[uw,uF];omega) ?_;have k2:Kn S ((S1++[Ce.lst [.str "else"]])++[Ce.lst (xg (([.str "if",a,.str s,b]::r1)++[w1 "else"]))]):=k1.app.app;have a2:((S1++[Ce.lst [.str "else"]])++[Ce.lst (xg (([.str "if",a,.str s,b]::r1)++[w1 "else"]))])[(S1++[Ce.lst [.str "else"]]).length]? =iJ (Ce.lst (xg (([.str "if",a,.str s,b]::r1)++[w1 "else"]))):=zL;generalize (S1++[Ce.lst [.str "else"]])++[Ce.lst (xg (([.str "if",a,.str s,b]::r1)++[w1 "else"]))]=S3 at k2 a2 ⊢;generalize (S1++[Ce.lst [.str "else"]]).length=n2 at a2 ⊢;ext;refine xJ rfl (z:= .tup v) rfl ?_;ext;refine(ih 1 v r2 rfl rfl f _ _ ⋯ ⋯ (.inl rfl)).imp ?_;rintro _ S4 ⟨n3,rfl,oX,jC,k4⟩;refine Vr (k4.at a2) oX (by rw[ur,uw,uF];omega) ?_;refine fin (rows:=r1++w1 "else"::r2) ?_ (by rw[ur,uw];omega) rfl (k2.trans k4).app;rw[zL,uM];rfl
 | @whil a b s u hs ha hb=>
  obtain⟨r1,rfl⟩:=lq1 h2
  have hl:r1.length+2<=2000:=hl;refine zh (no ∅ (zy ?_));ext;refine yg ⟨_,rfl,λ_=> ?_,nofun⟩;refine wg ?_;refine one (u:=u) (r:=r1) rfl rfl (.inr hl) (pS rfl ∅ λz hz=>hp z (uG _ hz)) (λS1=>by ext;exact xJ rfl rfl ⟨rfl,rfl⟩) ?_;intro n S1 hn k1;exact fin hn hl rfl k1
 | @times k u h0 h1=>
  obtain⟨r1,rfl⟩:=lq1 h2
  have hl:r1.length+2<=2000:=hl;refine zh (no ∅ (no ∅ (zy ?_)));ext;refine yg ⟨_,rfl,λ_=> ?_,nofun⟩;refine wg ?_;refine one (u:=u) (r:=r1) rfl rfl (.inr hl) ?_ (λS1=>by ext;exact xJ rfl rfl ⟨rfl,rfl⟩) ?_
  .ext;refine zbH (zeD h0 h1) ?_;have:=(zfW h0 h1).le;refine xD (iI (by show 6+(nt k).length<=_;omega)) ⟨?_,Kn.refl⟩;rw[wc,wv];rfl
  intro n S1 hn k1;exact fin hn hl rfl k1
 | @hand us nh ng=>
  obtain⟨u0,ut,rfl⟩:∃a t,us=a::t:=by
   cases us with
   |nil=>exact absurd nh ∅
   |cons a t=>exact⟨a,t,rfl⟩
  obtain⟨r0,rt,rfl⟩:∃a t,rss=a::t:=by
   cases rss with
   |nil=>cases h2
   |cons a t=>exact⟨a,t,rfl⟩
  have sv:=zlj (b:="or") (l:=r0::rt) (i:=0) (r:=r0) rfl;refine zh (no ∅ (no ∅ (no ∅ ?_)));refine zh (wg ?_);refine one (u:=u0) (r:=r0) rfl rfl ⋯ (by ext;exact⟨by rw[wv];rfl,Kn.refl⟩) (λS1=>by ext;exact xJ (z:= .tup u0) rfl (vc ∅ rfl) ⟨rfl,rfl⟩) ?_;intro n S1 hn k1;dsimp only[y7];refine Ym (zfq ?_);ext;refine zpz ?_;rw[show L2.XX ((u0::ut).map Xv.tup) (iJ 1) jr=ut.map Xv.tup from Xw _ 1];refine⟨_,rfl,_,rfl,?_⟩;refine ZD (λi ρ S3=>∃(m:Nat) (a2:pT Xv),ρ=[iJ (.tup [.str "hand",.tup ((u0::ut).map Xv.tup)]),iJ (.ref m),a2]/\S3[m]? =iJ (.lst (xg (w1 "hand"::yT "or" ((r0::rt).take (i+1)))))/\Kn S S3) (λ_ _ _ _ _=>rfl) ?_ ?_ ?_
  .rintro i z ρ S3 hz ⟨m,a2,rfl,au,kn⟩;rw[uA,uH] at hz;obtain⟨u,eu,rfl⟩:=hz;have hi:=(uq.1 eu).1;have mO:i<rt.length:=by
    have:ut.length+1=rt.length+1:=h2;omega
   have er:=uo mO;have pM:(r0::rt)[i+1]? =iJ rt[i]:=by simpa using er
   have p4:=Ur (b:="or") (r0::rt) (i+1);have mJ:=Ur (b:="or") (r0::rt) (i+1+1);rw[zfZ pM,if_neg ⋯,ur,ur,uF] at mJ;rw[zfZ pM,if_neg ⋯];generalize yT "or" ((r0::rt).take (i+1))=done at au p4 mJ ⊢;refine .of rfl ?_;dsimp only[y7];ext;have ea:(S3++[Ce.lst [.str "or"]])[S3.length]? =iJ (.lst (xg [w1 "or"])):=zbL (by unfold w1;rw[wv];rfl);refine Vr (b:=[w1 "or"]) (Kn.refl.app.at au) ea (by rw[uw,uF];omega) ?_;have k2:Kn S ((S3++[Ce.lst [.str "or"]])++[Ce.lst (xg ((w1 "hand"::done)++[w1 "or"]))]):=kn.app.app;have a2:((S3++[Ce.lst [.str "or"]])++[Ce.lst (xg ((w1 "hand"::done)++[w1 "or"]))])[(S3++[Ce.lst [.str "or"]]).length]? =iJ (Ce.lst (xg ((w1 "hand"::done)++[w1 "or"]))):=zL;generalize (S3++[Ce.lst [.str "or"]])++[Ce.lst (xg ((w1 "hand"::done)++[w1 "or"]))]=S4 at k2 a2 ⊢;generalize (S3++[Ce.lst [.str "or"]]).length=n2 at a2 ⊢;ext;refine(ih (i+1) u _ (by simpa using eu) pM f _ _ ⋯ ⋯ (.inl rfl)).imp ?_;rintro _ S5 ⟨n3,rfl,oX,jC,k5⟩;refine Vr (k5.at a2) oX (by rw[ur,uw,uF];omega) ?_;refine⟨_,_,rfl,?_,(k2.trans k5).app⟩;rw[zL];rfl
  .exact⟨n,jr,rfl,hn,k1⟩
  .rintro ρ S3 ⟨m,a2,rfl,au,kn⟩;have:ut.length+1=rt.length+1:=h2;rw[um,show ut.length+1=(r0::rt).length from this,z8] at au;exact fin au hl rfl kn
theorem zn0{kd:Kd}{q:Nat}(h:Pg kd rows q):LrP fu kd rows q:=by
 induction h with
 | @plain x ps q h=>
  intro f S T0 m l v0 R hf hl au hm kT;exact zll h hl au hm kT
 | @nest x us rss hd bw q h1 h2 _ ih=>
  intro f S T0 m l v0 R hf hl au hm kT;rw[uw,ur,uF] at hl;obtain⟨_,_,w,r,rfl,hw⟩:=h1.pts;obtain⟨r2,hx⟩:∃r2,x= .tup (.str w::r2):=by
   generalize ja:Xv.str w::r=ps at h1;cases h1<;>(obtain⟨e1,_⟩:=x9 ja;cases e1;exact⟨_,rfl⟩)
  have ne:w≠"pass"/\w≠"gain"/\w≠"set"/\w≠"draw"/\w≠"look":=by
   have hw:w="if"\/w="while"\/w="times"\/w="hand":=by simpa using hw
   rcases hw with rfl|rfl|rfl|rfl<;>decide
  obtain⟨n1,n2,n3,n4,n5⟩:=ne;subst hx;unfold lrB;have no:∀{v:Str} {a b:TwS} {N:Rho->Sto->Prop} {R:Xv->Sto->Prop},w≠v->WS (b [iJ v0,iJ (.ref m),iJ (.tup (.str w::r2))] S) N R->WS (sIf (bE (eOp (yz nW) (eOp zS (za 2) (q8 0)) (eC (.str v)))) a b [iJ v0,iJ (.ref m),iJ (.tup (.str w::r2))] S) N R:=by
   intro v a b N R h k;refine zy ?_;ext;exact yy h ⟨_,rfl,nofun,λ_=>k⟩
  refine no n1 (no n2 (zy (Zu ?_)));ext;refine yy n3 ⟨_,rfl,nofun,λ_=> ?_⟩;ext;refine yy n4 ⟨_,rfl,nofun,λ_=>no n5 ?_⟩;ext;refine(zlm h1 h2 ih ⋯ ⋯).imp ?_;rintro _ S1 ⟨n,rfl,hn,jC,k1⟩;refine Vr (k1.at au) hn (by rw[uw,ur,uF];omega) ?_;refine⟨_,rfl,zL,?_,(kT.trans k1).app⟩;have:=(kT.trans k1).1;exact this
 | @blk ds rss q h1 _ ih=>
  intro f S x hf hl hx;obtain⟨f,rfl⟩:∃e,f=e+1:=⟨f-1,⋯⟩;rw[XR];walk_at "wr";rw[zlk];ext;have loop:∀get:Sto->pT (pR Xv),(∀S2,Kn S S2->get S2=iJ ds)->∀{N:Rho->Sto->Prop} {R:Xv->Sto->Prop},(∀n S2 a2,S2[n]? =iJ (.lst (xg rss.flatten))->S.length<=n->Kn S S2->N [iJ x,iJ (.ref n),a2] S2)->WS (Vu get (gN 2) (lrB fu f) (ds.length+1) 0 [iJ x,iJ (.ref S.length),jr] (S++[Ce.lst []])) N R:=by
   intro get lK N R k;refine ZD (λi ρ S2=>∃(m:Nat) (a2:pT Xv),ρ=[iJ x,iJ (.ref m),a2]/\S2[m]? =iJ (.lst (xg (rss.take i).flatten))/\S.length<=m/\Kn S S2) ?_ ?_ ?_ ?_
   .rintro i ρ S2 _ ⟨m,a2,_,_,_,kn⟩;exact lK S2 kn
   .rintro i z ρ S2 hz ⟨m,a2,rfl,au,hm,kn⟩;have hi:=(uq.1 hz).1;have nN:i<rss.length:=by omega
    have er:=uo nN;have e3:(rss.take (i+1)).flatten=(rss.take i).flatten++rss[i]:=by rw[w9 nN,Ao];simp
    have hle:((rss.take i).flatten++rss[i]).length<=rss.flatten.length:=by
     rw[<-e3]
     conv=>rhs;rw[<-Bo (i+1) rss,Ao,ur]
     omega
    rw[ur] at hle;refine .of rfl ?_;dsimp only[y7];refine xw _ (ih i z _ hz er f S2 S m _ x _ ⋯ ⋯ au hm kn) ?_;rintro ρ S3 ⟨m',rfl,pD,oY,kn'⟩;exact⟨m',_,rfl,by rw[e3];exact pD,oY,kn'⟩
   .exact⟨S.length,jr,rfl,zL,uv _,Kn.refl.app⟩
   .rintro ρ S2 ⟨m,a2,rfl,au,hm,kn⟩;rw[h1,z8] at au;exact k m S2 a2 au hm kn
  rcases hx with rfl|⟨m,rfl,au⟩
  .refine Ym (zkX ?_);ext;refine loop _ (λ_ _=>rfl) ?_;intro n S2 a2 h1 h2 h3;ext;exact⟨h1,h2,h3⟩
  .refine Ym (zkW ?_);ext;refine⟨m,ds,rfl,zj (Kn.refl.app.at au),ds,zj (Kn.refl.app.at au),loop _ (λS2 k2=>zj (k2.at au)) ?_⟩;intro n S2 a2 h1 h2 h3;ext;exact⟨h1,h2,h3⟩
theorem Kp.of_kn{w:Nat->Prop}(h:Kn S S'):Kp w S S':=⟨h.1,λn c e _=>h.2 n c e (λz=>z)⟩
theorem Vy.put(h:Vy S o wss k l ms)(h1:a≠o)(h2:a≠l)(h3:a∉ms):Vy (S.set a c) o wss k l ms:=by
 have st:∀{n:Nat} {d:Ce},a≠n->S[n]? =iJ d->(S.set a c)[n]? =iJ d:=λq e=>by rw[A2 q];exact e
 exact⟨st h1 h.ob,st h2 h.li,h.len,λi m ws p q=>st (λz=>h3 (by rw[z];exact x8 p)) (h.at_ i m ws p q)⟩
structure xV(S:Sto)(o:Nat)(wss:pR (pR Str))(k l:Nat)(ms:pR Nat):Prop where
 rw:Vy S o wss k l ms
 ne:∀ws∈wss,ws≠[]
 lt:∀m∈ms,m<S.length
theorem xV.keep(h:xV S o wss k l ms)(q:Kn S S'):xV S' o wss k l ms:=⟨h.rw.keep q,h.ne,λm hm=>by have:=h.lt m hm;have:=q.1;omega⟩
theorem xV.o_lt(h:xV S o wss k l ms):o<S.length:=(uq.1 h.rw.ob).1
theorem xV.l_lt(h:xV S o wss k l ms):l<S.length:=(uq.1 h.rw.li).1
theorem Vs{k:Nat}{ws:pR Str}{t:pR (pR Str)}(h:wss.drop k=ws::t):wss[k]? =iJ ws/\wss.drop (k+1)=t:=by
 have e:(wss.drop k)[0]? =iJ ws:=by rw[h];rfl
 rw[List.getElem?_drop,Nat.add_zero] at e;exact⟨e,by rw[<-DX,h];rfl⟩
theorem Xx{a b:pR (pR Str)}{k:Nat}(h:wss.drop k=a++b):wss.drop (k+a.length)=b:=by
 rw[<-DX,h,DY]
theorem xV.fw1(h:xV S o wss k l ms)(e:wss.drop k=(w::r)::t):W (zY fu [.ref o] S) λv S'=>v= .str w/\S=S':=by
 have e1:=(Vs e).1;refine(Uq h.rw (z3 (uq.1 e1).1) h.ne).imp ?_;rw[e1];exact λ_ _ h=>h
theorem xV.fw0(h:xV S o wss k l ms)(e:wss.length=k):W (zY fu [.ref o] S) λv S'=>v= .non/\S=S':=by
 refine(Uq h.rw ⋯ h.ne).imp ?_;rw[x5 ⋯];exact λ_ _ h=>h
theorem xV.take(h:xV S o wss k l ms)(e:wss.drop k=ws::t):W (xU fu [.ref o] S) λv S'=>∃m,v= .ref m/\Txs S' m ws/\xV S' o wss (k+1) l ms/\Kp (· =o) S S':=by
 refine(zia h.rw (Vs e).1).imp ?_;rintro v S1 ⟨m,rfl,h1,h2,k1⟩;exact⟨m,rfl,h1,⟨h2,h.ne,λm hm=>by have:=h.lt m hm;have:=k1.1;omega⟩,k1⟩
theorem xV.alone(h:xV S o wss k l ms)(e:wss.drop k=[w]::t):W (yB fu [.ref o,.str w] S) λv S'=>v= .non/\xV S' o wss (k+1) l ms/\Kp (· =o) S S':=by
 walk_at "wr";unfold vK;refine zy (Zu ?_);ext;refine wk ?_;ext;refine⟨_,_,rfl,h.rw.ob,rfl,?_⟩;ext;refine(h.fw1 e).imp ?_;rintro _ _ ⟨rfl,rfl⟩;ext;refine WO.of (show zoF (.str w) S=iJ (.bl nW,S) from rfl) ?_;refine⟨_,rfl,nofun,λ_=> ?_⟩;ext;refine wk ?_;ext;refine⟨_,_,rfl,h.rw.ob,rfl,?_⟩;ext;refine(h.take e).imp ?_;rintro _ S1 ⟨m,rfl,h1,h2,k1⟩;ext;have tl:∀{S:Sto} {n:Nat},S[n]? =iJ (.lst [.str w])->wo S 40 (.ref n)=iJ (.lst [.str w]):=by
  intro S n e;show(ya S (.ref n)).bind _=_;rw[zj e];rfl
 have ea:(S1++[Ce.lst [.str w]])[S1.length]? =iJ (.lst [.str w]):=zL;have kk:Kn S1 (S1++[Ce.lst [.str w]]):=Kn.refl.app;refine zo9 (b:=jD) (tl (kk.at h1)) (tl ea) rfl ?_ ?_
 .show (if (1:Nat)=1 then zaP (eqG 39) [D.str w] [D.str w] else iJ nW)=iJ jD;rw[if_pos rfl];show((iJ (w==w)).bind λa=>(iJ jD).map (a&& ·))=iJ jD;rw[beq_self_eq_true];rfl
 refine⟨_,rfl,nofun,λ_=>zv ?_⟩;exact⟨rfl,h2.keep kk,k1.trans (Kp.of_kn kk)⟩
noncomputable def wd(ps:pR Xv):pR Str:=ps.map tx
def Stp(rest:pR (pR Str)):Prop:=∀w r t,rest=(w::r)::t->w="else"\/w="or"\/w="end"
def zcz(fu:Nat):Kd->pR (pR Xv)->Nat->Prop
 | .d x,rows,q=>∀(f op:Nat) (S:Sto) (o:Nat) (wss:pR (pR Str)) (k l:Nat) (ms:pR Nat) (rest:pR (pR Str)),4*q+1<=f->op+q<=12->rows.length<=2000->xV S o wss k l ms->wss.drop k=rows.map wd++rest->
  W (zT fu f [.ref o,.int (op:Int)] S) λv S'=>v=x/\xV S' o wss (k+rows.length) l ms/\Kp (· =o) S S'
 | .b ds,rows,q=>∀(f op:Nat) (S:Sto) (o:Nat) (wss:pR (pR Str)) (k l:Nat) (ms:pR Nat) (rest:pR (pR Str)),4*q+2<=f->op+q<=12->rows.length<=2000->xV S o wss k l ms->wss.drop k=rows.map wd++rest->(rest=[]->k<=wss.length)->Stp rest->
  W (zD fu f [.ref o,.int (op:Int)] S) λv S'=>v= .tup ds/\xV S' o wss (k+rows.length) l ms/\Kp (· =o) S S'
 | .s _,_,_=>True
theorem zau{w:Str}{t:pR (pR Str)}(h:w="else"\/w="or"\/w="end"):Stp ([w]::t):=by
 intro w' r t' e;obtain⟨e1,_⟩:=x9 e;obtain⟨rfl,_⟩:=x9 e1;exact h
theorem zcA(ih:zcz fu (.b u) r q)(hf:4*q+3<=f)(iH:op+q<=12)(hl:r.length<=2000)(h:xV S o wss k l ms)(e:wss.drop k=r.map wd++[("end":Str)]::rest):
  W (zE fu f [.ref o,.int (op:Int)] S) λv S'=>v= .tup u/\xV S' o wss (k+r.length+1) l ms/\Kp (· =o) S S':=by
 obtain⟨f,rfl⟩:∃e,f=e+1:=⟨f-1,⋯⟩;rw[Yg];walk_at "wr";unfold vC;ext;refine(ih f op S o wss k l ms _ ⋯ iH hl h e nofun (zau (.inr (.inr rfl)))).imp ?_;rintro _ S1 ⟨rfl,h1,k1⟩;have e1:=Xx e;rw[um] at e1;ext;refine wk ?_;ext;refine⟨_,_,rfl,h1.rw.ob,rfl,?_⟩;ext;refine(h1.alone e1).imp ?_;rintro _ S2 ⟨rfl,h2,k2⟩;ext;exact⟨rfl,h2,k1.trans k2⟩
theorem zln(ih:zcz fu (.b u) r q)(ih':zcz fu (.b v) r' q)(hf:4*q+4<=f)(iH:op+q<=12)(hl:r.length<=2000)(mK:r'.length<=2000)(h:xV S o wss k l ms)(e:wss.drop k=r.map wd++[("else":Str)]::(r'.map wd++[("end":Str)]::rest)):
  W (ye fu f [.ref o,t,.int (op:Int)] S) λz S'=>z= .tup [.str "if",t,.tup u,.tup v]/\xV S' o wss (k+r.length+1+r'.length+1) l ms/\Kp (· =o) S S':=by
 obtain⟨f,rfl⟩:∃e,f=e+1:=⟨f-1,⋯⟩;rw[Vx];walk_at "wr";unfold Vm;ext;refine(ih f op S o wss k l ms _ ⋯ iH hl h e nofun (zau (.inl rfl))).imp ?_;rintro _ S1 ⟨rfl,h1,k1⟩;have e1:=Xx e;rw[um] at e1;ext;refine wk ?_;ext;refine⟨_,_,rfl,h1.rw.ob,rfl,?_⟩;ext;refine(h1.alone e1).imp ?_;rintro _ S2 ⟨rfl,h2,k2⟩;ext;refine(zcA ih' ⋯ iH mK h2 (Vs e1).2).imp ?_;rintro _ S3 ⟨rfl,h3,k3⟩;ext;exact⟨rfl,h3,k1.trans (k2.trans k3)⟩
noncomputable def orT:pR (pR (pR Xv))->pR (pR Xv)
 |[]=>[]
 |r::t=>w1 "or"::(r++orT t)
theorem zeE:∀{r:pR (pR Xv)} {t:pR (pR (pR Xv))},yT "or" (r::t)=r++orT t
 |r,[]=>by show r=r++[];rw[z6]
 |r,a::t=>by
  show r++w1 "or"::yT "or" (a::t)=r++w1 "or"::(a++orT t);rw[zeE]
theorem zlo:Stp ((orT rt).map wd++[("end":Str)]::rest):=by
 cases rt with
 |nil=>exact zau (.inr (.inr rfl))
 |cons r t=>exact zau (w:="or") (.inr (.inl rfl))
theorem zm6{q f op o l c:Nat}{rest:pR (pR Str)}(hf:4*q+2<=f)(iH:op+q<=12)(hc:T0.length<=c)(ho:o<T0.length)(mI:l<T0.length)(jx:∀m∈ms,m<T0.length):
  ∀(n:Nat) (ut:pR (pR Xv)) (rt:pR (pR (pR Xv))) (S:Sto) (k:Nat) (done:pR Xv),ut.length<n->ut.length=rt.length->(∀(i:Nat) u r,ut[i]? =iJ u->rt[i]? =iJ r->zcz fu (.b u) r q)->(orT rt).length<=2000->xV S o wss k l ms->wss.drop k=(orT rt).map wd++[("end":Str)]::rest->S[c]? =iJ (.lst done)->done.length+ut.length<=10->Kp (· =o) T0 S->
  WS (VI (bE (eOp zek (xX "Rows" "first_word" (zY fu) (za 0) []) (tL "or"))) (zo (yY (xX "Rows" "take_alone" (yB fu) (za 0) [tL "or"])) (yY (eMt yn (za 2) [zf (zD fu f) [za 0,za 1]]))) n [iJ (.ref o),iJ (.int (op:Int)),iJ (.ref c)] S)
   (λρ S'=>ρ=[iJ (.ref o),iJ (.int (op:Int)),iJ (.ref c)]/\S'[c]? =iJ (.lst (done++ut.map Xv.tup))/\xV S' o wss (k+(orT rt).length) l ms/\Kp (· =o) T0 S') R:=by
 intro n
 induction n with
 |zero=>intro ut rt S k done h;omega
 |succ n ih=>
  intro ut rt S k done hn hlen hR rW h e au nP kp;refine WQ ?_;ext;refine wk ?_;ext;refine⟨_,_,rfl,h.rw.ob,rfl,?_⟩;ext;cases rt with
  |nil=>
   have rJ:ut=[]:=Aa.1 hlen;subst rJ;refine(h.fw1 (w:="end") (r:=[]) e).imp ?_;rintro _ _ ⟨rfl,rfl⟩;ext;refine zel ?_;rw[decide_eq_false (show ¬(("end":Str)="or") by decide)];refine⟨_,rfl,nofun,λ_=> ?_⟩;exact⟨rfl,by rw[au,BJ,z6],h,kp⟩
  |cons r rt=>
   obtain⟨u,ut,rfl⟩:∃a t,ut=a::t:=by
    cases ut with
    |nil=>cases hlen
    |cons a t=>exact⟨a,t,rfl⟩
   have e':wss.drop k=[("or":Str)]::(r.map wd++((orT rt).map wd++[("end":Str)]::rest)):=by
    rw[e];show [("or":Str)]::(((r++orT rt).map wd)++_)=_;rw[uO,uM]
   have rV:r.length+(orT rt).length+1<=2000:=by
    have:(orT (r::rt)).length=r.length+(orT rt).length+1:=by
     show(w1 "or"::(r++orT rt)).length=_;rw[uw,ur]
    omega
   refine(h.fw1 e').imp ?_;rintro _ _ ⟨rfl,rfl⟩;ext;refine zel ?_;rw[decide_eq_true rfl];refine⟨_,rfl,λ_=> ?_,nofun⟩;ext;refine wk ?_;ext;refine⟨_,_,rfl,h.rw.ob,rfl,?_⟩;ext;refine(h.alone e').imp ?_;rintro _ S1 ⟨rfl,h1,k1⟩;have jQ:=k1.2 _ _ au (show ¬c=o by omega);have e1:=(Vs e').2;ext;refine Xf ?_;ext;refine⟨⟨_,zj jQ⟩,?_⟩;ext;refine(hR 0 u r rfl rfl f op S1 o wss _ l ms _ hf iH ⋯ h1 e1 (λz=>by simp at z) zlo).imp ?_;rintro _ S2 ⟨rfl,h2,k2⟩;have cz:=k2.2 _ _ jQ (show ¬c=o by omega);have e2:=Xx e1;rw[um] at e2;rw[uw] at nP;ext;refine xr (xa cz) (zbi ⋯) ?_;ext;have h3:xV (S2.set c (.lst (done++[.tup u]))) o wss (k+1+r.length) l ms:=⟨h2.rw.put ⋯ ⋯ (λz=>by have:=jx _ z;omega),h2.ne,λm hm=>by rw[Al];exact h2.lt m hm⟩;refine xw _ (ih ut rt _ _ (done++[.tup u]) (by rw[uw] at hn;omega) (by simpa using hlen) (λi u r a b=>hR (i+1) u r (by simpa using a) (by simpa using b)) ⋯ h3 e2 (xB cz) (by rw[ur,uF];omega) ((kp.trans (k1.trans k2)).set (.inr hc))) ?_;rintro ρ S3 ⟨rfl,a3,h4,k4⟩;refine⟨rfl,by rw[a3,uM];rfl,?_,k4⟩;have:k+(orT (r::rt)).length=k+1+r.length+(orT rt).length:=by
    have:(orT (r::rt)).length=r.length+(orT rt).length+1:=by
     show(w1 "or"::(r++orT rt)).length=_;rw[uw,ur]
    omega
   rw[this];exact h4
theorem zeF{q f op o k l:Nat}{rest:pR (pR Str)}(eh:Big fu)(h2:us.length=rss.length)(nh:2<=us.length)(ng:us.length<=10)(ih:∀(i:Nat) u r,us[i]? =iJ u->rss[i]? =iJ r->zcz fu (.b u) r q)(hf:4*q+3<=f)(iH:op+q<=12)(hl:(yT "or" rss).length<=2000)(h:xV S o wss k l ms)(e:wss.drop k=(yT "or" rss).map wd++[("end":Str)]::rest):
  W (zI fu f [.ref o,.int (op:Int)] S) λz S'=>z= .tup (us.map Xv.tup)/\xV S' o wss (k+(yT "or" rss).length+1) l ms/\Kp (· =o) S S':=by
 obtain⟨f,rfl⟩:∃e,f=e+1:=⟨f-1,⋯⟩;obtain⟨u0,u1,ut,rfl⟩:∃a b t,us=a::b::t:=by
  match us,nh with
  |a::b::t,_=>exact⟨a,b,t,rfl⟩
 obtain⟨r0,r1,rt,rfl,_⟩:=lq2 h2
 have lz:(yT "or" (r0::r1::rt)).length=r0.length+1+r1.length+(orT rt).length:=by
  rw[zeE];show(r0++w1 "or"::(r1++orT rt)).length=_;rw[ur,uw,ur];omega
 have e0:wss.drop k=r0.map wd++[("or":Str)]::(r1.map wd++((orT rt).map wd++[("end":Str)]::rest)):=by
  rw[e,zeE];show(r0++w1 "or"::(r1++orT rt)).map wd++_=_;rw[uO,uV,uO,uM,A5,uM];rfl
 have ng:ut.length+1+1<=10:=ng;rw[Yu];walk_at "wr";unfold Zh;ext;refine(ih 0 u0 r0 rfl rfl f op S o wss k l ms _ ⋯ iH ⋯ h e0 (λz=>by simp at z) (zau (.inr (.inl rfl)))).imp ?_;rintro _ S1 ⟨rfl,h1,k1⟩;have e1:=Xx e0;rw[um] at e1;ext;have a2:(S1++[Ce.lst [.tup u0]])[S1.length]? =iJ (.lst [.tup u0]):=zL;have lQ:xV (S1++[Ce.lst [.tup u0]]) o wss (k+r0.length) l ms:=h1.keep Kn.refl.app;have kk:Kp (· =o) S (S1++[Ce.lst [.tup u0]]):=k1.trans (Kp.of_kn Kn.refl.app);have ol:o<S1.length:=h1.o_lt;have ll:l<S1.length:=h1.l_lt;have ml:=h1.lt;have k0:Kp (· =o) S1 (S1++[Ce.lst [.tup u0]]):=Kp.of_kn Kn.refl.app;generalize km:S1++[Ce.lst [.tup u0]]=S2 at a2 lQ kk k0 ⊢;refine wk ?_;ext;refine⟨_,_,rfl,lQ.rw.ob,rfl,?_⟩;ext;refine(lQ.alone e1).imp ?_;rintro _ S3 ⟨rfl,h3,k3⟩;have a3:=k3.2 _ _ a2 (show ¬S1.length=o by omega);have e2:=(Vs e1).2;ext;refine Xf ?_;ext;refine⟨⟨_,zj a3⟩,?_⟩;ext;refine(ih 1 u1 r1 rfl rfl f op S3 o wss _ l ms _ ⋯ iH ⋯ h3 e2 (λz=>by simp at z) zlo).imp ?_;rintro _ S4 ⟨rfl,h4,k4⟩;have a4:=k4.2 _ _ a3 (show ¬S1.length=o by omega);have e3:=Xx e2;rw[um] at e3;ext;refine xr (xa a4) (zbi (by show 1<=100;decide)) ?_;ext;have h5:xV (S4.set S1.length (.lst ([.tup u0]++[.tup u1]))) o wss (k+r0.length+1+r1.length) l ms:=⟨h4.rw.put ⋯ ⋯ (λz=>by have:=ml _ z;omega),h4.ne,λm hm=>by rw[Al];exact h4.lt m hm⟩;refine xw _ (zca (zm6 (T0:=S1) (c:=S1.length) (rest:=rest) ⋯ iH (uv _) ol ll ml fu ut rt _ _ _ (by have:=eh.le;omega) (by simpa using h2) (λi u r a b=>ih (i+2) u r (by simpa using a) (by simpa using b)) ⋯ h5 e3 (xB a4) (by show 2+_<=10;omega) ((k0.trans (k3.trans k4)).set (.inr (uv _))))) ?_;rintro ρ S5 ⟨rfl,a5,h6,k5⟩;have e4:=Xx e3;rw[um] at e4;ext;refine wk ?_;ext;refine⟨_,_,rfl,h6.rw.ob,rfl,?_⟩;ext;refine(h6.alone e4).imp ?_;rintro _ S6 ⟨rfl,h7,k6⟩;have a6:=k6.2 _ _ a5 (show ¬S1.length=o by omega);ext;refine wz a6 ?_;refine⟨rfl,?_,k1.trans (k5.trans k6)⟩;rw[lz,show k+(r0.length+1+r1.length+(orT rt).length)+1=k+r0.length+1+r1.length+(orT rt).length+1 by omega];exact h7
theorem zm7(h0:0<=v)(h1:v<=999999999)(au:Txs S m [nt v]):W (Wi fu [.ref m] S) λr S'=>r= .int v/\Kn S S':=by
 have e:ya S (.ref m)=iJ [.str (nt v)]:=zj au;walk_at "wr";unfold ZN;refine zh (zy ?_);ext;refine xx e ?_;ext;rw[show(!decide ((([Xv.str (nt v)]:pR Xv).length:Int)=1))=nW from rfl];refine⟨nofun,λ_=>zv ?_⟩;ext;refine xo e (z:= .str (nt v)) rfl ?_;ext;exact Vp h0 h1
theorem Pg.pos(h:Pg (.d x) rows q):1<=rows.length/\∃ps rest w r,rows=ps::rest/\wd ps=w::r/\w≠"else"/\w≠"or"/\w≠"end":=by
 cases h with
 |plain h=>
  obtain⟨_,_,w,r,rfl,hw⟩:=h.pts;refine⟨uv _,_,_,w,r.map tx,rfl,rfl,?_⟩;have hw:w="pass"\/w="gain"\/w="look"\/w="set"\/w="draw":=by simpa using hw
  rcases hw with rfl|rfl|rfl|rfl|rfl<;>decide
 |nest h1=>
  obtain⟨_,_,w,r,rfl,hw⟩:=h1.pts;refine⟨by rw[uw];omega,_,_,w,r.map tx,rfl,rfl,?_⟩;have hw:w="if"\/w="while"\/w="times"\/w="hand":=by simpa using hw
  rcases hw with rfl|rfl|rfl|rfl<;>decide
theorem zf0{α:Type}:∀{l:pR (pR α)},(∀r∈l,1<=r.length)->l.length<=l.flatten.length
 |[],_=>uv _
 |a::t,h=>by
  have:=zf0 (l:=t) λr hr=>h r (uG _ hr);have:=h a (uK ..);rw[Aj,ur,uw];omega
theorem zqW(hb:(jD !=[Xv.non,.str "else",.str "or",.str "end"].any λz=>zb8 z (.str w))=b)(k:P (.bl b) S):WO (dIn jD (.str w) (.tup [.non,.str "else",.str "or",.str "end"]) S) P:=by
 refine zcd rfl rfl ?_;rw[hb];exact k
theorem zrh{w:Str}(h:w≠"else"/\w≠"or"/\w≠"end"):(jD !=[Xv.non,.str "else",.str "or",.str "end"].any λz=>zb8 z (.str w))=jD:=by
 show(jD !=(nW||(decide (Str.ofString "else"=w)||(decide (Str.ofString "or"=w)||(decide (Str.ofString "end"=w)||false)))))=jD;rw[decide_eq_false (A9 h.1),decide_eq_false (A9 h.2.1),decide_eq_false (A9 h.2.2)];rfl
theorem zpA{q f op o l kb:Nat}{rest:pR (pR Str)}{ds:pR Xv}(hf:4*q+1<=f)(iH:op+q<=12)(ho:o<T0.length)(mI:l<T0.length)(jx:∀m∈ms,m<T0.length)(h1:ds.length=rss.length)(hp:∀(i:Nat) x r,ds[i]? =iJ x->rss[i]? =iJ r->Pg (.d x) r q)(ih:∀(i:Nat) x r,ds[i]? =iJ x->rss[i]? =iJ r->zcz fu (.d x) r q)
  (hl:rss.flatten.length<=2000) (hlen:ds.length<=2000) (e:wss.drop kb=rss.flatten.map wd++rest) (oN:rest=[]->kb<=wss.length) (gL:Stp rest):
  ∀(n i:Nat) (S:Sto),ds.length-i<n->i<=ds.length->xV S o wss (kb+(rss.take i).flatten.length) l ms->S[T0.length]? =iJ (.lst (ds.take i))->Kp (· =o) T0 S->
  WS (VI (bE (eOp (dIn jD) (xX "Rows" "first_word" (zY fu) (za 0) []) (yS [eC .non,tL "else",tL "or",tL "end"]))) (yY (eMt yn (za 2) [zf (zT fu f) [za 0,za 1]])) n [iJ (.ref o),iJ (.int (op:Int)),iJ (.ref T0.length)] S)
   (λρ S'=>ρ=[iJ (.ref o),iJ (.int (op:Int)),iJ (.ref T0.length)]/\S'[T0.length]? =iJ (.lst ds)/\xV S' o wss (kb+rss.flatten.length) l ms/\Kp (· =o) T0 S') R:=by
 intro n
 induction n with
 |zero=>intro i S h;omega
 |succ n rk=>
  intro i S hn hi h au kp;have ei:wss.drop (kb+(rss.take i).flatten.length)=(rss.drop i).flatten.map wd++rest:=by
   have e':wss.drop kb=(rss.take i).flatten.map wd++((rss.drop i).flatten.map wd++rest):=by
    rw[e,<-uM,<-uO,<-Ao,Bo]
   have:=Xx e';rwa [um] at this
  refine WQ ?_;ext;refine wk ?_;ext;refine⟨_,_,rfl,h.rw.ob,rfl,?_⟩;ext;by_cases m5:i<ds.length
  .have mO:i<rss.length:=by omega
   have ed:=uo m5;have er:=uo mO;obtain⟨ub,ps,rr,w,r,mz,hw,fj⟩:=(hp i _ _ ed er).pos;have ei':wss.drop (kb+(rss.take i).flatten.length)=rss[i].map wd++((rss.drop (i+1)).flatten.map wd++rest):=by
    rw[ei,Ax mO,Aj,uO,uM]
   have tF:wss.drop (kb+(rss.take i).flatten.length)=(w::r)::(rr.map wd++((rss.drop (i+1)).flatten.map wd++rest)):=by
    rw[ei',mz,uV,hw];rfl
   have hle:=zib er;refine(h.fw1 tF).imp ?_;rintro _ _ ⟨rfl,rfl⟩;ext;refine zqW (zrh fj) ?_;refine⟨_,rfl,λ_=> ?_,nofun⟩;ext;refine Xf ?_;ext;refine⟨⟨_,zj au⟩,?_⟩;ext;refine(ih i _ _ ed er f op S o wss _ l ms _ hf iH ⋯ h ei').imp ?_;rintro _ S2 ⟨rfl,h2,k2⟩;have cz:=k2.2 _ _ au (show ¬T0.length=o by omega);ext;refine xr (xa cz) (by rw[z4];exact szM ⋯) ?_;ext;have e3:(rss.take (i+1)).flatten.length=(rss.take i).flatten.length+rss[i].length:=by rw[w9 mO,Ao,ur];simp
   refine rk (i+1) _ ⋯ ⋯ ?_ ?_ ((kp.trans k2).set (.inr (uv _)))
   .rw[e3,<-C3];exact⟨h2.rw.put ⋯ ⋯ (λz=>by have:=jx _ z;omega),h2.ne,λm hm=>by rw[Al];exact h2.lt m hm⟩
   .rw[xB cz,w9 m5]
  .obtain rfl:i=ds.length:=by omega
   rw[z8] at au;rw[h1,z8] at h;rw[h1,z8,Bu,List.flatten_nil,BJ,BG] at ei;have fin:([iJ (Xv.ref o),iJ (.int (op:Int)),iJ (.ref T0.length)]:Rho)=[iJ (.ref o),iJ (.int (op:Int)),iJ (.ref T0.length)]/\S[T0.length]? =iJ (.lst ds)/\xV S o wss (kb+rss.flatten.length) l ms/\Kp (· =o) T0 S:=⟨rfl,au,h,kp⟩;cases rest with
   |nil=>
    have:wss.length=kb+rss.flatten.length:=by
     have h3:=congrArg BX e;rw[AJ,z6,um] at h3;have:=oN rfl;omega
    refine(h.fw0 this).imp ?_;rintro _ _ ⟨rfl,rfl⟩;ext;show WO (dIn jD .non (.tup [.non,.str "else",.str "or",.str "end"]) S) _;refine zcd rfl rfl ?_;rw[show(jD !=[Xv.non,.str "else",.str "or",.str "end"].any λz=>zb8 z .non)=nW from rfl];exact⟨_,rfl,nofun,λ_=>fin⟩
   |cons ws t=>
    cases ws with
    |nil=>
     have:[]∈wss:=x8 (Vs ei).1;exact absurd rfl (h.ne _ this)
    |cons w r=>
     refine(h.fw1 ei).imp ?_;rintro _ _ ⟨rfl,rfl⟩;ext;refine zqW (b:=nW) ?_ ⟨_,rfl,nofun,λ_=>fin⟩;rcases gL w r t rfl with rfl|rfl|rfl<;>rfl
theorem zm8{kd:Kd}{q:Nat}(eh:Big fu)(h:Pg kd rows q):zcz fu kd rows q:=by
 induction h with
 | @plain x ps q hp=>
  intro f op S o wss k l ms rest hf iH hl h e;obtain⟨f,rfl⟩:∃e,f=e+1:=⟨f-1,⋯⟩;obtain⟨sd,_,w,r,rfl,hw⟩:=hp.pts;rw[Zi];walk_at "wr";unfold Zg;ext;refine wk ?_;ext;refine⟨_,_,rfl,h.rw.ob,rfl,?_⟩;ext;refine(h.take e).imp ?_;rintro _ S1 ⟨m,rfl,hm,h1,k1⟩;ext;refine xo (zj hm) (z:= .str w) (vc ∅ rfl) ?_;ext;refine zy ?_;ext;refine in4 ?_
  rw[decide_eq_false (show ¬ (w = "if" \/ w = "while" \/ w = "times" \/ w = "hand") from λq => by
   have hw:w="pass"\/w="gain"\/w="look"\/w="set"\/w="draw":=by simpa using hw
   rcases hw with rfl|rfl|rfl|rfl|rfl<;>exact absurd q ∅)]
  refine⟨_,rfl,λ_=> ?_,nofun⟩;ext;refine VP (zj hm) ?_;rw[show L2.XX ((wd (Xv.str w::r)).map Xv.str) (iJ 1) jr=(r.map tx).map Xv.str from Xw _ 1];ext;refine(zfX hp zL).imp ?_;rintro _ S2 ⟨rfl,k2⟩;have kk:Kn S1 S2:=Kn.refl.app.trans k2;exact⟨rfl,h1.keep kk,k1.trans (Kp.of_kn kk)⟩
 | @nest x us rss hd bw q hx h2 _ ih=>
  intro f op S o wss k l ms rest hf iH hl h e;obtain⟨f,rfl⟩:∃e,f=e+1:=⟨f-1,⋯⟩;obtain⟨sd,_,w,r,rfl,hw⟩:=hx.pts;have hlen:((Xv.str w::r)::(yT bw rss++[w1 "end"])).length=(yT bw rss).length+1+1:=by rw[uw,ur];rfl
  rw[hlen] at hl ⊢;have e0:wss.drop k=wd (Xv.str w::r)::((yT bw rss).map wd++[("end":Str)]::rest):=by
   rw[e,uV,uO,A5,uM];rfl
  rw[Zi];walk_at "wr";unfold Zg;ext;refine wk ?_;ext;refine⟨_,_,rfl,h.rw.ob,rfl,?_⟩;ext;refine(h.take e0).imp ?_;rintro _ S1 ⟨m,rfl,hm,h1,k1⟩;have e1:=(Vs e0).2;ext;refine xo (zj hm) (z:= .str w) (vc ∅ rfl) ?_;ext;refine zy ?_;ext;refine in4 ?_;rw[zrg hw];refine⟨_,rfl,nofun,λ_=>zv ?_⟩;refine zh (zy ?_);ext;refine yu (λz=>absurd z ⋯) (λ_=>zv ?_);have no:∀{w v:Str} {a b:TwS} {N:Rho->Sto->Prop} {R:Xv->Sto->Prop},w≠v->WS (b [iJ (.ref o),iJ (.int (op:Int)),iJ (.ref m),iJ (.str w)] S1) N R->WS (sIf (bE (eOp (yz nW) (za 3) (eC (.str v)))) a b [iJ (.ref o),iJ (.int (op:Int)),iJ (.ref m),iJ (.str w)] S1) N R:=by
   intro w v a b N R h k;refine zy ?_;ext;exact yy h ⟨_,rfl,nofun,λ_=>k⟩
  have cut:∀{P:Xv->Sto->Prop},(∀m2 S2,Txs S2 m2 (r.map tx)->Kn S1 S2->P (.ref m2) S2)->WO (Yy (.ref m) (iJ 1) jr S1) P:=by
   intro P k;refine VP (zj hm) ?_;rw[show L2.XX ((wd (Xv.str w::r)).map Xv.str) (iJ 1) jr=(r.map tx).map Xv.str from Xw _ 1];exact k _ _ zL Kn.refl.app
  have ek:k+((yT bw rss).length+1+1)=k+1+(yT bw rss).length+1:=by omega
  rw[ek];generalize ja:Xv.str w::r=ps at hx;cases hx with
  | @cond a b s u v hs ha hb=>
   obtain⟨e2,rfl⟩:=x9 ja;cases e2;obtain⟨r1,r2,rfl⟩:=lq3 h2
   have ji:(yT "else" [r1,r2]).length=r1.length+1+r2.length:=by
    show(r1++w1 "else"::r2).length=_;rw[ur,uw];omega
   refine zh (zy ?_);ext;refine yg ⟨_,rfl,λ_=> ?_,nofun⟩;ext;refine cut λm2 S2 kh k2=> ?_;ext;refine(Ts ha hb hs kh).imp ?_;rintro _ S3 ⟨rfl,k3⟩;ext;have h3:xV S3 o wss (k+1) l ms:=h1.keep (k2.trans k3);have e3:wss.drop (k+1)=r1.map wd++[("else":Str)]::(r2.map wd++[("end":Str)]::rest):=by
    rw[e1];show(r1++w1 "else"::r2).map wd++_=_;rw[uO,uV,uM,A5];rfl
   refine(zln (op:=op+1) (ih 0 u r1 rfl rfl) (ih 1 v r2 rfl rfl) ⋯ ⋯ ⋯ ⋯ h3 e3).imp ?_;rintro _ S4 ⟨rfl,h4,k4⟩;refine⟨rfl,?_,k1.trans ((Kp.of_kn (k2.trans k3)).trans k4)⟩;rw[ji,show k+1+(r1.length+1+r2.length)+1=k+1+r1.length+1+r2.length+1 by omega];exact h4
  | @whil a b s u hs ha hb=>
   obtain⟨e2,rfl⟩:=x9 ja;cases e2;obtain⟨r1,rfl⟩:=lq1 h2
   have hl:r1.length+1+1<=2000:=hl;refine zh (no ∅ (zv (zh (zy ?_))));ext;refine yg ⟨_,rfl,λ_=> ?_,nofun⟩;ext;refine cut λm2 S2 kh k2=> ?_;ext;refine(Ts ha hb hs kh).imp ?_;rintro _ S3 ⟨rfl,k3⟩;ext;refine(zcA (op:=op+1) (ih 0 u r1 rfl rfl) ⋯ ⋯ ⋯ (h1.keep (k2.trans k3)) e1).imp ?_;rintro _ S4 ⟨rfl,h4,k4⟩;ext;exact⟨rfl,h4,k1.trans ((Kp.of_kn (k2.trans k3)).trans k4)⟩
  | @times j u h0 h9=>
   obtain⟨e2,rfl⟩:=x9 ja;cases e2;obtain⟨r1,rfl⟩:=lq1 h2
   have hl:r1.length+1+1<=2000:=hl;refine zh (no ∅ (zv (zh (no ∅ (zv (zh (zy ?_)))))));ext;refine yg ⟨_,rfl,λ_=> ?_,nofun⟩;ext;refine cut λm2 S2 kh k2=> ?_;ext;refine(zm7 h0 h9 kh).imp ?_;rintro _ S3 ⟨rfl,k3⟩;ext;refine(zcA (op:=op+1) (ih 0 u r1 rfl rfl) ⋯ ⋯ ⋯ (h1.keep (k2.trans k3)) e1).imp ?_;rintro _ S4 ⟨rfl,h4,k4⟩;ext;exact⟨rfl,h4,k1.trans ((Kp.of_kn (k2.trans k3)).trans k4)⟩
  | @hand us nh ng=>
   obtain⟨e2,rfl⟩:=x9 ja;cases e2;refine zh (no ∅ (zv (zh (no ∅ (zv (zh (no ∅ (zv ?_))))))));refine zh (zy ?_);ext;refine xx (zj hm) ?_;ext;refine⟨λz=>absurd (show(!decide (((1:Nat):Int)=1))=jD from z) ∅,λ_=>zv ?_⟩;ext;refine(zeF (op:=op+1) eh h2 nh ng ih ⋯ ⋯ ⋯ h1 e1).imp ?_;rintro _ S4 ⟨rfl,h4,k4⟩;ext;exact⟨rfl,h4,k1.trans k4⟩
 | @blk ds rss q h1 hp ih=>
  intro f op S o wss k l ms rest hf iH hl h e oN gL;obtain⟨f,rfl⟩:∃e,f=e+1:=⟨f-1,⋯⟩;have hlen:ds.length<=2000:=by
   have:=zf0 (l:=rss) λr hr=>by
    obtain⟨i,hi,rfl⟩:=B2.1 hr;exact(hp i _ _ (uo ⋯) (uo hi)).pos.1
   omega
  rw[Xr];walk_at "wr";unfold ZO;ext;have h':xV (S++[Ce.lst []]) o wss k l ms:=h.keep Kn.refl.app;refine xw _ (zca (zpA (T0:=S) (rest:=rest) ⋯ iH h.o_lt h.l_lt h.lt h1 hp ih hl hlen e oN gL fu 0 _ (by have:=eh.le;omega) (uZ _) h' zL (Kp.of_kn Kn.refl.app))) ?_;rintro ρ S3 ⟨rfl,au,h3,k3⟩;ext;refine wz au ?_;exact⟨rfl,h3,k3⟩
noncomputable def zcB:pR (pR (pR Xv))->Nat
 |[]=>0
 |r::t=>r.length+1+zcB t
theorem zdK(r:pR (pR Xv)):∀l:pR (pR (pR Xv)),zcB (l++[r])=zcB l+(r.length+1)
 |[]=>by simp[zcB]
 |a::t=>by
  show a.length+1+zcB (t++[r])=a.length+1+zcB t+(r.length+1);rw[zdK r t];omega
theorem zie:∀l:pR (pR (pR Xv)),(yT b l).length<=zcB l/\(l≠[]->(yT b l).length+1<=zcB l)
 |[]=>⟨uv _,λh=>absurd rfl h⟩
 |[a]=>⟨by show a.length<=a.length+1+0;omega,λ_=>uv _⟩
 |a::c::t=>by
  have:=(zie (b:=b) (c::t)).2 (by intro q;cases q);have e:(yT b (a::c::t)).length=a.length+((yT b (c::t)).length+1):=by
   show(a++w1 b::yT b (c::t)).length=_;rw[ur,uw]
  have e2:zcB (a::c::t)=a.length+1+zcB (c::t):=rfl;exact⟨⋯,λ_=>by omega⟩
def GB(bs:pR (Str×Int))(l:pR Xv)(q c:Nat):Prop:=∃n q' c' rows,Tr bs (.b l) n q' jD c'/\q'<=q/\c'<=c/\Pg (.b l) rows q/\rows.length+1<=c
def GD(bs:pR (Str×Int))(x:Xv)(q c:Nat):Prop:=∃n q' c' rows,Tr bs (.d x) n q' jD c'/\q'<=q/\c'<=c/\Pg (.d x) rows q/\rows.length<=c
def GS(bs:pR (Str×Int))(us:pR (pR Xv))(q c:Nat):Prop:=∃n q' c' rss,Tr bs (.s us) n q' jD c'/\q'<=q/\c'<=c/\us.length=rss.length/\(∀(i:Nat) u r,us[i]? =iJ u->rss[i]? =iJ r->Pg (.b u) r q)/\zcB rss<=c
theorem Tr.app(hr:Tr bs (.b r) m p h e):∀{l:pR Xv} {n:Int} {q c:Nat} {g:Bool},Tr bs (.b l) n q g c->∃c',c'+1=c+e/\Tr bs (.b (l++r)) (n+m) (max q p) (g&&h) c':=by
 intro l
 induction l with
 |nil=>
  intro n q c g hl;cases hl;refine⟨e,⋯,?_⟩;rw[C8,Nat.zero_max,As];exact hr
 |cons x l ih=>
  intro n q c g hl;cases hl with
  | @cons _ _ n1 m1 q1 p1 c1 e1 g1 h1 t1 t2=>
   obtain⟨c',hc,t3⟩:=ih t2;refine⟨c1+c',⋯,?_⟩;have:=Tr.cons t1 t3;rw[<-Df,<-Ed,<-Bp] at this;exact this
theorem Tr.one(h:Tr bs (.d x) n q g c):Tr bs (.b [x]) n q g (c+1):=by
 have:=Tr.cons h .nil;rw[Int.add_zero,Nat.max_zero,Bw] at this;exact this
theorem Tr.snoc(hl:Tr bs (.b l) n q g c)(hx:Tr bs (.d x) m p h e):Tr bs (.b (l++[x])) (n+m) (max q p) (g&&h) (c+e):=by
 obtain⟨c',hc,t⟩:=Tr.app hx.one hl;obtain rfl:c'=c+e:=by omega
 exact t
theorem Tr.snocs(hu:Tr bs (.b u) m p h e):∀{us:pR (pR Xv)} {n:Int} {q c:Nat} {g:Bool},Tr bs (.s us) n q g c->Tr bs (.s (us++[u])) (n+m) (max q p) (g&&h) (c+e):=by
 intro us
 induction us with
 |nil=>
  intro n q c g hl;cases hl;have:=Tr.conss hu .nils;rw[Int.add_zero,Nat.max_zero,Bw,Nat.add_zero] at this;rw[C8,Nat.zero_max,As,CH];exact this
 |cons x l ih=>
  intro n q c g hl;cases hl with
  | @conss _ _ n1 m1 q1 p1 c1 e1 g1 h1 t1 t2=>
   have:=Tr.conss t1 (ih t2);rw[<-Df,<-Ed,<-Bp,<-C3] at this;exact this
theorem GB.nil:GB bs [] q 1:=⟨0,0,1,[],.nil,uZ _,uv _,.nil,uv _⟩
theorem GB.snoc(h:GB bs l q c)(g:GD bs x q e):GB bs (l++[x]) q (c+e):=by
 obtain⟨n,q1,c1,r1,t1,a1,b1,p1,d1⟩:=h;obtain⟨m,q2,c2,r2,t2,a2,b2,p2,d2⟩:=g;exact⟨_,_,_,_,t1.snoc t2,D9.2 ⟨a1,a2⟩,DZ b1 b2,p1.snoc p2,by rw[ur];omega⟩
theorem GS.nil:GS bs [] q 0:=⟨0,0,0,[],.nils,uZ _,uv _,rfl,λi u r h=>by simp at h,uv _⟩
theorem GS.snoc(h:GS bs us q c)(g:GB bs u q e):GS bs (us++[u]) q (c+e):=by
 obtain⟨n,q1,c1,rss,t1,a1,b1,hl,p1,d1⟩:=h;obtain⟨m,q2,c2,r2,t2,a2,b2,p2,d2⟩:=g;refine⟨_,_,_,rss++[r2],Tr.snocs t2 t1,D9.2 ⟨a1,a2⟩,DZ b1 b2,by rw[ur,ur,hl];rfl,λi v r h1 h2=> ?_,by rw[zdK];omega⟩;by_cases hi:i<us.length
 .rw[uB hi] at h1;rw[uB ⋯] at h2;exact p1 i v r h1 h2
 .have:=(uq.1 h1).1;rw[ur,uF] at this;obtain rfl:i=us.length:=by omega
  rw[uL (uv _),B9] at h1;rw[uL ⋯,show us.length-rss.length=0 by omega] at h2;cases h1;cases h2;exact p2
theorem GB.s1(h:GB bs u q c):GS bs [u] q c:=by
 have:=GS.nil.snoc h;rw[CH] at this;exact this
theorem GS.deed{us:pR (pR Xv)}(h:GS bs us q c)(nd:Nd x us tk jD)(ow:Own bs x jD)(nx:Nx x us hd bw):GD bs x (1+q) (c+1):=by
 obtain⟨n,q1,c1,rss,t1,a1,b1,hl,p1,d1⟩:=h;refine⟨_,_,_,_,Tr.deed nd ow t1,by rw[if_pos rfl];omega,Bv b1,by rw[Bn];exact .nest nx hl p1,?_⟩;have fj:rss≠[]:=by
  intro q;rw[q] at hl;have hl:us.length=0:=hl;cases nx with
  |hand h2 _=>omega
  |_=>cases hl
 have:=(zie (b:=bw) rss).2 fj;rw[uw,ur,uF];omega
theorem GD.mono(h:GD bs x q c)(hq:q<=q2)(hc:c<=c2):GD bs x q2 c2:=by
 obtain⟨n,q1,c1,r,t1,a1,b1,p,d⟩:=h;exact⟨n,q1,c1,r,t1,⋯,⋯,p.mono hq,⋯⟩
theorem GB.mono(h:GB bs l q c)(hq:q<=q2)(hc:c<=c2):GB bs l q2 c2:=by
 obtain⟨n,q1,c1,r,t1,a1,b1,p,d⟩:=h;exact⟨n,q1,c1,r,t1,⋯,⋯,p.mono hq,⋯⟩
theorem GS.mono(h:GS bs l q c)(hq:q<=q2)(hc:c<=c2):GS bs l q2 c2:=by
 obtain⟨n,q1,c1,r,t1,a1,b1,hl,p,d⟩:=h;exact⟨n,q1,c1,r,t1,⋯,⋯,hl,λi u r a b=>(p i u r a b).mono hq,⋯⟩
def zif(fu:Nat)(ns:pR Int)(bs:pR (Str×Int))(stop q:Nat):Prop:=∀f,3*q+2<=f->∀(S:Sto) (k:Nat),Sc ns S->k<=stop->W (yf fu f [.ref 0,.int (k:Int),.tup (bs.map yx),.int (q:Int),.int (stop:Int)] S) λv S'=>∃(l:pR Xv) (k':Nat),v= .tup [.tup l,.int (k':Int)]/\k<=k'/\k'<=stop/\GB bs l q (12*(k'-k)+1)/\Kn S S'
def zcC(fu:Nat)(ns:pR Int)(bs:pR (Str×Int))(stop q:Nat):Prop:=∀f,3*q+1<=f->∀(S:Sto) (k:Nat),Sc ns S->k<stop->W (zZ fu f [.ref 0,.int (k:Int),.tup (bs.map yx),.int (q:Int),.int (stop:Int)] S) λv S'=>∃(x:Xv) (k':Nat),v= .tup [x,.int (k':Int)]/\k<k'/\k'<=stop/\GD bs x q (12*(k'-k))/\Kn S S'
def zqX(fu:Nat)(ns:pR Int)(bs:pR (Str×Int))(stop q:Nat):Prop:=∀f,3*q<=f->∀(S:Sto) (k:Nat),Sc ns S->k<stop->W (yo fu f [.ref 0,.int (k:Int),.tup (bs.map yx),.int (q:Int),.int (stop:Int)] S) λv S'=>∃(x:Xv) (k':Nat),v= .tup [x,.int (k':Int)]/\k<k'/\k'<=stop/\GD bs x q (12*(k'-k))/\Kn S S'
theorem zpB(jk:stop<=63)(hB:zif fu ns bs stop q):zqX fu ns bs stop (q+1):=by
 intro f hf S k hs hk;obtain⟨f,rfl⟩:∃e,f=e+1:=⟨f-1,⋯⟩;rw[XO];walk_at "wr";unfold Zl;ext;refine(yZ hs ⟨⋯,⋯⟩ ∅ ∅).imp ?_;rintro _ _ ⟨rfl,m0,m1,rfl⟩;ext;refine xw (λρ S2=>∃m:Nat,ρ=[iJ (.ref 0),iJ (.int (k:Int)),iJ (.tup (bs.map yx)),iJ (.int ((q+1:Nat):Int)),iJ (.int (stop:Int)),iJ (.int (m:Int)),jr,jr,jr,jr]/\2<=m/\m<=8/\S2=S) (zy ?_) ?_
 .ext;refine(yZ hs ⟨⋯,⋯⟩ ∅ ∅).imp ?_;rintro _ _ ⟨rfl,_,_,rfl⟩;ext;refine yu (λh=> ?_) (λh=> ?_)
  .ext;exact⟨∅,∅,rfl⟩
  .ext;obtain⟨c,hc⟩:∃c:Nat,wb ns k 10193 3=c:=⟨(wb ns k 10193 3).toNat,⋯⟩;rw[hc] at m0 m1 ⊢;exact⟨2+c,by rw[AV];rfl,⋯,⋯,rfl⟩
 rintro ρ S2 ⟨m,rfl,kh,tX,rfl⟩;ext;refine Ym (zcb ?_);ext;refine⟨⟨⋯,⋯⟩,_,rfl,?_⟩;refine ZD (λi ρ S3=>∃(us:pR (pR Xv)) (k':Nat) (a8 a9:pT Xv),ρ=[iJ (.ref 0),iJ (.int (k:Int)),iJ (.tup (bs.map yx)),iJ (.int ((q+1:Nat):Int)),iJ (.int (stop:Int)),iJ (.int (m:Int)),iJ (.ref S2.length),iJ (.int (k':Int)),a8,a9]/\us.length=i/\k<k'/\k'<=stop/\GS bs us q (12*(k'-k-1)+i)/\S3[S2.length]? =iJ (.lst (us.map Xv.tup))/\Kn S2 S3) (λ_ _ _ _ _=>rfl) ?_ ?_ ?_
 .rintro i w ρ S3 hw ⟨us,k',a8,a9,rfl,oF,qB,ki,hG,au,kn⟩;obtain⟨hi,rfl⟩:=UA hw;refine .of rfl ?_;dsimp only[y7];refine zh (VN ?_);ext;rw[show((q+1:Nat):Int)-1=(q:Int) by omega];refine(hB f ⋯ S3 k' (hs.keep kn) ki).imp ?_;rintro _ S4 ⟨l,k2,rfl,g1,g2,gB,k4⟩;refine .of rfl ?_;dsimp only[y7];ext;refine Xf ?_;ext;refine⟨⟨_,zj (k4.at au)⟩,?_⟩;ext;refine xr (xa (k4.at au)) (by rw[um];exact zbi ⋯) ?_;ext;refine⟨us++[l],k2,_,_,rfl,by rw[ur,oF];rfl,⋯,g2,(hG.snoc gB).mono (uv _) ⋯,?_,(kn.trans k4).set (.inr (uv _))⟩;rw[xB (k4.at au),uO];rfl
 .refine⟨[],k+1,jr,jr,?_,rfl,⋯,⋯,GS.nil.mono (uv _) (uZ _),zL,Kn.refl.app⟩;rw[AV];rfl
 .rintro ρ S3 ⟨us,k',a8,a9,rfl,oF,qB,ki,hG,au,kn⟩;rw[vH,A7] at oF hG;ext;refine wz au ?_;ext;refine⟨_,k',rfl,qB,ki,?_,kn⟩;have ow:=Own.hand (us:=us.map Xv.tup) (by rw[um];omega) (bs:=bs);rw[um,decide_eq_true (show 2<=us.length/\us.length<=8 from ⟨⋯,⋯⟩)] at ow;exact(hG.deed .hand ow (.hand ⋯ ⋯)).mono ⋯ ⋯
theorem zlp(jk:stop<=63)(lM:Xz 1000 bs)(hB:∀p,q=p+1->zif fu ns bs stop p):zcC fu ns bs stop q:=by
 intro f hf S k hs hk;obtain⟨f,rfl⟩:∃e,f=e+1:=⟨f-1,⋯⟩;rw[XN];walk_at "wr";unfold Zk;ext;refine(yZ hs ⟨⋯,⋯⟩ ∅ ∅).imp ?_;rintro _ _ ⟨rfl,w0,w1,rfl⟩;generalize wb ns k 10187 11=w at w0 w1;ext;have plain:WS (zJ (yS [zf (vj fu) [za 0,za 1,za 2],eOp xk (za 1) (q8 1)]) [iJ (.ref 0),iJ (.int (k:Int)),iJ (.tup (bs.map yx)),iJ (.int (q:Int)),iJ (.int (stop:Int)),iJ (.int w),jr,jr,jr,jr] S) (λ_ _=>False) (λv S'=>∃(x:Xv) (k':Nat),v= .tup [x,.int (k':Int)]/\k<k'/\k'<=stop/\GD bs x q (12*(k'-k))/\Kn S S'):=by
  ext;refine(zm4 hs ⟨⋯,⋯⟩ lM).imp ?_;rintro x S2 ⟨tr,k2⟩;ext;obtain⟨⟨ps,hp⟩,tr⟩:=tr;exact⟨x,k+1,rfl,⋯,⋯,⟨1,0,1,[ps],tr,uZ _,⋯,.plain hp,by show 1<=_;omega⟩,k2⟩
 have plain:∀{N:Rho->Sto->Prop},WS (zJ (yS [zf (vj fu) [za 0,za 1,za 2],eOp xk (za 1) (q8 1)]) [iJ (.ref 0),iJ (.int (k:Int)),iJ (.tup (bs.map yx)),iJ (.int (q:Int)),iJ (.int (stop:Int)),iJ (.int w),jr,jr,jr,jr] S) N (λv S'=>∃(x:Xv) (k':Nat),v= .tup [x,.int (k':Int)]/\k<k'/\k'<=stop/\GD bs x q (12*(k'-k))/\Kn S S'):=by
  intro N;rcases plain with⟨_,_,_,h⟩|h
  .exact h.elim
  .exact .inr h
 refine zy (Zu ?_);ext;refine yu (λh=>⟨λ_=>plain,nofun⟩) (λh=> ?_);ext;refine yu (λh=>plain) (λh2=> ?_);obtain⟨p,rfl⟩:∃p,q=p+1:=⟨q-1,⋯⟩;have pJ:=hB p rfl;have e1:((p+1:Nat):Int)-1=(p:Int):=by omega
 refine zv ?_;refine zh (zy ?_);ext;refine yu (λh3=> ?_) (λh3=>zv ?_)
 .ext;exact zpB jk pJ f ⋯ S k hs hk
 refine zh (VN ?_);ext;rw[e1,show(k:Int)+1=((k+1:Nat):Int) by omega];refine(pJ f ⋯ S (k+1) hs ⋯).imp ?_;rintro _ S2 ⟨l,k2,rfl,g1,g2,gB,iV⟩;refine .of rfl ?_;dsimp only[y7];have ji:=hs.keep iV;refine zh (zy ?_);ext;refine yu (λh4=> ?_) (λh4=>zv ?_)
 .ext;refine(zg5 (bs:=bs) ji ⟨⋯,⋯⟩).imp ?_;rintro _ _ ⟨⟨a,b,s,rfl,jK,ha,hb⟩,rfl⟩;ext;have ow:=Own.whil (s:=s) (u:= .tup l) ha.1 hb.1 (bs:=bs);rw[ha.2,hb.2] at ow;exact⟨_,k2,rfl,⋯,g2,(gB.s1.deed .whil ow (.whil jK (ha.so lM) (hb.so lM))).mono ⋯ ⋯,iV⟩
 refine zh (zy ?_);ext;refine yu (λh5=> ?_) (λh5=>zv ?_)
 .ext;refine(yZ ji ⟨⋯,⋯⟩ ∅ ∅).imp ?_;rintro _ _ ⟨rfl,d0,d1,rfl⟩;ext;refine xw (λρ S3=>∃j:Int,ρ=[iJ (.ref 0),iJ (.int (k:Int)),iJ (.tup (bs.map yx)),iJ (.int ((p+1:Nat):Int)),iJ (.int (stop:Int)),iJ (.int w),iJ (.tup l),iJ (.int (k2:Int)),iJ (.int j),jr]/\0<=j/\j<=60/\S3=S2) (zy ?_) ?_
  .ext;refine(yZ ji ⟨⋯,⋯⟩ ∅ ∅).imp ?_;rintro _ _ ⟨rfl,_,_,rfl⟩;ext;refine yu (λh6=> ?_) (λh6=> ?_)
   .ext;refine(yZ ji ⟨⋯,⋯⟩ ∅ ∅).imp ?_;rintro _ _ ⟨rfl,c0,c1,rfl⟩;ext;exact⟨c0,⋯,rfl⟩
   .ext;exact⟨d0,⋯,rfl⟩
  rintro ρ S3 ⟨j,rfl,j0,j1,rfl⟩;ext;have ow:=Own.times (k:=j) (u:= .tup l) (bs:=bs);rw[decide_eq_true ⟨j0,j1⟩] at ow;exact⟨_,k2,rfl,⋯,g2,(gB.s1.deed .times ow (.times j0 ⋯)).mono ⋯ ⋯,iV⟩
 refine zh (VN ?_);ext;rw[e1];refine(pJ f ⋯ S2 k2 ji g2).imp ?_;rintro _ S3 ⟨l2,k3,rfl,g3,g4,tm,qa⟩;refine .of rfl ?_;dsimp only[y7];ext;refine(zg5 (bs:=bs) (ji.keep qa) ⟨⋯,⋯⟩).imp ?_;rintro _ _ ⟨⟨a,b,s,rfl,jK,ha,hb⟩,rfl⟩;ext;have ow:=Own.cond (s:=s) (u:= .tup l) (w:= .tup l2) ha.1 hb.1 (bs:=bs);rw[ha.2,hb.2] at ow;exact⟨_,k3,rfl,⋯,g4,((gB.s1.snoc tm).deed .cond ow (.cond jK (ha.so lM) (hb.so lM))).mono ⋯ ⋯,iV.trans qa⟩
theorem zlq(jk:stop<=63)(hf:3*q+1<=f)(hD:zcC fu ns bs stop q)(my:Sc ns T0):∀(m:Nat) (k:Nat) (g:Bool) (l:pR Xv) (a7:pT Xv) (S:Sto),stop-k<m->k0<=k->k<=stop->GB bs l q (12*(k-k0)+1)->l.length<=k-k0->S[T0.length]? =iJ (.lst l)->Kn T0 S->
  WS (VI (Wt (bE (za 6)) (bE (eOp dLt (za 1) (za 4)))) (zo (zH (eOp dGt (zf (zk fu) [za 0,za 1,q8 10247,q8 3]) (q8 0)) (gN 6)) (zo (zH (zf (zZ fu f) [za 0,za 1,za 2,za 3,za 4]) (gT 2 (xf (gN 7) (xf (gN 1) XF)))) (yY (eMt yn (za 5) [za 7])))) m [iJ (.ref 0),iJ (.int (k:Int)),iJ (.tup (bs.map yx)),iJ (.int (q:Int)),iJ (.int (stop:Int)),iJ (.ref T0.length),iJ (.bl g),a7] S)
   (λρ S'=>∃(l:pR Xv) (k':Nat) (g:Bool) (a7:pT Xv),ρ=[iJ (.ref 0),iJ (.int (k':Int)),iJ (.tup (bs.map yx)),iJ (.int (q:Int)),iJ (.int (stop:Int)),iJ (.ref T0.length),iJ (.bl g),a7]/\k0<=k'/\k'<=stop/\GB bs l q (12*(k'-k0)+1)/\S'[T0.length]? =iJ (.lst l)/\Kn T0 S') R:=by
 intro m
 induction m with
 |zero=>intro k g l a7 S h;omega
 |succ m ih=>
  intro k g l a7 S hm sE p5 hG hl au kn;have stopN:(λρ S'=>∃(l:pR Xv) (k':Nat) (g:Bool) (a7:pT Xv),ρ=[iJ (.ref 0),iJ (.int (k':Int)),iJ (.tup (bs.map yx)),iJ (.int (q:Int)),iJ (.int (stop:Int)),iJ (.ref T0.length),iJ (.bl g),a7]/\k0<=k'/\k'<=stop/\GB bs l q (12*(k'-k0)+1)/\S'[T0.length]? =iJ (.lst l)/\Kn T0 S') [iJ (.ref 0),iJ (.int (k:Int)),iJ (.tup (bs.map yx)),iJ (.int (q:Int)),iJ (.int (stop:Int)),iJ (.ref T0.length),iJ (.bl g),a7] S:=⟨l,k,g,a7,rfl,sE,p5,hG,au,kn⟩;refine WQ (xH ?_);ext;refine⟨λhg=> ?_,λhg=>⟨nofun,λ_=>stopN⟩⟩;ext;refine yu (λjy=> ?_) (λjy=>stopN);have jy:k<stop:=by omega
  have hs:=my.keep kn;ext;refine(yZ hs ⟨⋯,⋯⟩ ∅ ∅).imp ?_;rintro _ _ ⟨rfl,_,_,rfl⟩;ext;refine VN ?_;ext;refine(hD f hf S k hs jy).imp ?_;rintro _ S2 ⟨x,k2,rfl,g1,g2,gD,iV⟩;refine .of rfl ?_;dsimp only[y7];ext;refine Xf ?_;ext;refine⟨⟨_,zj (iV.at au)⟩,?_⟩;ext;refine xr (xa (iV.at au)) (zbi ⋯) ?_;ext;exact ih k2 _ (l++[x]) _ _ ⋯ ⋯ g2 ((hG.snoc gD).mono (uv _) ⋯) (by rw[ur,uF];omega) (by rw[xB (iV.at au)]) ((kn.trans iV).set (.inr (uv _)))
theorem zlr(eh:Big fu)(jk:stop<=63)(hD:zcC fu ns bs stop q):zif fu ns bs stop q:=by
 intro f hf S k hs hk;obtain⟨f,rfl⟩:∃e,f=e+1:=⟨f-1,⋯⟩;rw[Xs];walk_at "wr";unfold vk;ext;have jL:Sc ns (S++[Ce.lst []]):=hs.keep Kn.refl.app;refine(yZ jL ⟨⋯,⋯⟩ ∅ ∅).imp ?_;rintro _ _ ⟨rfl,_,_,rfl⟩;ext;refine xw _ (zca (zlq (T0:=S) (k0:=k) jk ⋯ hD hs fu k _ [] jr _ (by have:=eh.le;omega) (uv _) hk (by rw[B9];exact .nil) (uZ _) zL Kn.refl.app)) ?_;rintro ρ S3 ⟨l,k',g,a7,rfl,h1,h2,hG,au,kn⟩;ext;refine wz au ?_;ext;exact⟨l,k',rfl,h1,h2,hG,kn⟩
theorem zls(eh:Big fu)(jk:stop<=63)(hb:Xz 1000 bs):∀q,zif fu ns bs stop q/\zcC fu ns bs stop q
 |0=>by
  have hD:zcC fu ns bs stop 0:=zlp jk hb λp e=>by omega
  exact⟨zlr eh jk hD,hD⟩
 |q+1=>by
  have hD:zcC fu ns bs stop (q+1):=zlp jk hb λp e=>by
   obtain rfl:q=p:=by omega
   exact(zls eh jk hb q).1
  exact⟨zlr eh jk hD,hD⟩
theorem zlt(jk:stop<=63)(hf:3*q+1<=f)(hD:zcC fu ns bs stop q)(my:Sc ns T0):∀(m:Nat) (k:Nat) (l:pR Xv) (a6:pT Xv) (S:Sto),stop-k<m->k<=stop->GB bs l q (12*k+1)->l.length<=k->S[T0.length]? =iJ (.lst l)->Kn T0 S->
  WS (VI (bE (eOp dLt (za 5) (za 3))) (zo (zH (zf (zZ fu f) [za 0,za 5,za 1,za 2,za 3]) (gT 2 (xf (gN 6) (xf (gN 5) XF)))) (yY (eMt yn (za 4) [za 6]))) m [iJ (.ref 0),iJ (.tup (bs.map yx)),iJ (.int (q:Int)),iJ (.int (stop:Int)),iJ (.ref T0.length),iJ (.int (k:Int)),a6] S)
   (λρ S'=>∃(l:pR Xv) (k':Nat) (a6:pT Xv),ρ=[iJ (.ref 0),iJ (.tup (bs.map yx)),iJ (.int (q:Int)),iJ (.int (stop:Int)),iJ (.ref T0.length),iJ (.int (k':Int)),a6]/\k'<=stop/\GB bs l q (12*k'+1)/\l.length<=k'/\S'[T0.length]? =iJ (.lst l)/\Kn T0 S') R:=by
 intro m
 induction m with
 |zero=>intro k l a6 S h;omega
 |succ m ih=>
  intro k l a6 S hm p5 hG hl au kn;refine WQ ?_;ext;refine yu (λjy=> ?_) (λjy=>⟨l,k,a6,rfl,p5,hG,hl,au,kn⟩);have jy:k<stop:=by omega
  have hs:=my.keep kn;refine zh (VN ?_);ext;refine(hD f hf S k hs jy).imp ?_;rintro _ S2 ⟨x,k2,rfl,g1,g2,gD,iV⟩;refine .of rfl ?_;dsimp only[y7];ext;refine Xf ?_;ext;refine⟨⟨_,zj (iV.at au)⟩,?_⟩;ext;refine xr (xa (iV.at au)) (zbi ⋯) ?_;ext;exact ih k2 (l++[x]) _ _ ⋯ g2 ((hG.snoc gD).mono (uv _) ⋯) (by rw[ur,uF];omega) (by rw[xB (iV.at au)]) ((kn.trans iV).set (.inr (uv _)))
theorem zqY{stop:Nat}(eh:Big fu)(jk:stop<=63)(hb:Xz 1000 bs)(hs:Sc ns S):W (Ul fu [.ref 0,.tup (bs.map yx),.int 4,.int (stop:Int)] S) λv S'=>∃l:pR Xv,v= .ref S.length/\S'[S.length]? =iJ (.lst l)/\GB bs l 4 760/\l.length<=63/\Kn S S':=by
 walk_at "wr";unfold XQ;ext;refine xw _ (zca (zlt (T0:=S) (q:=4) jk ∅ (zls eh jk hb 4).2 hs fu 0 [] jr _ (by have:=eh.le;omega) (uZ _) .nil (uZ _) zL Kn.refl.app)) ?_;rintro ρ S3 ⟨l,k',a6,rfl,h1,hG,hl,au,kn⟩;ext;exact⟨l,rfl,au,hG.mono (uv _) ⋯,⋯,kn⟩
def Us(bs:pR (Str×Int)):Prop:=bs.length<=30/\∀b∈bs,NmZ b.1/\0<=b.2/\b.2<=999999999
theorem Xz.bf(hB:Xz 1000 bs):Us bs:=⟨by have:=hB.len;omega,λb hb=>⟨hB.nm b hb,by have:=hB.sz b hb;omega,by have:=hB.sz b hb;omega⟩⟩
theorem zi9{o l:Nat}(hB:Us bs)(hlen:bs.length<=wss.length)
  (lA:∀(i:Nat) b,bs[i]? =iJ b->wss[i]? =iJ [("box":Str),b.1,nt b.2]) (jM:∀w r,wss[bs.length]? =iJ (w::r)->w≠"box") (hw:∀ws∈wss,ws≠[]) (mC:o<T0.length) (mI:l<T0.length) (jx:∀m∈ms,m<T0.length):
  ∀(n i:Nat) (a2:pT Xv) (S:Sto),bs.length-i<n->i<=bs.length->Vy S o wss i l ms->S[T0.length]? =iJ (.lst ((bs.take i).map yx))->Kp (· =o) T0 S->
  WS (VI (bE (eOp zek (xX "Rows" "first_word" (zY fu) (za 0) []) (tL "box"))) (zo (zH (xX "Rows" "taken" (xU fu) (za 0) []) (gN 2)) (zo (sIf (bE (eOp zd7 (eFn xO [za 2]) (q8 3))) Yk zF) (yY (eMt yn (za 1) [yS [zf (xR fu) [eOp vN (za 2) (q8 1)],zf (xA fu) [eOp vN (za 2) (q8 2)]]])))) n [iJ (.ref o),iJ (.ref T0.length),a2] S)
   (λρ S'=>∃a2,ρ=[iJ (.ref o),iJ (.ref T0.length),a2]/\S'[T0.length]? =iJ (.lst (bs.map yx))/\Vy S' o wss bs.length l ms/\Kp (· =o) T0 S') R:=by
 intro n
 induction n with
 |zero=>intro i a2 S h;omega
 |succ n ih=>
  intro i a2 S hn hi h au kp;refine WQ ?_;ext;refine wk ?_;ext;refine⟨_,_,rfl,h.ob,rfl,?_⟩;ext;refine(Uq h ⋯ hw).imp ?_;rintro _ _ ⟨rfl,rfl⟩;ext;by_cases m5:i<bs.length
  .have hr:=lA i _ (uo m5);have hb:=Au m5;rw[hr];show WO (zek (.str "box") (.str "box") S) _;refine zel ?_;rw[decide_eq_true rfl];refine⟨_,rfl,λ_=> ?_,nofun⟩;ext;refine wk ?_;ext;refine⟨_,_,rfl,h.ob,rfl,?_⟩;ext;refine(zia h hr).imp ?_;rintro _ S1 ⟨m,rfl,hm,h1,k1⟩;have jQ:=k1.2 _ _ au (show ¬T0.length=o by omega);have hm:ya S1 (.ref m)=iJ [.str "box",.str bs[i].1,.str (nt bs[i].2)]:=zj hm;obtain⟨il,s1,s9⟩:=hB.2 _ hb;ext;refine zy ?_;ext;refine xx hm ?_;ext;rw[show(!decide ((([Xv.str "box",.str bs[i].1,.str (nt bs[i].2)]:pR Xv).length:Int)=3))=nW from rfl];refine⟨nofun,λ_=>zv ?_⟩;ext;refine Xf ?_;ext;refine⟨⟨_,zj jQ⟩,?_⟩;ext;refine xo hm (z:= .str bs[i].1) rfl ?_;ext;refine il.from.imp ?_
   rintro _ S2 ⟨rfl,k2⟩;ext;refine xo (k2.lst hm) (z:= .str (nt bs[i].2)) rfl ?_;ext;refine(Vp ⋯ ⋯).imp ?_;rintro _ S3 ⟨rfl,k3⟩;have kk:Kn S1 S3:=k2.trans k3;ext;have mY:=kk.at jQ;refine xr (xa mY) (by rw[um,z4];have:=hB.1;exact zbi ⋯) ?_;ext;refine ih (i+1) _ _ ⋯ ⋯ ?_ ?_ (((kp.trans k1).trans (Kp.of_kn kk)).set (.inr (uv _)))
   .exact (h1.keep kk).put ⋯ ⋯ (λz=>by have:=jx _ z;omega)
   .rw[xB mY,w9 m5,uO];rfl
  .obtain rfl:i=bs.length:=by omega
   rw[z8] at au;have fin:∃tI,[iJ (Xv.ref o),iJ (.ref T0.length),a2]=[iJ (.ref o),iJ (.ref T0.length),tI]/\S[T0.length]? =iJ (.lst (bs.map yx))/\Vy S o wss bs.length l ms/\Kp (· =o) T0 S:=⟨_,rfl,au,h,kp⟩;cases he:wss[bs.length]? with
   |none=>exact zmT ⟨_,rfl,nofun,λ_=>fin⟩
   |some ws=>
    cases ws with
    |nil=>exact absurd rfl (hw _ (x8 he))
    |cons w r=>
     refine zel ?_;rw[decide_eq_false (jM w r he)];exact⟨_,rfl,nofun,λ_=>fin⟩
theorem zf1{o l:Nat}(eh:Big fu)(hB:Us bs)(hlen:bs.length<=wss.length)
  (lA:∀(i:Nat) b,bs[i]? =iJ b->wss[i]? =iJ [("box":Str),b.1,nt b.2]) (jM:∀w r,wss[bs.length]? =iJ (w::r)->w≠"box") (hw:∀ws∈wss,ws≠[]) (jx:∀m∈ms,m<S.length) (h:Vy S o wss 0 l ms):
  W (ZP fu [.ref o] S) λv S'=>v= .tup (bs.map yx)/\Vy S' o wss bs.length l ms/\Kp (· =o) S S':=by
 walk_at "wr";unfold Wj;ext;have h1:Vy (S++[Ce.lst []]) o wss 0 l ms:=h.keep Kn.refl.app;have hb:=hB.1;refine xw _ (zca (zi9 (T0:=S) hB hlen lA jM hw (uq.1 h.ob).1 (uq.1 h.li).1 jx fu 0 jr _ (by have:=eh.le;omega) (uZ _) h1 zL (Kp.of_kn Kn.refl.app))) ?_;rintro ρ S3 ⟨a2,rfl,au,h3,k3⟩;ext;refine wz au ?_;exact⟨rfl,h3,k3⟩
theorem zja{n:TwI}(hl:wss.length<=2100)(lx:∀ws∈wss,ws≠[]/\ws.length<=12/\∀w∈ws,Uo w)
  (hn:W (n ρ S) λget S1=>(∀S',Kn S1 S'->get S'=iJ ((wss.map (Txt.join " ")).map Xv.str))/\Kn S S1)
  (hz:∀ws∈wss,(Txt.join " " ws).length<=sizeLine)
  (k:∀(ms:pR Nat) (S':Sto),Kn S S'->ms.length=wss.length->(∀(i m:Nat) (ws:pR Str),ms[i]? =iJ m->wss[i]? =iJ ws->Txs S' m ws)->(∀m∈ms,m<S'.length)->P (.ref S'.length) (S'++[.lst (ms.map Xv.ref)])):
  W (xu [jr] n (gN 0) xF (zaS Ti (za 0) [tL " "]) ρ S) P:=by
 refine zbD (hn.imp ?_);rintro get S1 ⟨hg,k1⟩;refine⟨(wss.map (Txt.join " ")).map Xv.str,hg S1 Kn.refl,?_⟩;refine zcc (by rw[um,um];exact z3 (szM ⋯)) (λi es S2=>∃ms:pR Nat,es=ms.map Xv.ref/\ms.length=i/\(∀(j m:Nat) (ws:pR Str),ms[j]? =iJ m->wss[j]? =iJ ws->Txs S2 m ws)/\(∀m∈ms,m<S2.length)/\Kn S1 S2) (λi es S2 _ h=>by obtain⟨_,_,_,_,_,k2⟩:=h;exact hg _ k2) ?_ ⟨[],rfl,rfl,(λj m ws h=>by simp at h),(λm h=>by cases h),Kn.refl⟩ ?_
 .rintro i w es S2 hw sU ⟨ms,rfl,jx,kC,jy,k2⟩;rw[uA,uA,DW,uH] at hw;obtain⟨ws,e,rfl⟩:=hw;obtain⟨ne,tN,rG⟩:=lx ws (x8 e);have j9:Txt.split (Txt.join " " ws) " "=ws:=zcx (c:=32) ne λp hp=>(rG p hp).sp;refine .of rfl ?_;ext;refine⟨rfl,?_⟩;refine zaT ?_;show W (za 0 [iJ (.str (Txt.join " " ws))] S2) _;ext;refine⟨⟨_,rfl⟩,?_⟩;ext;refine zfC ⟨hz ws (x8 e),rfl,by rw[j9];exact yX ⋯⟩ ?_;rw[j9];refine⟨ms++[S2.length],by rw[uO];rfl,by rw[ur,jx];rfl,?_,?_,k2.app⟩
  .intro j m qO hj nL;by_cases sG:j<ms.length
   .rw[uB sG] at hj;exact(Kn.refl.app).at (kC j m qO hj nL)
   .have:=(uq.1 hj).1;rw[ur,uF] at this;obtain rfl:j=ms.length:=by omega
    rw[uL (uv _),B9] at hj;cases hj;rw[jx,e] at nL;cases nL;exact zL
  .intro m hm;rw[ur,uF];rw[uW,uX] at hm;rcases hm with hm|rfl
   .have:=jy m hm;omega
   .omega
 .rintro es S2 _ ⟨ms,rfl,jx,kC,jy,k2⟩;exact k ms S2 (k1.trans k2) (by rw[jx,um,um]) kC jy
theorem zha(fj:wss≠[])(hl:wss.length<=2100)(lx:∀ws∈wss,ws≠[]/\ws.length<=12/\∀w∈ws,Uo w)(hz:∀ws∈wss,(Txt.join " " ws).length<=sizeLine)
  (sj:∀ws∈wss,10∉(Txt.join " " ws).cps.toList) (ht:t=Txt.join "\n" (wss.map (Txt.join " "))) (qu:t.length<=sizeLine) (rP:t≠"") (ho:S[o]? =iJ (.ins "Rows" [])):
  W (xZ fu [.ref o,.str t] S) λv S'=>v= .non/\∃l ms,Vy S' o wss 0 l ms/\(∀m∈ms,m<S'.length)/\Kp (· =o) S S':=by
 have mC:=(uq.1 ho).1;have j9:Txt.split t "\n"=wss.map (Txt.join " "):=by
  rw[ht];refine zcx (c:=10) (by simpa using fj) λp hp=> ?_;rw[Ag] at hp;obtain⟨ws,h,rfl⟩:=hp;exact sj ws h
 walk_at "wr";unfold wR;refine zh (TW ?_);ext;refine⟨_,_,rfl,Kn.refl.app.at ho,show 0<1000 by decide,?_⟩;have k1:Kp (· =o) S ((S++[Ce.lst []]).set o (.ins "Rows" (VQ "rows" (.ref S.length) []))):=(Kp.of_kn Kn.refl.app).set (.inl rfl);have lG:((S++[Ce.lst []]).set o (.ins "Rows" (VQ "rows" (.ref S.length) [])))[o]? =iJ (.ins "Rows" [("rows",.ref S.length)]):=xB (Kn.refl.app.at ho);generalize (S++[Ce.lst []]).set o (.ins "Rows" (VQ "rows" (.ref S.length) []))=S1 at k1 lG ⊢;refine zh (zy ?_);ext;refine zeC ?_;rw[decide_eq_false rP];refine⟨_,rfl,λ_=>TW ?_,nofun⟩;refine zja hl lx ?_ hz ?_
 .refine zk5 (n:=S1.length) ?_;refine zaT ?_;ext;refine⟨⟨_,rfl⟩,?_⟩;ext;refine zfC ⟨qu,rfl,by rw[j9,um];exact z3 (szM ⋯)⟩ ?_;rw[j9];exact⟨rfl,zj zL,Kn.refl.app⟩
 intro ms S2 k2 jx kC jy;ext;refine⟨_,_,rfl,k2.app.at lG,show 1<1000 by decide,?_⟩;refine TW ?_;have kA:Kn S1 (S2++[Ce.lst (ms.map Xv.ref)]):=k2.app;have kB:Kn S2 (S2++[Ce.lst (ms.map Xv.ref)]):=Kn.refl.app;have nr:(S2++[Ce.lst (ms.map Xv.ref)])[S2.length]? =iJ (.lst (ms.map Xv.ref)):=zL;have oA:=kA.at lG;have mF:∀(i m:Nat) (ws:pR Str),ms[i]? =iJ m->wss[i]? =iJ ws->Txs (S2++[Ce.lst (ms.map Xv.ref)]) m ws:=λi m ws a b=>kB.at (kC i m ws a b);have mG:∀m∈ms,m<(S2++[Ce.lst (ms.map Xv.ref)]).length:=λm hm=>by
  have:=jy m hm;rw[ur];omega
 generalize S2++[Ce.lst (ms.map Xv.ref)]=S3 at kA nr oA mF mG ⊢;generalize S2.length=l at nr ⊢;have ne:∀{n:Nat} {xs:pR Xv},S3[n]? =iJ (.lst xs)->o≠n:=λe q=>by rw[<-q,oA] at e;cases e
 have o4:(S3.set o (.ins "Rows" (VQ "rows" (.ref l) [("rows",.ref S.length)])))[o]? =iJ (.ins "Rows" [("rows",.ref l)]):=xB oA;ext;refine⟨_,_,rfl,o4,show 1<1000 by decide,rfl,l,ms,⟨xB o4,?_,jx,λi m ws a b=> ?_⟩,?_,?_⟩
 .rw[A2 (ne nr),A2 (ne nr)];exact nr
 .have e:=mF i m ws a b;unfold Txs at e ⊢;rw[A2 (ne e),A2 (ne e)];exact e
 .intro m hm;rw[Al,Al];exact mG m hm
 .exact ((k1.trans (Kp.of_kn kA)).set (.inl rfl)).set (.inl rfl)
theorem zf2{o:Nat}(ho:S[o]? =iJ (.ins "Rows" [])):
  W (xZ fu [.ref o,.str ""] S) λv S'=>v= .non/\∃l ms,Vy S' o [] 0 l ms/\(∀m∈ms,m<S'.length)/\Kp (· =o) S S':=by
 have mC:=(uq.1 ho).1;walk_at "wr";unfold wR;refine zh (TW ?_);ext;refine⟨_,_,rfl,Kn.refl.app.at ho,show 0<1000 by decide,?_⟩;have k1:Kp (· =o) S ((S++[Ce.lst []]).set o (.ins "Rows" (VQ "rows" (.ref S.length) []))):=(Kp.of_kn Kn.refl.app).set (.inl rfl);have lG:((S++[Ce.lst []]).set o (.ins "Rows" (VQ "rows" (.ref S.length) [])))[o]? =iJ (.ins "Rows" [("rows",.ref S.length)]):=xB (Kn.refl.app.at ho);have al:((S++[Ce.lst []]).set o (.ins "Rows" (VQ "rows" (.ref S.length) [])))[S.length]? =iJ (.lst []):=zcq zL ⋯;generalize (S++[Ce.lst []]).set o (.ins "Rows" (VQ "rows" (.ref S.length) []))=S1 at k1 lG al ⊢;refine zh (zy ?_);ext;refine zeC ?_;rw[decide_eq_true rfl];refine⟨_,rfl,nofun,λ_=>zv (TW ?_)⟩;ext;refine⟨_,_,rfl,lG,show 1<1000 by decide,rfl,S.length,[],⟨xB lG,zcq al ⋯,rfl,λi m ws a b=>by simp at a⟩,(λm hm=>by cases hm),k1.set (.inl rfl)⟩
noncomputable def yW(b:Str×Int):Str:=yP [.str "box",.str b.1,.int b.2]
theorem zeG(b:Str×Int):yW b="box "++b.1++" "++nt b.2:=by
 unfold yW;rw[wc,wc,wv];show("box":Str)++" "++(b.1++" "++nt b.2)="box "++b.1++" "++nt b.2;rw[show("box ":Str)="box"++" " from rfl];simp only[Str.append_assoc]
theorem zm9(h1:ya S x=iJ a)(h2:ya S y=iJ b)(h:a.length+b.length<=sizeLine)(k:P (.ref S.length) (S++[.lst (a++b)])):WO (yI x y S) P:= .of (by unfold yI;rw[h1,h2];exact if_pos h) k
theorem Us.row(hB:Us bs):∀b∈bs,(yW b).length<=120:=λb hb=>by
 obtain⟨il,s1,s9⟩:=hB.2 b hb;refine Up (λp hp=> ?_) (show 3<=12 by decide);simp only[uU,B8,or_false] at hp;rcases hp with rfl|rfl|rfl
 .exact Zq ∅
 .exact .inl ⟨_,rfl,il.wd⟩
 .exact .inr ⟨_,rfl,⋯,⋯⟩
noncomputable def txt(bs:pR (Str×Int))(rows:pR (pR Xv)):Str:=Txt.join "\n" (bs.map yW++rows.map yP)
theorem zlu(bs:pR (Str×Int)):(y2 bs.length).map (λi=>Xv.str (yW (bs.getD i ("",0))))=(bs.map yW).map Xv.str:=by
 rw[Af];apply CJ
 .simp
 .intro i p q;have hi:i<bs.length:=by simpa using q
  rw[Ac,Ac,Cq,uz,uo hi];rfl
theorem zig(hB:Us bs)(hR:∀ps∈rows,zat ps):∀t∈bs.map yW++rows.map yP,t.length<=120:=by
 intro t ht;rw[uW,Ag,Ag] at ht;rcases ht with⟨b,hb,rfl⟩|⟨ps,hp,rfl⟩
 .exact hB.row b hb
 .obtain⟨a,b,_⟩:=hR ps hp;exact Up a b
theorem zhb(hB:Us bs)(hR:∀ps∈rows,zat ps)(hl:rows.length<=2000):JoinOk "\n" (bs.map yW++rows.map yP)=jD:=by
 have:=hB.1;refine zh9 (B:=120) (zig hB hR) ?_;rw[ur,um,um];show(bs.length+rows.length)*120+(bs.length+rows.length)*1<=_;omega
theorem zlv(hB:Us bs)(hR:∀ps∈rows,zat ps)(hl:rows.length<=2000):(txt bs rows).length<=(bs.length+rows.length)*121/\(txt bs rows).length<=sizeLine:=by
 have hb:=hB.1;have a:(txt bs rows).length<=(bs.length+rows.length)*121:=by
  unfold txt;rw[Vq];have h1:=StrLaws.join_length_le "\n" (bs.map yW++rows.map yP);have h2:=StrLaws.sumLen_le (B:=120) _ (zig hB hR);have h3:(("\n":Str)).length=1:=rfl;rw[h3,ur,um,um] at h1;rw[ur,um,um] at h2;omega
 exact⟨a,v5 a (v5 (show _<=300000 by omega) ∅)⟩
theorem zna{b:Str×Int}{e1 e2:TwE}(il:NmZ b.1)(s1:0<=b.2)(s9:b.2<=999999999)(h1:∀S,W (e1 ρ S) λv S'=>v= .str b.1/\S=S')(h2:∀S,W (e2 ρ S) λv S'=>v= .int b.2/\S=S')(k:P (.str (yW b)) S):W (eOp zQ (eOp zQ (eOp zQ (tL "box ") e1) (tL " ")) (eFn zbp [e2]) ρ S) P:=by
 have l1:=il.wd.le;have l2:=(zfW s1 s9).le;have ls:((" ":Str)).length=1:=rfl;have lb:(("box ":Str)).length=4:=rfl;ext;refine(h1 S).imp ?_;rintro _ _ ⟨rfl,rfl⟩;refine xD (yX ⋯) ?_;ext;refine xD (yX (by rw[Str.length_append];omega)) ?_;ext;refine(h2 S).imp ?_;rintro _ _ ⟨rfl,rfl⟩;ext;refine zbH (zeD s1 s9) ?_;refine xD (yX (by rw[Str.length_append,Str.length_append];show _+(nt b.2).length<=_;omega)) ?_;rw[zeG] at k;exact k
theorem zf3:∀{ts:pR Str},c∈(Str.join sep ts).cps.toList->c∈sep.cps.toList\/∃t∈ts,c∈t.cps.toList
 |[],h=>by cases h
 |[t],h=> .inr ⟨t,uK ..,h⟩
 |t::u::r,h=>by
  have h:c∈(t++sep++Str.join sep (u::r)).cps.toList:=h;rw[vn,vn,uW,uW] at h;rcases h with (h|h)|h
  .exact .inr ⟨t,uK ..,h⟩
  .exact .inl h
  .rcases zf3 h with h|⟨z,hz,h⟩
   .exact .inl h
   .exact .inr ⟨z,uG _ hz,h⟩
noncomputable def zhc(b:Str×Int):pR Str:=[("box":Str),b.1,nt b.2]
noncomputable def wG(bs:pR (Str×Int))(rows:pR (pR Xv)):pR (pR Str):=bs.map zhc++rows.map wd
theorem zcD:(wG bs rows).map (Txt.join " ")=bs.map yW++rows.map yP:=by
 unfold wG;rw[uO,Af,Af];rfl
theorem zlw(hB:Us bs)(hR:∀ps∈rows,zat ps):∀ws∈wG bs rows,ws≠[]/\ws.length<=12/\∀w∈ws,Uo w:=by
 intro ws h;unfold wG at h;rw[uW,Ag,Ag] at h;rcases h with⟨b,hb,rfl⟩|⟨ps,hp,rfl⟩
 .obtain⟨il,s1,s9⟩:=hB.2 b hb;refine⟨(by intro q;cases q),show 3<=12 by decide,λw hw=> ?_⟩;unfold zhc at hw;simp only[uU,B8,or_false] at hw;rcases hw with rfl|rfl|rfl
  .exact vL ∅
  .exact il.wd
  .exact zfW ⋯ ⋯
 .obtain⟨h1,h2,w,r,h3,_⟩:=hR ps hp;refine⟨(by rw[h3];intro q;cases q),by unfold wd;rw[um];exact h2,λw hw=> ?_⟩;unfold wd at hw;rw[Ag] at hw;obtain⟨p,ky,rfl⟩:=hw;exact(h1 p ky).wd
theorem zlx(h:ws.length<=12/\∀w∈ws,Uo w):(Txt.join " " ws).length<=120/\10∉(Txt.join " " ws).cps.toList:=by
 rw[Vq];constructor
 .have h1:=StrLaws.join_length_le " " ws;have h2:=StrLaws.sumLen_le (B:=9) ws (λt ht=>(h.2 t ht).le);have h3:((" ":Str)).length=1:=rfl;rw[h3] at h1;omega
 .intro q;rcases zf3 q with q|⟨t,ht,q⟩
  .exact absurd q ∅
  .exact (h.2 t ht).nl q
theorem Xz.bx(hB:Xz 1000 bs)(h9:bs.length<=9):bxF bs=jD:=by
 unfold bxF;rw[decide_eq_true ⟨h9,hB.nd⟩,decide_eq_true hB.pr,As,Bw,v9];refine⟨?_,?_⟩
 .rw[y6];intro b hb;have:=hB.nm b hb;exact this.2.2.nm this.1 this.2.1
 .unfold szF;rw[y6];intro b hb;exact decide_eq_true (hB.sz b hb)
theorem Xz.as(hB:Xz 1000 bs):∀b∈bs,asc b.1/\b.1.length<=100:=by
 intro b hb;have:=hB.nm b hb;exact⟨this.2.2.asc,⋯⟩
theorem zf4:t.length<=(Txt.join sep (t::r)).length:=by
 rw[Vq];cases r with
 |nil=>exact uv _
 |cons u r=>
  show t.length<=(t++sep++Str.join sep (u::r)).length;rw[Str.length_append,Str.length_append];omega
theorem zpC(hB:Us bs)(hR:∀ps∈rows,zat ps)(h:wG bs rows≠[]):txt bs rows≠"":=by
 intro e;have ok:=zlw hB hR;unfold txt at e;rw[<-zcD] at e;cases hw:wG bs rows with
 |nil=>exact h hw
 |cons ws t=>
  rw[hw] at e ok;obtain⟨h1,_,h3⟩:=ok ws (uK ..);cases ws with
  |nil=>exact h1 rfl
  |cons w r=>
   have a:=zf4 (sep:="\n") (t:=Txt.join " " (w::r)) (r:=t.map (Txt.join " "));have b:=zf4 (sep:=" ") (t:=w) (r:=r);have c:=(h3 w (uK ..)).pos;rw[show Txt.join "\n" (Txt.join " " (w::r)::t.map (Txt.join " "))="" from e] at a;have a:(Txt.join " " (w::r)).length<=0:=a;omega
theorem zly(hB:Us bs)(hR:∀ps∈rows,zat ps)(hl:rows.length<=2000)(ho:S[o]? =iJ (.ins "Rows" [])):
  W (xZ fu [.ref o,.str (txt bs rows)] S) λv S'=>v= .non/\∃l ms,xV S' o (wG bs rows) 0 l ms/\Kp (· =o) S S':=by
 have ok:=zlw hB hR;have j7:(wG bs rows).length=bs.length+rows.length:=by unfold wG;rw[ur,um,um]
 have hb:=hB.1;have fj:∀ws∈wG bs rows,ws≠[]:=λws h=>(ok ws h).1;by_cases h0:wG bs rows=[]
 .have e:txt bs rows="":=by
   unfold txt;rw[<-zcD,h0];rfl
  rw[e];refine(zf2 ho).imp ?_;rintro _ S1 ⟨rfl,l,ms,h1,h2,k1⟩;exact⟨rfl,l,ms,⟨by rw[h0];exact h1,fj,h2⟩,k1⟩
 .refine (zha (wss:=wG bs rows) h0 ⋯ ok (λws h=>by have:=(zlx (ok ws h).2).1;exact z3 (y9 this ∅)) (λws h=>(zlx (ok ws h).2).2) (by rw[zcD];rfl) (zlv hB hR hl).2 (zpC hB hR h0) ho).imp ?_;rintro _ S1 ⟨rfl,l,ms,h1,h2,k1⟩;exact⟨rfl,l,ms,⟨h1,fj,h2⟩,k1⟩
theorem zf5(eh:Big fu)(hB:Us bs)(hR:∀ps∈rows,zat ps)(h:xV S o (wG bs rows) 0 l ms):
  W (ZP fu [.ref o] S) λv S'=>v= .tup (bs.map yx)/\xV S' o (wG bs rows) bs.length l ms/\Kp (· =o) S S':=by
 refine(zf1 eh hB (by unfold wG;rw[ur,um];omega) ?_ ?_ h.ne h.lt h.rw).imp ?_
 .intro i b e;have hi:=(uq.1 e).1;unfold wG;rw[uB (by rw[um];exact hi),uA,e];rfl
 .intro w r e;unfold wG at e;rw[uL (by rw[um];omega),um,B9,uA,uH] at e;obtain⟨ps,e1,e2⟩:=e;obtain⟨_,_,w',r',rfl,hw⟩:=hR ps (x8 e1);have e2:w'::r'.map tx=w::r:=e2;rw[<-(x9 e2).1];exact hw
 .rintro _ S1 ⟨rfl,h1,k1⟩;exact⟨rfl,⟨h1,h.ne,λm hm=>by have:=h.lt m hm;have:=k1.1;omega⟩,k1⟩
theorem zf6(eh:Big fu)(hd:Pg (.b ds) rows q)(hq:q<=12)(hl:rows.length<=2000)(h:xV S o (wG bs rows) bs.length l ms):
  W (zD fu 60 [.ref o,.int 0] S) λv S'=>v= .tup ds/\xV S' o (wG bs rows) (wG bs rows).length l ms/\Kp (· =o) S S':=by
 have e:(wG bs rows).drop bs.length=rows.map wd++[]:=by
  unfold wG;rw[z6];have:=DY (l₁:=bs.map zhc) (l₂:=rows.map wd);rwa [um] at this
 have j7:(wG bs rows).length=bs.length+rows.length:=by unfold wG;rw[ur,um,um]
 refine(zm8 eh hd 60 0 S o _ _ l ms [] ⋯ ⋯ hl h e (λ_=>by omega) (λw r t z=>by cases z)).imp ?_;rw[j7];exact λ_ _ h=>h
theorem zpD(eh:Big fu)(hB:Xz 1000 bs)(h9:bs.length<=9)(hd:Pg (.b ds) rows q)(hq:q<=12)(hl:rows.length<=2000)(tr:Tr bs (.b ds) n q' jD c)(lB:q'<=12)(hn:n<=100)(hc:c<=1000):
  W (XM fu [.str (txt bs rows)] S) λv S'=>v= .tup [.tup (bs.map yx),.tup ds]/\Kn S S':=by
 walk_at "wr";unfold zbI;ext;refine zhQ ?_;ext;have k0:Kn S (S++[Ce.ins "Rows" []]):=Kn.refl.app;have o0:(S++[Ce.ins "Rows" []])[S.length]? =iJ (.ins "Rows" []):=zL;refine(zly hB.bf hd.rowok hl o0).imp ?_;rintro _ S1 ⟨rfl,l,ms,h1,k1⟩;refine⟨rfl,?_⟩;ext;refine(zf5 eh hB.bf hd.rowok h1).imp ?_;rintro _ S2 ⟨rfl,h2,k2⟩;ext;refine(zf6 eh hd hq hl h2).imp ?_;rintro _ S3 ⟨rfl,h3,k3⟩;ext;refine zy ?_;ext;refine wk ?_;ext;refine⟨_,_,rfl,h3.rw.ob,rfl,?_⟩;ext;refine(h3.fw0 rfl).imp ?_;rintro _ _ ⟨rfl,rfl⟩;ext;show WO (zhu .non S3) _;refine WO.of rfl ?_;refine⟨_,rfl,nofun,λ_=>zv ?_⟩;have kp:Kp (· =S.length) S S3:=(Kp.of_kn k0).trans (k1.trans (k2.trans k3));have kn:Kn S S3:=⟨kp.1,λn c e _=>kp.2 n c e (λq=>by have:=(uq.1 e).1;omega)⟩;ext;refine zy (vb (wY ?_));ext;refine(zfQ ⋯ hB.as (hB.bx h9) tr hc ⋯).imp ?_;rintro _ S4 ⟨rfl,k4⟩;rw[decide_eq_true lB,decide_eq_true hn];refine⟨_,rfl,nofun,λ_=>zv ?_⟩;ext;exact⟨rfl,kn.trans k4⟩
inductive ShX(n:Nat):List Xv->List D->Nat->Nat->Prop where
 |nil:ShX n [] [] 0 0
 |int {i:Int} {r:List Xv} {ds:List D} {w e:Nat}:i.natAbs<2^n->ShX n r ds w e->ShX n (.int i::r) (.int i::ds) (n+1+w) e
 |str {z:Str} {r:List Xv} {ds:List D} {w e:Nat}:z.length<=n->(z.cps.toList.all λc=>decide (c<16^8))=jD->ShX n r ds w e->ShX n (.str z::r) (.str z::ds) (n+1+w) e
 |tup {l r:List Xv} {ds ds':List D} {w e w' e':Nat}:ShX n l ds w e->ShX n r ds' w' e'->ShX n (.tup l::r) (.tup ds::ds') (w+1+w') (max (e+1) e')
theorem ShX.sh(h:ShX n xs ds w e):Sh n ds w e:=by
 induction h with
 |nil=>exact .nil
 |int h _ ih=>exact .int h ih
 |str h h2 _ ih=>exact .str h h2 ih
 |tup _ _ h1 h2=>exact .tup h1 h2
theorem ShX.told(h:ShX n xs ds w e):∀k,e<=k->∀S,ZZ (wo S k) xs=iJ ds:=by
 induction h with
 |nil=>intro k _ S;rfl
 | @int i r ds w e h _ ih=>
  intro k hk S;unfold ZZ;rw[ih k hk S,show wo S k (.int i)=iJ (.int i) by cases k<;>rfl];rfl
 | @str z r ds w e h h2 _ ih=>
  intro k hk S;unfold ZZ;rw[ih k hk S,show wo S k (.str z)=iJ (.str z) by cases k<;>rfl];rfl
 | @tup l r ds ds' w e w' e' _ _ fI fH=>
  intro k hk S;obtain⟨k,rfl⟩:∃m,k=m+1:=⟨k-1,⋯⟩;unfold ZZ;rw[fH (k+1) ⋯ S,show wo S (k+1) (.tup l)=(ZZ (wo S k) l).map .tup from rfl,fI k ⋯ S];rfl
def Sz(W E:Nat)(xs:pR Xv):Prop:=∃ds w e,ShX 30 xs ds w e/\w<=W/\e<=E
theorem Sz.nil{E:Nat}:Sz 0 E []:=⟨_,_,_,.nil,uv _,uZ _⟩
theorem Sz.mono{W E W' E':Nat}{l:pR Xv}(h:Sz W E l)(h1:W<=W')(h2:E<=E'):Sz W' E' l:=by
 obtain⟨ds,w,e,h,a,b⟩:=h;exact⟨ds,w,e,h,⋯,⋯⟩
theorem Sz.int{W E:Nat}{i:Int}{r:pR Xv}(h:i.natAbs<2^30)(h2:Sz W E r):Sz (31+W) E (.int i::r):=by
 obtain⟨ds,w,e,h3,a,b⟩:=h2;exact⟨_,_,_,.int h h3,⋯,b⟩
theorem Sz.str{W E:Nat}{z:Str}{r:pR Xv}(h:z.length<=30)(h1:asc z)(h2:Sz W E r):Sz (31+W) E (.str z::r):=by
 obtain⟨ds,w,e,h3,a,b⟩:=h2;refine⟨_,_,_,.str h ?_ h3,⋯,b⟩;rw[y6];intro c hc;have h1:z.cps.all (· <128)=jD:=h1;rw[Array.all_eq_true'] at h1;have:=h1 c (Array.mem_def.2 hc);have:c<128:=of_decide_eq_true this;exact decide_eq_true (Dn this ∅)
theorem Sz.tup{W E W':Nat}{l r:pR Xv}(h:Sz W E l)(h2:Sz W' (E+1) r):Sz (W+1+W') (E+1) (.tup l::r):=by
 obtain⟨ds,w,e,h3,a,b⟩:=h;obtain⟨ds',w',e',kG,a',b'⟩:=h2;exact⟨_,_,_,.tup h3 kG,⋯,⋯⟩
theorem ShX.app(h:ShX n xs ds w e)(g:ShX n ys es w' e'):∃e2,ShX n (xs++ys) (ds++es) (w+w') e2/\e2<=max e e':=by
 induction h with
 |nil=>exact⟨e',by rw[CH];exact g,⋯⟩
 |int h _ ih=>
  obtain⟨e2,ih,hb⟩:=ih;exact⟨_,by rw[C3];exact .int h ih,hb⟩
 |str h h2 _ ih=>
  obtain⟨e2,ih,hb⟩:=ih;exact⟨_,by rw[C3];exact .str h h2 ih,hb⟩
 |tup h1 _ _ ih=>
  obtain⟨e2,ih,hb⟩:=ih;exact⟨_,by rw[C3];exact .tup h1 ih,⋯⟩
theorem Sz.cons{W E W':Nat}{r:pR Xv}(h:Sz W E [x])(h2:Sz W' E r):Sz (W+W') E (x::r):=by
 obtain⟨ds,w,e,h3,a,b⟩:=h;obtain⟨ds',w',e',kG,a',b'⟩:=h2;obtain⟨e2,h4,h5⟩:=h3.app kG;exact⟨_,_,_,h4,⋯,⋯⟩
theorem Sz.all{W E:Nat}:∀{l:pR Xv},(∀x∈l,Sz W E [x])->Sz (l.length*W) E l
 |[],_=>Sz.nil.mono (by simp) (uv _)
 |x::r,h=>by
  have:=(h x (uK ..)).cons (Sz.all λy hy=>h y (uG _ hy));refine this.mono ?_ (uv _);rw[uw,Nat.succ_mul];omega
theorem Sz.rep{W E:Nat}{l:pR Xv}(h:Sz W E [.tup l])(hE:E<=100)(hW:W<=500000):∃z:Str,∀S,WU [.tup l] S=iJ (.str z,S):=by
 obtain⟨ds,w,e,h,a,b⟩:=h;have hs:=h.sh;have ht:=h.told 100 ⋯;cases h with
 | @tup _ _ dd _ _ _ _ _ h1 h2=>
  cases h2;refine⟨(D.py (.tup dd)).shown,λS=> ?_⟩;have ht:=ht S;unfold ZZ ZZ at ht;unfold WU;dsimp only;cases q:wo S 100 (.tup l) with
  |none=>rw[q] at ht;cases ht
  |some d=>
   rw[q] at ht;cases ht;rw[uJ,if_pos ⟨⟨_,.inl rfl⟩,30,_,_,hs,∅,∅,⋯,⋯⟩]
theorem SOp.sz{a:Xv}{W E:Nat}{r:pR Xv}(h:SOp a)(h2:Sz W E r):Sz (31+W) E (a::r):=by
 rcases h with⟨z,rfl,h⟩|⟨v,rfl,h0,h1⟩
 .exact .str (by have:=h.2.1;omega) h.wd.asc h2
 .exact .int ⋯ h2
theorem znb{ws:pR Int}(h:∀w∈ws,0<=w/\w<=999999999):Sz (ws.length*31) 0 (ws.map Xv.int):=by
 have:=Sz.all (W:=31) (E:=0) (l:=ws.map Xv.int) λx hx=>by
  obtain⟨v,hv,rfl⟩:=Ag.1 hx;have:=h v hv;exact Sz.int ⋯ Sz.nil
 rwa [um] at this
theorem Pl.sz(h:Pl x ps):Sz 450 2 [x]:=by
 have lt:∀{z:Str} {W E:Nat} {r:pR Xv},Uo z->Sz W E r->Sz (31+W) E (.str z::r):=λh h2=> .str (by have:=h.le;omega) h.asc h2;have sg:∀{s:Str},s∈TS\/s∈RS->Uo s:=by
  rintro s (h|h)
  .rcases zfY h with⟨z,e,h⟩|⟨v,e,_⟩
   .cases e;exact h
   .cases e
  .rcases znZ h with⟨z,e,h⟩|⟨v,e,_⟩
   .cases e;exact h
   .cases e
 cases h with
 |pass=>exact(Sz.tup (E:=1) (lt (vL ∅) .nil) .nil).mono ∅ ∅
 |gain ha=>exact(Sz.tup (E:=1) (lt (vL ∅) (ha.sz .nil)) .nil).mono ∅ ∅
 |look hs ha hb=>exact(Sz.tup (E:=1) (lt (vL ∅) (.tup (E:=0) (ha.sz (lt (sg (.inl hs)) (hb.sz .nil))) .nil)) .nil).mono ∅ ∅
 |set1 hn ha=>exact(Sz.tup (E:=1) (lt (vL ∅) (lt hn.wd (.tup (E:=0) (ha.sz .nil) .nil))) .nil).mono ∅ ∅
 |set3 hn hs ha hb=>exact(Sz.tup (E:=1) (lt (vL ∅) (lt hn.wd (.tup (E:=0) (ha.sz (lt (sg (.inr hs)) (hb.sz .nil))) .nil))) .nil).mono ∅ ∅
 | @draw n ws hn h9 h1 hw=>
  exact(Sz.tup (E:=1) (lt (vL ∅) (lt hn.wd (.tup (E:=0) (znb hw) .nil))) .nil).mono ⋯ ∅
theorem Xz.sz1(hB:Xz 1000 bs):Sz 630 1 (bs.map yx):=by
 have:=Sz.all (W:=63) (E:=1) (l:=bs.map yx) λx hx=>by
  obtain⟨b,hb,rfl⟩:=Ag.1 hx;obtain⟨s1,s9⟩:=hB.sz b hb;have w:=NmZ.wd (hB.nm b hb);exact Sz.tup (W:=62) (E:=0) (Sz.str (by have:=w.le;omega) w.asc (.int ⋯ .nil)) .nil
 rw[um] at this;exact this.mono (by have:=hB.len;omega) (uv _)
theorem zav{z:Str}{W E:Nat}{r:pR Xv}(h:Uo z)(h2:Sz W E r):Sz (31+W) E (.str z::r):= .str (by have:=h.le;omega) h.asc h2
theorem zih{a b:Xv}{s:Str}{W E:Nat}{r:pR Xv}(hs:s∈TS)(ha:SOp a)(hb:SOp b)(h2:Sz W (E+1) r):Sz (94+W) (E+1) (.tup [a,.str s,b]::r):=by
 have sw:Uo s:=by
  rcases zfY hs with⟨z,e,h⟩|⟨v,e,_⟩
  .cases e;exact h
  .cases e
 exact(Sz.tup (E:=E) (ha.sz (zav sw (hb.sz .nil))) h2).mono ⋯ (uv _)
theorem zii{E:Nat}:∀{us:pR (pR Xv)} {rss:pR (pR (pR Xv))},us.length=rss.length->(∀(i:Nat) u r,us[i]? =iJ u->rss[i]? =iJ r->Sz (450*r.length) E u)->Sz (450*(yT bw rss).length+us.length) (E+1) (us.map Xv.tup)
 |[],rss,_,_=>Sz.nil.mono (uZ _) (uv _)
 |[u],rss,hl,h=>by
  match rss,hl with
  |[r],_=>exact(Sz.tup (h 0 u r rfl rfl) .nil).mono (show 450*r.length+1+0<=450*r.length+1 by omega) (uv _)
 |u::v::t,rss,hl,h=>by
  match rss,hl with
  |r::s::rt,hl=>
   have ih:=zii (bw:=bw) (E:=E) (us:=v::t) (rss:=s::rt) (by simpa using hl) λi u r a b=>h (i+1) u r (by simpa using a) (by simpa using b);refine(Sz.tup (h 0 u r rfl rfl) ih).mono ?_ (uv _);have e:(yT bw (r::s::rt)).length=r.length+((yT bw (s::rt)).length+1):=by
    show(r++w1 bw::yT bw (s::rt)).length=_;rw[ur,uw]
   rw[e];simp only[uw];omega
theorem zf7{E:Nat}:∀{ds:pR Xv} {rss:pR (pR (pR Xv))},ds.length=rss.length->(∀(i:Nat) x r,ds[i]? =iJ x->rss[i]? =iJ r->Sz (450*r.length) E [x])->Sz (450*rss.flatten.length) E ds
 |[],rss,_,_=>Sz.nil.mono (uZ _) (uv _)
 |x::t,rss,hl,h=>by
  match rss,hl with
  |r::rt,hl=>
   have ih:=zf7 (E:=E) (ds:=t) (rss:=rt) (by simpa using hl) λi u r a b=>h (i+1) u r (by simpa using a) (by simpa using b);refine((h 0 x r rfl rfl).cons ih).mono ?_ (uv _);rw[Aj,ur];omega
def SzP:Kd->pR (pR Xv)->Nat->Prop
 | .d x,rows,q=>Sz (450*rows.length) (3*q+2) [x]
 | .b ds,rows,q=>Sz (450*rows.length) (3*q+2) ds
 | .s _,_,_=>True
theorem Pg.sz(h:Pg kd rows q):SzP kd rows q:=by
 induction h with
 |plain h=>exact h.sz.mono (show 450<=450*1 by decide) ⋯
 | @nest x us rss hd bw q h1 h2 _ ih=>
  have ih:∀(i:Nat) u r,us[i]? =iJ u->rss[i]? =iJ r->Sz (450*r.length) (3*q+2) u:=ih;have bl:=zii (bw:=bw) h2 ih;show Sz (450*(hd::(yT bw rss++[w1 "end"])).length) (3*(q+1)+2) [x];rw[uw,ur,uF];cases h1 with
  | @cond a b s u v hs ha hb=>exact(Sz.tup (E:=3*q+3) (zav (vL ∅) (zih hs ha hb bl)) .nil).mono (by show _<=_;have:([u,v]:pR (pR Xv)).length=2:=rfl;omega) ⋯
  | @whil a b s u hs ha hb=>exact(Sz.tup (E:=3*q+3) (zav (vL ∅) (zih hs ha hb bl)) .nil).mono (by have:([u]:pR (pR Xv)).length=1:=rfl;omega) ⋯
  | @times k u h0 h9=>exact(Sz.tup (E:=3*q+3) (zav (vL ∅) (Sz.int ⋯ bl)) .nil).mono (by have:([u]:pR (pR Xv)).length=1:=rfl;omega) ⋯
  |hand ha hb=>exact(Sz.tup (E:=3*q+4) (zav (vL ∅) (Sz.tup (E:=3*q+3) bl .nil)) .nil).mono ⋯ ⋯
 |blk h1 _ ih=>exact zf7 h1 ih
theorem zlz(hB:Xz 1000 bs)(h:Pg (.b ds) rows q)(hq:q<=12)(hl:rows.length<=1000):∃z:Str,∀S,WU [.tup [.tup (bs.map yx),.tup ds]] S=iJ (.str z,S):=by
 have hs:Sz (450*rows.length) (3*q+2) ds:=h.sz;exact Sz.rep (W:=630+1+(450*1000+1+0)+1+0) (E:=40) (Sz.tup (E:=39) (Sz.tup (E:=38) (hB.sz1.mono (uv _) ∅) (Sz.tup (E:=38) (hs.mono ⋯ ⋯) .nil)) .nil) ∅ ∅
theorem zjb(hB:Us bs)(h:Pg (.b ds) rows q)(hq:q<=12)(hl:rows.length<=2000)(hx:x= .tup ds\/∃m,x= .ref m/\S[m]? =iJ (.lst ds)):
  W (Zz fu [.tup (bs.map yx),x] S) λv S'=>∃n,v= .ref n/\S'[n]? =iJ (.lst ((bs.map yW++rows.map yP).map Xv.str))/\S.length<=n/\Kn S S':=by
 have hb:=hB.1;walk_at "wr";unfold wT;ext;refine Zp (xs:=bs.map yx) (f:=λi=> .str (yW (bs.getD i ("",0)))) (by rw[um];exact yX ⋯) (UY (by ext;exact⟨rfl,Kn.refl⟩)) ?_ ?_
 .intro i w S2 hw k2;rw[uA,uH] at hw;obtain⟨b,e,rfl⟩:=hw;obtain⟨il,s1,s9⟩:=hB.2 b (x8 e);rw[uz,e];refine zna (b:=b) il s1 s9 (λS=> ?_) (λS=> ?_) ⟨rfl,Kn.refl⟩
  .show W (eOp zS (za 0) (q8 0) [iJ (.tup [.str b.1,.int b.2])] S) _;ext;exact⟨rfl,rfl⟩
  .show W (eOp zS (za 0) (q8 1) [iJ (.tup [.str b.1,.int b.2])] S) _;ext;exact⟨rfl,rfl⟩
 intro S2 k2;rw[um,zlu];have pQ:(S2++[Ce.lst ((bs.map yW).map Xv.str)])[S2.length]? =iJ (.lst ((bs.map yW).map Xv.str)):=zL;have k1:Kn S (S2++[Ce.lst ((bs.map yW).map Xv.str)]):=k2.app;generalize S2++[Ce.lst ((bs.map yW).map Xv.str)]=S3 at pQ k1 ⊢;generalize S2.length=n1 at pQ ⊢;ext;refine(zn0 h 40 S3 x ⋯ hl (by rcases hx with rfl|⟨m,rfl,e⟩;exact .inl rfl;exact .inr ⟨m,rfl,k1.at e⟩)).imp ?_;rintro _ S4 ⟨n,rfl,hn,_,k4⟩;ext;refine zm9 (zj (k4.at pQ)) (zj hn) (z3 (szM (by rw[UH,um,um];omega))) ?_;refine⟨_,rfl,?_,(k1.trans k4).1,(k1.trans k4).app⟩;show _=iJ (Ce.lst ((bs.map yW++rows.map yP).map Xv.str));rw[zL,uO,Af (l:=rows)];rfl
theorem zlA:L2.XX (r++[x]) jr (iJ (-1))=r:=by
 unfold L2.XX;rw[HT.zbV];have:HT.sIx (r++[x]).length (r++[x]).length (iJ (-1))=r.length:=by
  show(if (-1:Int)<0 then ((-1:Int)+((r++[x]).length:Int)).toNat else min (-1:Int).toNat (r++[x]).length)=_;rw[if_pos ∅,ur];simp only[uw,CW];omega
 rw[this];simp
theorem Tr.split{l1:pR Xv}{n:Int}{q c:Nat}{g:Bool}(h:Tr bs (.b (l1++l2)) n q g c):∃(n1 n2:Int) (q1 q2:Nat) (g1 g2:Bool) (c1 c2:Nat),Tr bs (.b l1) n1 q1 g1 c1/\Tr bs (.b l2) n2 q2 g2 c2/\n=n1+n2/\q=max q1 q2/\g=(g1&&g2)/\c+1=c1+c2:=by
 induction l1 generalizing n q c g with
 |nil=>exact⟨0,n,0,q,jD,g,1,c,.nil,h,⋯,⋯,rfl,⋯⟩
 |cons x r i=>
  rw[A5] at h;cases h with
  |cons t1 t2=>
   obtain⟨n1,n2,q1,q2,g1,g2,c1,c2,h1,h2,rfl,rfl,rfl,hc⟩:=i t2;exact⟨_,n2,_,q2,_,g2,_,c2,.cons t1 h1,h2,⋯,⋯,by rw[Bp],⋯⟩
theorem GB.init(h:GB bs (r++[x]) q c):GB bs r q c:=by
 obtain⟨n,q1,c1,rows,tr,a1,b1,p,d⟩:=h;obtain⟨n1,n2,q1,q2,g1,g2,c1,c2,h1,h2,rfl,rfl,hg,pA⟩:=tr.split;obtain⟨rfl,rfl⟩:=za4 hg;have jb:1+1<=c2:=h2.cnt;cases p with
 | @blk _ rss _ hl p=>
  rw[ur,uF] at hl;refine⟨n1,q1,c1,(rss.take r.length).flatten,h1,⋯,⋯,.blk (by rw[z4];omega) λi y s e1 e2=> ?_,?_⟩
  .have hi:=(uq.1 e1).1;rw[CG hi] at e2;exact p i y s (by rw[uB hi];exact e1) e2
  .have:(rss.take r.length).flatten.length<=rss.flatten.length:=by
    conv=>rhs;rw[<-Bo r.length rss,Ao,ur]
    omega
   omega
theorem zlB(au:S[m]? =iJ (.lst (l++[x])))(k:N (r0::r1::iJ (.ref S.length)::rr) (S++[.lst l])):WS (zH (eSl Yy (za 2) oNo (vg (eUn zd8 (q8 1)))) (gN 2) (r0::r1::iJ (.ref m)::rr) S) N R:=by
 ext;refine VP (zj au) ?_;rw[show(-(1:Int))= -1 from rfl,zlA];exact k
theorem Nd.inv(h:Nd (.tup (.str w::r)) us tk bk):
  (bk=nW/\us=[]/\w≠"if"/\w≠"while"/\w≠"times"/\w≠"hand")\/(bk=jD/\((w="if"/\∃t u v,r=[t,.tup u,.tup v]/\us=[u,v]/\tk=jr)\/(w="while"/\∃t u,r=[t,.tup u]/\us=[u]/\tk=jr)\/(w="times"/\∃k u,r=[.int k,.tup u]/\us=[u]/\tk=iJ k)\/(w="hand"/\r=[.tup (us.map Xv.tup)]/\tk=jr))):=by
 generalize hx:Xv.tup (.str w::r)=x at h;cases h with
 |plain h1 h2 h3 h4=>
  cases hx;exact .inl ⟨rfl,rfl,h1,h2,h3,h4⟩
 |cond=>cases hx;exact .inr ⟨rfl,.inl ⟨rfl,_,_,_,rfl,rfl,rfl⟩⟩
 |whil=>cases hx;exact .inr ⟨rfl,.inr (.inl ⟨rfl,_,_,rfl,rfl,rfl⟩)⟩
 |times=>cases hx;exact .inr ⟨rfl,.inr (.inr (.inl ⟨rfl,_,_,rfl,rfl,rfl⟩))⟩
 |hand=>cases hx;exact .inr ⟨rfl,.inr (.inr (.inr ⟨rfl,rfl,rfl⟩))⟩
theorem zbj{a b:pR (pR Xv)}(h:a.map Xv.tup=b.map Xv.tup):a=b:=by
 induction a generalizing b with
 |nil=>cases b with
  |nil=>rfl
  |cons=>cases h
 |cons x a i=>cases b with
  |nil=>cases h
  |cons y b=>
   rw[uV,uV] at h;obtain⟨h1,h2⟩:=x9 h;cases h1;rw[i h2]
theorem Nx.same(h:Nx x us hd bw)(nd:Nd x nu tk bk):nu=us/\bk=jD:=by
 cases h with
 |cond=>
  rcases nd.inv with⟨_,_,h,_⟩|⟨rfl,⟨_,t,u,v,e,e2,_⟩|⟨h,_⟩|⟨h,_⟩|⟨h,_⟩⟩
  .exact absurd rfl h
  .cases e;exact⟨e2,rfl⟩
  .exact absurd h ∅
  .exact absurd h ∅
  .exact absurd h ∅
 |whil=>
  rcases nd.inv with⟨_,_,_,h,_⟩|⟨rfl,⟨h,_⟩|⟨_,t,u,e,e2,_⟩|⟨h,_⟩|⟨h,_⟩⟩
  .exact absurd rfl h
  .exact absurd h ∅
  .cases e;exact⟨e2,rfl⟩
  .exact absurd h ∅
  .exact absurd h ∅
 |times=>
  rcases nd.inv with⟨_,_,_,_,h,_⟩|⟨rfl,⟨h,_⟩|⟨h,_⟩|⟨_,k,u,e,e2,_⟩|⟨h,_⟩⟩
  .exact absurd rfl h
  .exact absurd h ∅
  .exact absurd h ∅
  .cases e;exact⟨e2,rfl⟩
  .exact absurd h ∅
 |hand=>
  rcases nd.inv with⟨_,_,_,_,_,h⟩|⟨rfl,⟨h,_⟩|⟨h,_⟩|⟨h,_⟩|⟨_,e,_⟩⟩
  .exact absurd rfl h
  .exact absurd h ∅
  .exact absurd h ∅
  .exact absurd h ∅
  .obtain⟨e1,_⟩:=x9 e;have e1:=Xv.tup.inj e1;exact⟨(zbj e1).symm,rfl⟩
theorem Pl.flat(h:Pl x ps)(nd:Nd x us tk bk):bk=nW/\us=[]:=by
 obtain⟨_,_,w,r,rfl,hw⟩:=h.pts;obtain⟨r2,hx⟩:∃r2,x= .tup (.str w::r2):=by
  generalize ja:Xv.str w::r=ps at h;cases h<;>(obtain⟨e1,_⟩:=x9 ja;cases e1;exact⟨_,rfl⟩)
 subst hx;have hw:w="pass"\/w="gain"\/w="look"\/w="set"\/w="draw":=by simpa using hw
 rcases nd.inv with⟨h1,h2,_⟩|⟨_,⟨h,_⟩|⟨h,_⟩|⟨h,_⟩|⟨h,_⟩⟩
 .exact⟨h1,h2⟩
 all_goals (subst h;exact absurd hw ∅)
theorem Pg.app(h:Pg (.b l) r q)(g:Pg (.b l') r' q):Pg (.b (l++l')) (r++r') q:=by
 cases h with
 | @blk _ rss _ hl h=>
 cases g with
 | @blk _ rss' _ mK h'=>
  rw[<-Ao];refine .blk (by rw[ur,ur,hl,mK]) λi y s h1 h2=> ?_;by_cases hi:i<l.length
  .rw[uB hi] at h1;rw[uB ⋯] at h2;exact h i y s h1 h2
  .rw[uL ⋯] at h1;rw[uL ⋯,<-hl] at h2;exact h' _ y s h1 h2
def DpP(bs:pR (Str×Int)):Kd->pR (pR Xv)->Nat->Prop
 | .d x,_,q=>∀n p g c,Tr bs (.d x) n p g c->p<=q
 | .b ds,_,q=>∀n p g c,Tr bs (.b ds) n p g c->p<=q
 | .s _,_,_=>True
theorem zij{ds:pR Xv}(hi:∀(i:Nat) x,ds[i]? =iJ x->∀n p g c,Tr bs (.d x) n p g c->p<=q):∀n p g c,Tr bs (.b ds) n p g c->p<=q:=by
 induction ds with
 |nil=>intro n p g c h;cases h;exact uZ _
 |cons x r k=>
  intro n p g c h;cases h with
  |cons h1 h2=>exact D9.2 ⟨hi 0 x rfl _ _ _ _ h1,k (λi x e=>hi (i+1) x e) _ _ _ _ h2⟩
theorem zik{us:pR (pR Xv)}(hi:∀(i:Nat) u,us[i]? =iJ u->∀n p g c,Tr bs (.b u) n p g c->p<=q):∀n p g c,Tr bs (.s us) n p g c->p<=q:=by
 induction us with
 |nil=>intro n p g c h;cases h;exact uZ _
 |cons x r k=>
  intro n p g c h;cases h with
  |conss h1 h2=>exact D9.2 ⟨hi 0 x rfl _ _ _ _ h1,k (λi x e=>hi (i+1) x e) _ _ _ _ h2⟩
theorem Pg.dp(h:Pg kd rows q):DpP bs kd rows q:=by
 induction h with
 |plain h=>
  intro n p g c tr;cases tr with
  |deed nd _ _=>
   obtain⟨rfl,rfl⟩:=h.flat nd;exact uZ _
 | @nest x us rss hd bw q h1 h2 _ ih=>
  intro n p g c tr;cases tr with
  |deed nd _ t=>
   obtain⟨rfl,rfl⟩:=h1.same nd;have:=zik (bs:=bs) (q:=q) (λi u e=>ih i u _ e (uo (by have:=(uq.1 e).1;omega))) _ _ _ _ t;rw[if_pos rfl];omega
 | @blk ds rss q h1 _ ih=>exact zij λi x e=>ih i x _ e (uo (by have:=(uq.1 e).1;omega))
noncomputable def hdW:Xv->Str
 | .tup (.str w::_)=>w
 |_=>""
theorem Own.if_inv{s:Str}(ow:Own bs (.tup [.str "if",.tup [a,.str s,c],u,v]) b):WD a/\WD c/\b=(opF bs a&&opF bs c):=by
 generalize hx:Xv.tup [.str "if",.tup [a,.str s,c],u,v]=x at ow;cases ow with
 |cond h1 h2=>cases hx;exact⟨h1,h2,rfl⟩
 |_=>exact absurd (congrArg hdW hx) (by simp only[hdW];decide)
theorem Own.while_inv{s:Str}(ow:Own bs (.tup [.str "while",.tup [a,.str s,c],u]) b):WD a/\WD c/\b=(opF bs a&&opF bs c):=by
 generalize hx:Xv.tup [.str "while",.tup [a,.str s,c],u]=x at ow;cases ow with
 |whil h1 h2=>cases hx;exact⟨h1,h2,rfl⟩
 |_=>exact absurd (congrArg hdW hx) (by simp only[hdW];decide)
theorem Own.times_inv(ow:Own bs (.tup [.str "times",.int k,u]) b):b=decide (0<=k/\k<=60):=by
 generalize hx:Xv.tup [.str "times",.int k,u]=x at ow;cases ow with
 |times=>cases hx;rfl
 |_=>exact absurd (congrArg hdW hx) (by simp only[hdW];decide)
theorem Own.hand_inv{us:pR Xv}(ow:Own bs (.tup [.str "hand",.tup us]) b):us.length<=100/\b=decide (2<=us.length/\us.length<=8):=by
 generalize hx:Xv.tup [.str "hand",.tup us]=x at ow;cases ow with
 |hand h=>cases hx;exact⟨h,rfl⟩
 |_=>exact absurd (congrArg hdW hx) (by simp only[hdW];decide)
theorem Nx.sub(h:Nx x us hd bw)(nd:Nd x us tk jD)(ow:Own bs x b)(hl:us'.length=us.length):∃x',Nx x' us' hd bw/\Nd x' us' tk jD/\Own bs x' b:=by
 cases h with
 | @cond a c s u v hs ha hb=>
  match us',hl with
  |[u',v'],_=>
   rcases nd.inv with⟨z,_⟩|⟨_,⟨_,t,u,v,e,e2,rfl⟩|⟨h,_⟩|⟨h,_⟩|⟨h,_⟩⟩
   .cases z
   .obtain⟨h1,h2,rfl⟩:=ow.if_inv;exact⟨_,.cond hs ha hb,.cond,.cond h1 h2⟩
   .exact absurd h ∅
   .exact absurd h ∅
   .exact absurd h ∅
 | @whil a c s u hs ha hb=>
  match us',hl with
  |[u'],_=>
   rcases nd.inv with⟨z,_⟩|⟨_,⟨h,_⟩|⟨_,t,u,e,e2,rfl⟩|⟨h,_⟩|⟨h,_⟩⟩
   .cases z
   .exact absurd h ∅
   .obtain⟨h1,h2,rfl⟩:=ow.while_inv;exact⟨_,.whil hs ha hb,.whil,.whil h1 h2⟩
   .exact absurd h ∅
   .exact absurd h ∅
 | @times k u h0 h9=>
  match us',hl with
  |[u'],_=>
   rcases nd.inv with⟨z,_⟩|⟨_,⟨h,_⟩|⟨h,_⟩|⟨_,k2,u,e,e2,rfl⟩|⟨h,_⟩⟩
   .cases z
   .exact absurd h ∅
   .exact absurd h ∅
   .cases e;obtain rfl:=ow.times_inv;exact⟨_,.times h0 h9,.times,.times⟩
   .exact absurd h ∅
 | @hand us h2 pK=>
  rcases nd.inv with⟨z,_⟩|⟨_,⟨h,_⟩|⟨h,_⟩|⟨h,_⟩|⟨_,e,rfl⟩⟩
  .cases z
  .exact absurd h ∅
  .exact absurd h ∅
  .exact absurd h ∅
  .obtain⟨h3,rfl⟩:=ow.hand_inv;rw[um,<-hl,<-um (f:=Xv.tup) (as:=us')];rw[um] at h3;exact⟨_,.hand ⋯ ⋯,.hand,.hand (by rw[um];omega)⟩
section
def zpE(bs:pR (Str×Int))(br:pR (pR Xv))(m:Int)(ge:Bool)(e:Nat):Kd->pR (pR Xv)->Nat->Prop
 | .d x,rows,q=>∀n p g c,Tr bs (.d x) n p g c->∀a,1<=a->a<rows.length->∃x' n' p' c',Pg (.d x') (rows.take a++(br++rows.drop a)) (q+1)/\Tr bs (.d x') n' p' (g&&ge) c'/\n+m<=n'/\c'<=c+e
 | .b ds,rows,q=>∀n p g c,Tr bs (.b ds) n p g c->∀a,a<=rows.length->∃ds' n' p' c',Pg (.b ds') (rows.take a++(br++rows.drop a)) (q+1)/\Tr bs (.b ds') n' p' (g&&ge) c'/\n+m<=n'/\c'<=c+e
 | .s _,_,_=>True
theorem zf8(hP:Pg (.b es) br 1)(hT:Tr bs (.b es) m pe ge e)(he:1<=e):∀{ds:pR Xv} {rss:pR (pR (pR Xv))},ds.length=rss.length->(∀(i:Nat) x r,ds[i]? =iJ x->rss[i]? =iJ r->Pg (.d x) r q/\zpE bs br m ge e (.d x) r q)->∀n p g c,Tr bs (.b ds) n p g c->∀a,a<=rss.flatten.length->
  ∃ds' n' p' c',Pg (.b ds') (rss.flatten.take a++(br++rss.flatten.drop a)) (q+1)/\Tr bs (.b ds') n' p' (g&&ge) c'/\n+m<=n'/\c'<=c+e
 |[],rss,hl,hi,n,p,g,c,tr,a,ha=>by
  match rss,hl with
  |[],_=>
   cases tr;have:a=0:=Nat.le_zero.1 ha;subst this;refine⟨es,m,pe,e,?_,by rw[As];exact hT,⋯,⋯⟩;show Pg (.b es) ([]++(br++[])) (q+1);rw[BG,z6];exact hP.mono ⋯
 |x::ds,rss,hl,hi,n,p,g,c,tr,a,ha=>by
  match rss,hl with
  |r::rss,hl=>
   have hl:ds.length=rss.length:=by simpa using hl
   have kO:Pg (.b ds) rss.flatten q:= .blk hl λi x r h1 h2=>(hi (i+1) x r (by simpa using h1) (by simpa using h2)).1;obtain⟨hx,rE⟩:=hi 0 x r rfl rfl;have qR:=tr;cases tr with
   | @cons _ _ n1 m1 q1 p1 c1 e1 g1 h1 t1 t2=>
   rw[Aj] at ha ⊢;by_cases h0:a=0
   .subst h0;obtain⟨c',hc,t⟩:=Tr.app qR hT;refine⟨es++x::ds,_,_,c',?_,by rw[Bool.and_comm];exact t,⋯,⋯⟩;rw[DT,E8,BG];refine(hP.mono ⋯).app ?_;have:=(hx.one.app kO).mono (p:=q+1) ⋯;exact this
   .by_cases h2:a<r.length
    .obtain⟨x',n',p',c',px,tx,hn,hc⟩:=rE _ _ _ _ t1 a ⋯ h2;refine⟨x'::ds,n'+m1,max p' p1,c'+e1,?_,?_,?_,?_⟩;rotate_left
     .rw[show(g1&&h1&&ge)=((g1&&ge)&&h1) by cases g1<;>cases h1<;>cases ge<;>rfl];exact Tr.cons tx t2
     .omega
     .omega
     .rw[AG ⋯,AH ⋯];have:=px.one.app (kO.mono (p:=q+1) ⋯);rw[uM,uM] at this;exact this
    .rw[ur] at ha;obtain⟨ds',n',p',c',pd,td,hn,hc⟩:=zf8 hP hT he (ds:=ds) (rss:=rss) hl (λi x r h1 h2=>hi (i+1) x r (by simpa using h1) (by simpa using h2)) _ _ _ _ t2 (a-r.length) ⋯;refine⟨x::ds',n1+n',max q1 p',c1+c',?_,?_,?_,?_⟩;rotate_left
     .rw[Bp];exact Tr.cons t1 td
     .omega
     .omega
     .rw[List.take_append,List.drop_append,Bh ⋯,List.drop_of_length_le (by omega:r.length<=a),BG];have:=(hx.one.mono (p:=q+1) ⋯).app pd;rw[<-uM] at this;exact this
theorem zil:∀{us:pR (pR Xv)} {rss:pR (pR (pR Xv))},us≠[]->us.length=rss.length->(∀(i:Nat) u r,us[i]? =iJ u->rss[i]? =iJ r->Pg (.b u) r q/\zpE bs br m ge e (.b u) r q)->∀n p g c,Tr bs (.s us) n p g c->∀a,a<=(yT bw rss).length->
  ∃us' rss' n' p' c',us'.length=us.length/\us'.length=rss'.length/\(∀(i:Nat) u r,us'[i]? =iJ u->rss'[i]? =iJ r->Pg (.b u) r (q+1))/\yT bw rss'=(yT bw rss).take a++(br++(yT bw rss).drop a)/\Tr bs (.s us') n' p' (g&&ge) c'/\n+m<=n'/\c'<=c+e
 |[],_,h,_,_,_,_,_,_,_,_,_=>absurd rfl h
 |[u],rss,_,hl,hi,n,p,g,c,tr,a,ha=>by
  match rss,hl with
  |[r],_=>
   cases tr with
   |conss t1 t2=>
   cases t2;obtain⟨u',n',p',c',pu,tu,hn,hc⟩:=(hi 0 u r rfl rfl).2 _ _ _ _ t1 a ha;refine⟨[u'],[_],n'+0,max p' 0,c'+0,rfl,rfl,?_,rfl,?_,?_,?_⟩
   .intro i v s h1 h2
    match i with
    |0=>cases h1;cases h2;exact pu
    |i+1=>simp at h1
   .rw[Bw];have:=Tr.conss tu .nils;rw[Bw] at this;exact this
   .omega
   .omega
 |u::v::t,rss,_,hl,hi,n,p,g,c,tr,a,ha=>by
  match rss,hl with
  |r::s::rt,hl=>
   cases tr with
   | @conss _ _ n1 m1 q1 p1 c1 e1 g1 h1 t1 t2=>
   have es:yT bw (r::s::rt)=r++w1 bw::yT bw (s::rt):=rfl;rw[es] at ha ⊢;rw[ur,uw] at ha;by_cases h2:a<=r.length
   .obtain⟨u',n',p',c',pu,tu,hn,hc⟩:=(hi 0 u r rfl rfl).2 _ _ _ _ t1 a h2;refine⟨u'::v::t,(r.take a++(br++r.drop a))::s::rt,n'+m1,max p' p1,c'+e1,rfl,by simpa using hl,?_,?_,?_,?_,?_⟩;rotate_left 2
    .rw[show(g1&&h1&&ge)=((g1&&ge)&&h1) by cases g1<;>cases h1<;>cases ge<;>rfl];exact Tr.conss tu t2
    .omega
    .omega
    .intro i z y e1 e2
     match i with
     |0=>cases e1;cases e2;exact pu
     |i+1=>exact(hi (i+1) z y (by simpa using e1) (by simpa using e2)).1.mono ⋯
    .rw[AG h2,AH h2];show(r.take a++(br++r.drop a))++w1 bw::yT bw (s::rt)=_;simp only[uM]
   .obtain⟨us',rss',n',p',c',l1,l2,pu,es',tu,hn,hc⟩:=zil (bw:=bw) (us:=v::t) (rss:=s::rt) (by intro z;cases z) (by simpa using hl) (λi u r h1 h2=>hi (i+1) u r (by simpa using h1) (by simpa using h2)) _ _ _ _ t2 (a-r.length-1) ⋯;have m3:us'.length=t.length+1:=l1;obtain⟨s',rt',rfl⟩:∃s' rt',rss'=s'::rt':=by
     match rss',l2 with
     |[],h=>exact absurd (show us'.length=0 from h) ⋯
     |s'::rt',_=>exact⟨s',rt',rfl⟩
    refine⟨u::us',r::s'::rt',n1+n',max q1 p',c1+c',by rw[uw,m3];rfl,by rw[uw,l2];rfl,?_,?_,?_,?_,?_⟩;rotate_left 2
    .rw[Bp];exact Tr.conss t1 tu
    .omega
    .omega
    .intro i z y e1 e2
     match i with
     |0=>cases e1;cases e2;exact(hi 0 u r rfl rfl).1.mono ⋯
     |i+1=>exact pu i z y (by simpa using e1) (by simpa using e2)
    .show r++w1 bw::yT bw (s'::rt')=_;obtain⟨b,hb⟩:∃b,a=r.length+(b+1):=⟨a-r.length-1,⋯⟩;subst hb;rw[es',show r.length+(b+1)-r.length-1=b by omega,Cr,Ct,BE,Dj];simp only[uM,A5]
theorem zqZ(hP:Pg (.b es) br 1)(hT:Tr bs (.b es) m pe ge e)(he:1<=e)(hm:0<=m)(h:Pg kd rows q):zpE bs br m ge e kd rows q:=by
 induction h with
 |plain h=>
  intro n p g c tr a h1 h2;rw[uF] at h2;omega
 | @nest x us rss hd bw q nx h2 hp ih=>
  intro n p g c tr a h1 h3;rw[uw,ur,uF] at h3;cases tr with
  | @deed _ nu tk bk b g m2 p c nd ow t=>
  obtain⟨rfl,rfl⟩:=nx.same nd;have fj:nu≠[]:=by
   rintro rfl;cases nx with
   |hand h2 _=>exact absurd h2 ∅
  obtain⟨us',rss',n',p',c',l1,l2,pu,es',tu,hn,hc⟩:=zil (bw:=bw) (bs:=bs) (br:=br) (m:=m) (ge:=ge) (e:=e) fj h2 (λi u r e1 e2=>⟨hp i u r e1 e2,ih i u r e1 e2⟩) _ _ _ _ t (a-1) ⋯;obtain⟨x',nx',nd',ow'⟩:=nx.sub nd ow l1;refine⟨x',1+zdF tk n',1+p',c'+1,?_,?_,?_,?_⟩;rotate_left
  .rw[Bp];exact Tr.deed nd' ow' tu
  .have:zdF tk m2+m<=zdF tk n':=by
    cases tk with
    |none=>exact hn
    |some k=>
     show(if 1<k then k else 1)*(1+m2)+m<=(if 1<k then k else 1)*(1+n');have hk:1<=(if 1<k then k else 1):=by split<;>omega
     generalize (if 1<k then k else 1)=j at hk;have h4:j*(1+m2+m)<=j*(1+n'):=A6 ⋯ ⋯;have h5:1*m<=j*m:=Bf hk hm;rw[Bx j (1+m2) m] at h4;omega
   omega
  .omega
  .obtain⟨b,rfl⟩:∃b,a=b+1:=⟨a-1,⋯⟩;rw[BE,Dj,AG ⋯,AH ⋯];have:=Pg.nest nx' l2 pu;rw[es',show b+1-1=b from rfl] at this;simp only[uM,A5] at this ⊢;exact this
 | @blk ds rss q h1 hp ih=>
  intro n p g c tr a ha;exact zf8 hP hT he h1 (λi x r e1 e2=>⟨hp i x r e1 e2,ih i x r e1 e2⟩) _ _ _ _ tr a ha
end
end
section
theorem zdL:∀{l:pR Str},((l.map Xv.str).any λw=>zb8 w (.str z))=decide (z∈l)
 |[]=>by simp
 |a::r=>by
  rw[uV,C1,zdL (l:=r)];show(decide (a=z)||decide (z∈r))=_;by_cases h:a=z
  .subst h;simp
  .have:¬z=a:=λe=>h e.symm;simp[h,this]
theorem zcE:∀l:pR Str,(l.map Xv.str).all VM=jD
 |[]=>rfl
 |a::r=>by rw[uV,Aq,zcE r];rfl
theorem zf9{n:Nat}{z:Str}{l:pR Str}(h:ya S (.ref n)=iJ (l.map Xv.str))(k:P (.bl (!decide (z∈l))) S):WO (dIn jD (.str z) (.ref n) S) P:=by
 refine zcd (zdG h) (by rw[zcE];rfl) ?_;rw[zdL];simpa using k
theorem zlC{α:Type}[DecidableEq α]:∀{l m:pR α},l.Nodup->(∀x∈l,x∈m)->l.length<=m.length
 |[],m,_,_=>uZ _
 |a::r,m,nd,h=>by
  rw[Az] at nd;have ha:=h a (uK ..);have:=zlC (l:=r) (m:=m.erase a) nd.2 λx hx=>by
   have:x≠a:=λe=>nd.1 (e ▸ hx);rw[List.mem_erase_of_ne this];exact h x (uG _ hx)
  rw[List.length_erase_of_mem ha] at this;have hm:0<m.length:=List.length_pos_of_mem ha;rw[uw];omega
noncomputable def aj:pR Str:=[⟨#[97]⟩,⟨#[98]⟩,⟨#[99]⟩,⟨#[100]⟩,⟨#[101]⟩,⟨#[102]⟩,⟨#[103]⟩,⟨#[104]⟩,⟨#[105]⟩,⟨#[106]⟩]
theorem zga:ve "abcdefghij"=aj.map Xv.str:=by rfl
theorem zq0:aj.Nodup:=by decide
theorem zlD:∀z∈aj,AZ z/\z.length=1:=by
 intro z hz;have:∃n,n<26/\z=⟨#[97+n]⟩:=by
  simp only[aj,uU,B8,or_false] at hz;rcases hz with rfl|rfl|rfl|rfl|rfl|rfl|rfl|rfl|rfl|rfl
  .exact⟨0,∅,rfl⟩
  .exact⟨1,∅,rfl⟩
  .exact⟨2,∅,rfl⟩
  .exact⟨3,∅,rfl⟩
  .exact⟨4,∅,rfl⟩
  .exact⟨5,∅,rfl⟩
  .exact⟨6,∅,rfl⟩
  .exact⟨7,∅,rfl⟩
  .exact⟨8,∅,rfl⟩
  .exact⟨9,∅,rfl⟩
 obtain⟨n,hn,rfl⟩:=this;exact⟨AZ.one hn,rfl⟩
theorem zlE(hl:bs.length<=9):W (YR fu [.tup (bs.map yx)] S) λv S'=>∃z,v= .str z/\z∈aj/\z∉bs.map (·.1)/\Kn S S':=by
 walk_at "wr";unfold YQ;ext;refine Zp (xs:=bs.map yx) (f:=λi=> .str ((bs.getD i ("",0)).1)) (by rw[um];exact yX ⋯) (UY (by ext;exact⟨rfl,Kn.refl⟩)) ?_ ?_
 .intro i w S2 hw k2;rw[uA,uH] at hw;obtain⟨b,e,rfl⟩:=hw;unfold yx;ext;rw[uz,e];exact⟨rfl,Kn.refl⟩
 intro S2 k2;have pN:(y2 (bs.map yx).length).map (λi=>Xv.str ((bs.getD i ("",0)).1))=(bs.map (·.1)).map Xv.str:=by
  refine BV λi=> ?_;by_cases hi:i<bs.length
  .rw[uA,AI (by rw[um];exact hi),uA,uA,uo hi];show iJ (Xv.str _)=iJ (Xv.str _);rw[uz,uo hi];rfl
  .rw[x5 (by simp;omega),x5 (by simp;omega)]
 rw[pN];have au:(S2++[Ce.lst ((bs.map (·.1)).map Xv.str)])[S2.length]? =iJ (.lst ((bs.map (·.1)).map Xv.str)):=zL;generalize kE:S2++[Ce.lst ((bs.map (·.1)).map Xv.str)]=S3 at au ⊢;have k3:Kn S S3:=by rw[<-kE];exact k2.app
 ext;refine zbD (zhR ?_);ext;refine⟨*...*,_,rfl,?_⟩;rw[zga];refine zkM ∅ (λi es S4=>S4=S3/\es=((aj.take i).filter λz=> !decide (z∈bs.map (·.1))).map Xv.str) (λ_ _ _ _ _=>rfl) ?_ ⟨rfl,rfl⟩ ?_
 .rintro i w es S4 hw _ ⟨rfl,rfl⟩;rw[uA,uH] at hw;obtain⟨z,e,rfl⟩:=hw;have hi:=(uq.1 e).1;have htk:aj.take (i+1)=aj.take i++[z]:=by rw[w9 hi,(uq.1 e).2]
  refine .of rfl ?_;show W (bE (eOp (dIn jD) (za 0) (za 1)) [iJ (.str z),iJ (.ref S2.length)] S4) _;ext;refine zf9 (zj au) ?_;refine⟨_,rfl,λh=> ?_,λh=> ?_⟩
  .ext;refine⟨rfl,?_⟩;rw[htk,Dr,DG,h,if_pos rfl,uO];rfl
  .refine⟨rfl,?_⟩;rw[htk,Dr,DG,h,if_neg ∅,List.filter_nil,z6]
 .rintro es S4 _ ⟨rfl,rfl⟩;rw[um,z8];have fj:(aj.filter λz=> !decide (z∈bs.map (·.1)))≠[]:=by
   intro e;have:=zlC (m:=bs.map (·.1)) zq0 λx hx=>by
    rw[List.filter_eq_nil_iff] at e;simpa using e x hx
   rw[um] at this;have pK:aj.length=10:=rfl;omega
  generalize sR:(aj.filter λz=> !decide (z∈bs.map (·.1)))=fl at fj ⊢;cases fl with
  |nil=>exact absurd rfl fj
  |cons z r=>
   have hz:z∈aj.filter λz=> !decide (z∈bs.map (·.1)):=by rw[sR];exact uK ..
   rw[CK] at hz;ext;refine xo (zj zL) (z:= .str z) (vc (Int.le_refl 0) rfl) ?_;exact⟨z,rfl,hz.1,by simpa using hz.2,k3.app⟩
end
section
variable{S' S2:Sto}{x y:Xv}
def Te(e:TwE)(ρ:Rho)(z:Str):Prop:=∀S,W (e ρ S) λv S'=>v= .str z/\S=S'
theorem Te.c:Te (eC (.str z)) ρ z:=λS=>zmv ⟨rfl,rfl⟩
theorem Te.cat(h1:Te a ρ z)(h2:Te b ρ w)(hl:z.length+w.length<=100):Te (eOp zQ a b) ρ (z++w):=λS=>by
 refine zbe ((h1 S).imp ?_);rintro _ _ ⟨rfl,rfl⟩;refine(h2 S).imp ?_;rintro _ _ ⟨rfl,rfl⟩;exact xD (yX hl) ⟨rfl,rfl⟩
theorem Te.eq(h:Te e ρ z)(q:z=w):Te e ρ w:=q ▸ h
inductive TeL(ρ:Rho):List TwE->List Str->Prop where
 |nil:TeL ρ [] []
 |cons {e:TwE} {es:List TwE} {z:Str} {zs:List Str}:Te e ρ z->TeL ρ es zs->TeL ρ (e::es) (z::zs)
theorem TeL.w(h:TeL ρ es zs):∀S,W (evL es ρ S) λvs S'=>vs=zs.map Xv.str/\S=S':=by
 induction h with
 |nil=>exact λS=>zgJ ⟨rfl,rfl⟩
 |cons h1 _ ih=>
  intro S;refine zbC ((h1 S).imp ?_);rintro _ _ ⟨rfl,rfl⟩;refine(ih S).imp ?_;rintro _ _ ⟨rfl,rfl⟩;exact⟨rfl,rfl⟩
def RL(T:Sto)(e:TwE)(ρ:Rho)(ts:pR Str):Prop:=∀S,Kn T S->W (e ρ S) λv S'=>∃n,v= .ref n/\S'[n]? =iJ (.lst (ts.map Xv.str))/\Kn S S'
variable{T:Sto}
theorem RL.lst(h:TeL ρ es ts):RL T (yM es) ρ ts:=λS _=>by
 refine zgK ((h.w S).imp ?_);rintro _ _ ⟨rfl,rfl⟩;exact⟨_,rfl,zL,Kn.refl.app⟩
theorem RL.eq(h:RL T e ρ a)(q:a=b):RL T e ρ b:=q ▸ h
theorem RL.cat{ts us:pR Str}(h1:RL T a ρ ts)(h2:RL T b ρ us)(hl:ts.length+us.length<=900):RL T (eOp yI a b) ρ (ts++us):=λS k0=>by
 refine zbe ((h1 S k0).imp ?_);rintro _ S1 ⟨n,rfl,a1,k1⟩;refine(h2 S1 (k0.trans k1)).imp ?_;rintro _ S2 ⟨n2,rfl,a2,k2⟩;refine WO.of (show yI (.ref n) (.ref n2) S2=iJ (.ref S2.length,S2++[.lst (ts.map Xv.str++us.map Xv.str)]) from ?_) ⟨_,rfl,?_,(k1.trans k2).app⟩
 .unfold yI;rw[zj (k2.at a1),zj a2];exact if_pos (by rw[um,um];exact z3 (szM ⋯))
 .rw[zL,uO]
theorem RL.rep(hn:n<=900)(hm:∀S,Kn T S->W (m ρ S) λx S1=>x= .int (n:Int)/\Kn S S1):RL T (xu cap (iR1 m) (gN 0) xF (eC (.str z))) ρ (uI n z):=λS k0=>by
 refine Zp (xs:=Yl 0 n) (f:=λ_=> .str z) (by rw[vH];exact z3 (szM ⋯)) ?_ ?_ ?_
 .refine zcb ((hm S k0).imp ?_);rintro _ S1 ⟨rfl,k1⟩;exact⟨_,rfl,⟨⋯,⋯⟩,λ_ _=>by rw[A7],k1⟩
 .intro i w S2 _ _;exact zmv ⟨rfl,Kn.refl⟩
 .intro S2 k2;refine⟨_,rfl,?_,k2.app⟩;rw[zL,vH,BK,List.map_const',Cz]
def RLs(G:pR Str->Prop)(S:Sto)(l:pR Xv):Prop:=∀z∈l,∃n ts,z= .ref n/\S[n]? =iJ (.lst (ts.map Xv.str))/\G ts
theorem RLs.keep{G:pR Str->Prop}(h:RLs G S l)(k:Kn S S'):RLs G S' l:=λz hz=>by
 obtain⟨n,ts,a,b,c⟩:=h z hz;exact⟨n,ts,a,k.at b,c⟩
def Wn(T:Sto)(G:pR Str->Prop)(ρ:Rho)(es:pR TwE):Prop:=∀e∈es,∃ts,RL T e ρ ts/\G ts
theorem Wn.nil{G:pR Str->Prop}:Wn T G ρ []:=λe h=>by cases h
theorem Wn.cons{G:pR Str->Prop}(h:RL T e ρ ts)(g:G ts)(r:Wn T G ρ es):Wn T G ρ (e::es):=λz hz=>by
 rcases uU.1 hz with rfl|hz
 .exact⟨ts,h,g⟩
 .exact r z hz
theorem Wn.w{G:pR Str->Prop}:∀{es:pR TwE},Wn T G ρ es->∀S,Kn T S->W (evL es ρ S) λvs S'=>RLs G S' vs/\vs.length=es.length/\Kn S S'
 |[],_,S,_=>zgJ ⟨(λz h=>by cases h),rfl,Kn.refl⟩
 |e::es,h,S,k0=>by
  obtain⟨ts,h1,g⟩:=h e (uK ..);refine zbC ((h1 S k0).imp ?_);rintro _ S1 ⟨n,rfl,a1,k1⟩;refine(Wn.w (es:=es) (λz hz=>h z (uG _ hz)) S1 (k0.trans k1)).imp ?_;rintro vs S2 ⟨h2,l2,k2⟩;refine⟨λz hz=> ?_,by rw[uw,uw,l2],k1.trans k2⟩;rcases uU.1 hz with rfl|hz
  .exact⟨n,ts,rfl,k2.at a1,g⟩
  .exact h2 z hz
theorem Wn.lst{G:pR Str->Prop}{P:Xv->Sto->Prop}(h:Wn T G ρ es)(k0:Kn T S)(k:∀S' n l,S'[n]? =iJ (.lst l)->RLs G S' l->l.length=es.length->S.length<=n->Kn S S'->P (.ref n) S'):W (yM es ρ S) P:=by
 refine zgK ((h.w S k0).imp ?_);rintro vs S1 ⟨h1,l1,k1⟩;exact k _ _ vs zL (h1.keep Kn.refl.app) l1 k1.1 k1.app
theorem Wn.more{G:pR Str->Prop}(h:Wn T G ρ es)(k0:Kn T S)(hi:∀S,W (za i ρ S) λv S'=>v= .ref n/\S=S')(au:S[n]? =iJ (.lst l))(hl:RLs G S l)(hz:l.length+es.length<=900)
  (k:∀S' m l',S'[m]? =iJ (.lst l')->RLs G S' l'->l'.length=l.length+es.length->S.length<=m->Kn S S'->P (.ref m) S'):W (eOp yI (za i) (yM es) ρ S) P:=by
 refine zbe ((hi S).imp ?_);rintro _ _ ⟨rfl,rfl⟩;refine h.lst k0 λS1 m l1 a1 h1 e1 _ k1=> ?_;refine WO.of (show yI (.ref n) (.ref m) S1=iJ (.ref S1.length,S1++[.lst (l++l1)]) from ?_) (k _ _ (l++l1) zL ?_ (by rw[ur,e1]) k1.1 k1.app)
 .unfold yI;rw[zj (k1.at au),zj a1];exact if_pos (z3 (szM ⋯))
 .intro z hz;rcases uW.1 hz with hz|hz
  .exact (hl.keep k1.app) z hz
  .exact (h1.keep Kn.refl.app) z hz
theorem zeH{a b:Str}(h:a.cps.toList=b.cps.toList):a=b:=by
 cases a;cases b;simpa using h
theorem zim:∀(k:Nat) (p:Xv),(yP (p::uI k (.int v))).cps.toList=(tx p).cps.toList++(uI k ((" ":Str)++nt v).cps.toList).flatten
 |0,p=>by
  rw[List.replicate_zero,wv];simp
 |k+1,p=>by
  rw[Ba,wc,wV,wV,zim k (.int v),Ba,Aj,wV];simp only[uM];rfl
theorem zcF(hz:z=" "++nt v):yP (.str "draw":: .str n::uI k (.int v))=("draw "++n)++Txt.mul z k:=by
 apply zeH;rw[wc,wV,wV,zim,wV ("draw "++n),zh2,hz,wV "draw " n];simp only[uM];rfl
theorem zeI{z:Str}{k:Nat}:(Txt.mul z k).length=k*z.length:=by
 have:=congrArg BX (zh2 z k);rw[wW,List.length_flatten,BK,wW,List.sum_replicate_nat] at this;exact this
theorem Te.mul{e:TwE}{z:Str}{k:Nat}(h:∀S,W (e ρ S) λv S'=>v= .int (k:Int)/\S=S')(hk:k<=50)(hz:z.length<=50):Te (eOp TY (eC (.str z)) e) ρ (Txt.mul z k):=λS=>by
 refine zbe (zmv ((h S).imp ?_));rintro _ _ ⟨rfl,rfl⟩;exact zmU ⋯ ⋯ ⋯ ⟨rfl,rfl⟩
end
section
theorem zbM(h:z∉bs.map (·.1)):Wm bs z=jr:=by
 unfold Wm;rw[Option.map_eq_none_iff,List.find?_eq_none];intro b hb e;exact h (by rw[<-of_decide_eq_true e];exact BD hb)
theorem wH(h:Own bs x b)(e:b=b2):Own bs x b2:=e ▸ h
theorem zlF(hB:Xz 1000 bs)(hb:b∈bs)(hl:ws.length<=100):Own bs (.tup [.str "draw",.str b.1,.tup (ws.map Xv.int)]) (wOk ws b.2):=by
 have ow:=Own.draw (n:=b.1) hl (bs:=bs);rw[znX hB.nd hb] at ow;exact ow
theorem zlG(hB:Xz 1000 bs)(hz:z∉bs.map (·.1))(hb:b∈bs\/(bs=[]/\b=(z,2)))(hl:ws.length<=100)(hw:wOk ws b.2=nW):Own bs (.tup [.str "draw",.str b.1,.tup (ws.map Xv.int)]) nW:=by
 rcases hb with hb|⟨_,rfl⟩
 .exact wH (zlF hB hb hl) hw
 .refine wH (.draw hl) ?_;rw[zbM hz];rfl
theorem znc{s:Int}(h:(ws.length:Int)≠s):wOk ws s=nW:=by
 unfold wOk;rw[decide_eq_false h];rfl
def zaw(bs:pR (Str×Int))(len:Int)(ts:pR Str):Prop:=∃(es:pR Xv) (br:pR (pR Xv)) (m:Int) (pe:Nat) (ge:Bool) (e:Nat),ts=br.map yP/\Pg (.b es) br 1/\Tr bs (.b es) m pe ge e/\0<=m/\1<=e/\e<=120/\br.length<=110/\(ge=nW\/101<=len+m)
theorem Ut(pl:Pl (.tup (.str w::r)) ps)(ow:Own bs (.tup (.str w::r)) nW):zaw bs len [yP ps]:=by
 have hw:w≠"if"/\w≠"while"/\w≠"times"/\w≠"hand":=by
  generalize hx:Xv.tup (.str w::r)=x at pl;cases pl<;>(cases hx;decide)
 have t:=(Tr.deed (.plain hw.1 hw.2.1 hw.2.2.1 hw.2.2.2) ow .nils).one;exact⟨[_],[ps],_,_,_,_,rfl,(Pg.plain pl).one,t,∅,∅,∅,by show 1<=110;decide,.inl rfl⟩
theorem znd(h:0<=m):0<=zdF tk m:=by
 cases tk with
 |none=>exact h
 |some k=>
  show 0<=(if 1<k then k else 1)*(1+m);have hk:0<=(if 1<k then k else 1):=by split<;>omega
  exact D8 hk ⋯
theorem zcG(nx:Nx x us hd bw)(nd:Nd x us tk jD)(ow:Own bs x nW)(hl:us.length=rss.length)(hp:∀(i:Nat) u r,us[i]? =iJ u->rss[i]? =iJ r->Pg (.b u) r 0)(tr:Tr bs (.s us) m p jD c)(hm:0<=m)(hc:c<=100)(hs:(yT bw rss).length<=100):
  zaw bs len ((hd::(yT bw rss++[w1 "end"])).map yP):=by
 have t:=(Tr.deed nd ow tr).one;refine⟨[x],_,_,_,_,_,rfl,(Pg.nest nx hl hp).one,t,?_,⋯,⋯,?_,.inl rfl⟩
 .have:=znd (tk:=tk) hm;omega
 .rw[uw,ur,uF];omega
theorem zgb:∀n:Nat,Tr bs (.s (uI n [])) 0 0 jD n
 |0=> .nils
 |n+1=>by
  have:=Tr.conss (bs:=bs) .nil (zgb n);rw[Bn] at this;exact this
set_option tactic.hygienic true in
theorem zin:∀(i:Nat) u r,(uI n ([]:pR Xv))[i]? =iJ u->(uI n ([]:pR (pR Xv)))[i]? =iJ r->Pg (.b u) r 0:=by
 intro i u r h1 h2;rw[BO] at h1 h2;split at h1
 .rename_i hi;rw[if_pos hi] at h2;cases h1;cases h2;exact .nil
 .cases h1
theorem zlH:∀k:Nat,Tr bs (.b (uI k (.tup [.str "pass"]))) k 0 jD (k+1)/\Pg (.b (uI k (.tup [.str "pass"]))) (uI k [.str "pass"]) 1
 |0=>⟨.nil,.nil⟩
 |k+1=>by
  obtain⟨h1,h2⟩:=zlH k;have t1:Tr bs (.d (.tup [.str "pass"])) 1 0 jD 1:= .pl ∅ ∅ ∅ ∅ .pass;have t2:=Tr.cons t1 h1;refine⟨?_,?_⟩
  .rw[Ba,show((k+1:Nat):Int)=1+(k:Int) by omega,show k+1+1=1+(k+1) by omega];exact t2
  .exact ((Pg.plain (q:=1) .pass).one).app h2
theorem zlI{k:Nat}{len:Int}(h0:k<=101)(h:101<=len+k):zaw bs len (uI k "pass"):=by
 obtain⟨h1,h2⟩:=zlH (bs:=bs) k;refine⟨_,_,_,_,_,_,?_,h2,h1,⋯,⋯,⋯,by rw[Aw];omega,.inr h⟩;rw[BK,wv];rfl
local macro_rules | `(tactic| walk_at "tx") => `(tactic| (apply zeH; simp only [wc, wv, tx, wV, List.append_assoc]; rfl))
theorem zpF(z:Str):("set "++z)++" 1"=yP [.str "set",.str z,.int 1]:=by walk_at "tx"
theorem zpG(n z:Str):(("set "++n)++" ")++z=yP [.str "set",.str n,.str z]:=by walk_at "tx"
theorem zpH(n z:Str):(("set "++n)++" 1 + ")++z=yP [.str "set",.str n,.int 1,.str "+",.str z]:=by walk_at "tx"
theorem zpI(z:Str):"gain "++z=yP [.str "gain",.str z]:=by walk_at "tx"
theorem zne(z:Str):("draw "++z)++" 1 1"=yP [.str "draw",.str z,.int 1,.int 1]:=by walk_at "tx"
theorem znf(z:Str):("look "++z)++" = 0"=yP [.str "look",.str z,.str "=",.int 0]:=by walk_at "tx"
theorem zng(z:Str):"look 0 < "++z=yP [.str "look",.int 0,.str "<",.str z]:=by walk_at "tx"
theorem znh(z:Str):"while 0 = "++z=yP [.str "while",.int 0,.str "=",.str z]:=by walk_at "tx"
theorem zri(z:Str):("if "++z)++" # 1"=yP [.str "if",.str z,.str "#",.int 1]:=by walk_at "tx"
theorem zq1:("times 61":Str)=yP [.str "times",.int 61]:=by walk_at "tx"
theorem zrj:("times 999999999":Str)=yP [.str "times",.int 999999999]:=by walk_at "tx"
theorem r_w(z:Str):z=yP (w1 z):=by unfold w1;rw[wv];rfl
end
section
theorem zlJ(h0:0<=i)(h1:i<(if (bs.length:Int)>1 then (bs.length:Int) else 1)):∃b,(b∈bs\/(bs=[]/\b=e))/\atI (bs.map yx++[yx e]) i=iJ (yx b):=by
 cases hb:bs with
 |nil=>
  subst hb;have:i=0:=by simp at h1;omega
  subst this;exact⟨e,.inr ⟨rfl,rfl⟩,rfl⟩
 |cons c r=>
  have hi:i.toNat<bs.length:=by
   have:bs.length=r.length+1:=by rw[hb];rfl
   split at h1<;>omega
  refine⟨bs[i.toNat],.inl (by rw[<-hb];exact Au hi),?_⟩;rw[<-hb];refine vc h0 ?_;rw[uB (by rw[um];exact hi),uA,uo hi];rfl
theorem za6{s k:Nat}{z lit:Str}(hB:Xz 1000 bs)(hz:z∉bs.map (·.1))(hb:(n,(s:Int))∈bs\/(bs=[]/\(n,(s:Int))=(z,2)))(hn:NmZ n)(hk:1<=k/\k<=10)(hv:v=0\/v=1)(hw:wOk (uI k v) s=nW):zaw bs len [yP (.str "draw":: .str n::uI k (.int v))]:=by
 have e:uI k (Xv.int v)=(uI k v).map Xv.int:=by rw[BK]
 rw[e];refine Ut (.draw hn (by rw[Aw];omega) (by rw[Aw];omega) λw hw=> ?_) (zlG (b:=(n,(s:Int))) hB hz hb (by rw[Aw];omega) hw);rw[List.mem_replicate] at hw;rcases hv with rfl|rfl<;>omega
theorem zjc{mb:Nat}{l:pR Xv}{n:Int}{q c:Nat}(eh:Big fu)(hs:Sc ns S)(hB:Xz 1000 bs)(h9:bs.length<=9)(au:S[mb]? =iJ (.lst l))(tr:Tr bs (.b l) n q jD c)(hq:q<=13)(hc:c<=1000)(hn:0<=n/\n<=60):
  W (ZB fu [.ref 0,.tup (bs.map yx),.ref mb] S) λv S'=>∃m ts,v= .ref m/\S'[m]? =iJ (.lst (ts.map Xv.str))/\zaw bs n ts/\Kn S S':=by
 walk_at "wr";unfold wU;ext;refine(zlE h9).imp ?_;rintro _ S1 ⟨z,rfl,oy,hz,k1⟩;obtain⟨nU,zl⟩:=zlD z oy;have zn:NmZ z:=⟨⋯,⋯,nU⟩;have kX:opF bs (.str z)=nW:=by
  show(Wm bs z).isSome=nW;rw[zbM hz];rfl
 have zs:SOp (.str z):= .inl ⟨z,rfl,zn⟩;have zi:WD (.str z):= .inl ⟨z,rfl⟩;have ni:∀v:Int,WD (.int v):=λv=> .inr ⟨v,rfl⟩;have sn:∀{v:Int},0<=v->v<=999999999->SOp (.int v):=λh0 h1=> .inr ⟨_,rfl,h0,h1⟩;have jL:=hs.keep k1;ext;refine VN ?_;ext;refine zm5 (by rw[um];show _+1<=_;omega) ?_;ext;refine vF ?_;ext;rw[um];refine(yZ jL ∅ ∅ (show 0<(if (bs.length:Int)>1 then (bs.length:Int) else 1) by split<;>omega)).imp ?_;rintro _ _ ⟨rfl,d0,d1,rfl⟩;obtain⟨b,hb,cz⟩:=zlJ (e:=(z,2)) d0 d1;ext;refine xJ rfl cz ?_;have iW:NmZ b.1/\1<=b.2/\b.2<=9:=by
  rcases hb with hb|⟨_,rfl⟩
  .exact⟨hB.nm b hb,hB.sz b hb⟩
  .exact⟨zn,show(1:Int)<=2 by decide,show(2:Int)<=9 by decide⟩
 obtain⟨nm,bsz⟩:=b;obtain⟨il,s1,s9⟩:=iW;have il:NmZ nm:=il;have s1:1<=bsz:=s1;have s9:bsz<=9:=s9;obtain⟨s,rfl⟩:∃s:Nat,bsz=s:=⟨bsz.toNat,⋯⟩;have nl:nm.length<=8:=il.2.1;unfold yx;refine .of rfl ?_;dsimp only[y7];have v3:∀{a6:pT Xv},Te (za 3) [iJ (.ref 0),iJ (.tup (bs.map λb=> .tup [.str b.1,.int b.2])),iJ (.ref mb),iJ (.str z),iJ (.str nm),iJ (.int (s:Int)),a6] z:=λS=>by ext;exact⟨rfl,rfl⟩
 have v4:∀{a6:pT Xv},Te (za 4) [iJ (.ref 0),iJ (.tup (bs.map λb=> .tup [.str b.1,.int b.2])),iJ (.ref mb),iJ (.str z),iJ (.str nm),iJ (.int (s:Int)),a6] nm:=λS=>by ext;exact⟨rfl,rfl⟩
 have lt:∀(a:String),(Str.ofString a).length<=20->∀{w:Str},w.length<=8->(Str.ofString a).length+w.length<=100:=λa h w h2=>by omega
 have w5:((" 1":Str)).length=2:=rfl;have w6:((" 0":Str)).length=2:=rfl;have no:∀{k:Nat} {v:Int},k≠s->wOk (uI k v) s=nW:=λh=>znc (by rw[Aw];omega);have tj:∀w∈([1,1]:pR Int),0<=w/\w<=999999999:=by decide
 refine zh (wg ?_)
 refine Wn.lst (T:=S1) (G:=zaw bs n) (.cons (.lst (.cons (.eq (.cat (.cat .c v3 (by show 4+_<=100;omega)) .c (by rw[Str.length_append];show 4+_+2<=100;omega)) (zpF z)) .nil)) (Ut (.set1 zn (sn ∅ ∅)) (wH (.set1 (ni 1)) (by rw[zbM hz];rfl)))
  (.cons (.lst (.cons (.eq (.cat (.cat (.cat .c v4 (by show 4+_<=100;omega)) .c (by rw[Str.length_append];show 4+_+1<=100;omega)) v3 (by rw[Str.length_append,Str.length_append];show 4+_+1+_<=100;omega)) (zpG nm z)) .nil)) (Ut (.set1 il zs) (wH (.set1 zi) (by rw[kX,z7])))
  (.cons (.lst (.cons (.eq (.cat (.cat (.cat .c v4 (by show 4+_<=100;omega)) .c (by rw[Str.length_append];show 4+_+5<=100;omega)) v3 (by rw[Str.length_append,Str.length_append];show 4+_+5+_<=100;omega)) (zpH nm z)) .nil)) (Ut (.set3 il ∅ (sn ∅ ∅) zs) (wH (.set3 (ni 1) zi) (by rw[kX,z7,z7])))
  (.cons (.lst (.cons (.eq (.cat .c v3 (by show 5+_<=100;omega)) (zpI z)) .nil)) (Ut (.gain zs) (wH (.gain zi) kX)) .nil)))) Kn.refl λS2 n2 l2 a2 g2 e2 _ k2=> ?_
 dsimp only[y7];refine zh (wg ?_)
 refine Wn.more (T:=S1) (G:=zaw bs n) (.cons (.lst (.cons (.eq (.cat (.cat .c v4 (by show 5+_<=100;omega)) (.mul (k:=s+1) (λS=>by ext;exact⟨rfl,rfl⟩) ⋯ ∅) (by rw[Str.length_append,zeI,w5];show 5+_+_<=100;omega)) (zcF (v:=1) rfl).symm) .nil)) (za6 (lit:=z) hB hz hb il ⋯ (.inr rfl) (no ⋯))
  (.cons (.lst (.cons (.eq (.cat (.cat .c v4 (by show 5+_<=100;omega)) (.mul (k:=s) (λS=>by ext;exact⟨rfl,rfl⟩) ⋯ ∅) (by rw[Str.length_append,zeI,w6];show 5+_+_<=100;omega)) (zcF (v:=0) rfl).symm) .nil)) (za6 (lit:=z) hB hz hb il ⋯ (.inl rfl) (by
   unfold wOk;have:(uI s (0:Int)).sum=0:=by simp
   rw[this]
   simp))
  (.cons (.lst (.cons (.eq (.cat (.cat .c v3 (by show 5+_<=100;omega)) .c (by rw[Str.length_append];show 5+_+4<=100;omega)) (zne z)) .nil)) (Ut (.draw (ws:=[1,1]) zn ∅ ∅ tj) (wH (.draw (ws:=[1,1]) ∅) (by rw[zbM hz];rfl))) .nil))) k2 (λS=>by ext;exact⟨rfl,rfl⟩) a2 g2 (by rw[e2];decide) λS3 n3 l3 a3 g3 e3 _ k3=> ?_
 dsimp only[y7];refine zh (wg ?_)
 refine Wn.more (T:=S1) (G:=zaw bs n) (.cons (.lst (.cons (.eq (.cat (.cat .c v3 (by show 5+_<=100;omega)) .c (by rw[Str.length_append];show 5+_+4<=100;omega)) (znf z)) .nil)) (Ut (.look ∅ zs (sn ∅ ∅)) (wH (.look zi (ni 0)) (by rw[kX];rfl)))
  (.cons (.lst (.cons (.eq (.cat .c v3 (by show 9+_<=100;omega)) (zng z)) .nil)) (Ut (.look ∅ (sn ∅ ∅) zs) (wH (.look (ni 0) zi) (by rw[kX,z7])))
  (.cons (.lst (.cons (.eq (.cat .c v3 (by show 10+_<=100;omega)) (znh z)) (.cons (.eq .c (r_w "end")) .nil))) (zcG (rss:=[[]]) (.whil ∅ (sn ∅ ∅) zs) .whil (wH (.whil (ni 0) zi) (by rw[kX,z7])) rfl (zin (n:=1)) (zgb 1) ∅ ∅ ∅)
  (.cons (.lst (.cons (.eq .c zq1) (.cons (.eq .c (r_w "end")) .nil))) (zcG (rss:=[[]]) (.times ∅ ∅) .times (wH .times ∅) rfl (zin (n:=1)) (zgb 1) ∅ ∅ ∅) .nil)))) (k2.trans k3) (λS=>by ext;exact⟨rfl,rfl⟩) a3 g3 (by rw[e3,e2];decide) λS4 n4 l4 a4 g4 e4 _ k4=> ?_
 dsimp only[y7];refine zh (wg ?_)
 refine Wn.more (T:=S1) (G:=zaw bs n) (.cons (.lst (.cons (.eq (.cat (.cat .c v3 (by show 3+_<=100;omega)) .c (by rw[Str.length_append];show 3+_+4<=100;omega)) (zri z)) (.cons (.eq .c (r_w "else")) (.cons (.eq .c (r_w "end")) .nil)))) (zcG (rss:=[[],[]]) (.cond ∅ zs (sn ∅ ∅)) .cond (wH (.cond zi (ni 1)) (by rw[kX];rfl)) rfl (zin (n:=2)) (zgb 2) ∅ ∅ ∅)
  (.cons (.eq (.cat (.cat (.lst (.cons .c (.cons .c .nil))) (.rep (n:=7) ∅ (λS _=>by ext;exact⟨rfl,Kn.refl⟩)) ∅) (.lst (.cons .c .nil)) ∅) (by decide+kernel)) (zcG (us:=uI 9 []) (rss:=uI 9 []) (.hand ∅ ∅) .hand (wH (.hand ∅) ∅) rfl zin (zgb 9) ∅ ∅ ∅) .nil)) (k2.trans (k3.trans k4)) (λS=>by ext;exact⟨rfl,rfl⟩) a4 g4 (by rw[e4,e3,e2];decide) λS5 n5 l5 a5 g5 e5 _ k5=> ?_
 dsimp only[y7];have kk:Kn S1 S5:=k2.trans (k3.trans (k4.trans k5));have sZ:S5[mb]? =iJ (.lst l):=kk.at (k1.at au);obtain⟨kp,sC⟩:∃k:Nat,(101:Int)-n=k:=⟨(101-n).toNat,⋯⟩;refine zh (wg ?_)
 refine Wn.more (T:=S1) (G:=zaw bs n) (.cons (.lst (.cons (.eq .c zrj) (.cons (.eq .c (r_w "pass")) (.cons (.eq .c (r_w "end")) .nil)))) (zcG (rss:=[[w1 "pass"]]) (us:=[[.tup [.str "pass"]]]) (.times ∅ ∅) .times (wH .times ∅) rfl (λi u r h1 h2=>by
   match i with
   |0=>cases h1;cases h2;exact(Pg.plain .pass).one
   |i+1=>simp at h1) (Tr.conss (Tr.one (.pl ∅ ∅ ∅ ∅ .pass)) .nils) ∅ ∅ ∅)
  (.cons (.rep (n:=kp) ⋯ (λS' k'=>by
   ext;refine(zlc eh tr hc hq (.inr ⟨mb,rfl,k'.at (k1.at au)⟩)).imp ?_;rintro _ S6 ⟨rfl,k6⟩;ext
   exact⟨by rw[sC],k6⟩)) (zlI ⋯ ⋯) .nil)) kk (λS=>by ext;exact⟨rfl,rfl⟩) a5 g5 (by rw[e5,e4,e3,e2];show 4+3+4+2+2<=900;decide) λS6 n6 l6 a6 g6 e6 oa k6=> ?_
 dsimp only[y7];have lV:Kn S1 S6:=kk.trans k6;have lI:l6.length=15:=by rw[e6,e5,e4,e3,e2];rfl
 have fin:∀{S7:Sto} {l7:pR Xv},S7[n6]? =iJ (.lst l7)->RLs (zaw bs n) S7 l7->1<=l7.length->Kn S S7->∀{N:Rho->Sto->Prop},WS (zJ (eOp vN (za 6) (zf (zk fu) [za 0,q8 62,q8 10259,eFn xO [za 6]])) [iJ (.ref 0),iJ (.tup (bs.map λb=> .tup [.str b.1,.int b.2])),iJ (.ref mb),iJ (.str z),iJ (.str nm),iJ (.int (s:Int)),iJ (.ref n6)] S7) N λv S'=>∃m ts,v= .ref m/\S'[m]? =iJ (.lst (ts.map Xv.str))/\zaw bs n ts/\Kn S S':=by
  intro S7 l7 a7 g7 h7 k7 N;ext;refine xx (zj a7) ?_;ext;refine(yZ (hs.keep k7) ∅ ∅ ⋯).imp ?_;rintro _ _ ⟨rfl,i0,i1,rfl⟩;generalize wb ns 62 10259 l7.length=i at i0 i1;have hi:i.toNat<l7.length:=by omega
  obtain⟨m7,ts,e7,b7,c7⟩:=g7 l7[i.toNat] (Au hi);refine xo (zj a7) (z:= .ref m7) (vc i0 (by rw[uo hi,e7])) ?_;exact⟨m7,ts,rfl,b7,c7,k7⟩
 refine zh (xw (λρ S7=>∃l7:pR Xv,ρ=[iJ (.ref 0),iJ (.tup (bs.map λb=> .tup [.str b.1,.int b.2])),iJ (.ref mb),iJ (.str z),iJ (.str nm),iJ (.int (s:Int)),iJ (.ref n6)]/\S7[n6]? =iJ (.lst l7)/\RLs (zaw bs n) S7 l7/\1<=l7.length/\Kn S S7) (zy ?_) ?_);rotate_left
 .rintro ρ S7 ⟨l7,rfl,b1,b2,b3,b4⟩;exact fin b1 b2 b3 b4
 ext;refine yu (λh=> ?_) (λh=>zv ⟨l6,rfl,a6,g6,⋯,k1.trans lV⟩);ext;refine Xf ?_;ext;refine⟨⟨_,zj a6⟩,?_⟩;refine zbC ?_;have ent:RL S6 (yM [eOp zQ (eOp zQ (tL "draw ") (za 4)) (eOp TY (tL " 1") (eOp zb4 (za 5) (q8 1)))]) [iJ (.ref 0),iJ (.tup (bs.map λb=> .tup [.str b.1,.int b.2])),iJ (.ref mb),iJ (.str z),iJ (.str nm),iJ (.int (s:Int)),iJ (.ref n6)] [yP (.str "draw":: .str nm::uI (s-1) (.int 1))]:=
  .lst (.cons (.eq (.cat (.cat .c v4 (by show 5+_<=100;omega)) (.mul (k:=s-1) (λS=>by ext;exact⟨by rw[show((s-1:Nat):Int)=(s:Int)-1 by omega],rfl⟩) ⋯ ∅) (by rw[Str.length_append,zeI,w5];show 5+_+_<=100;omega)) (zcF (v:=1) rfl).symm) .nil)
 refine(ent S6 Kn.refl).imp ?_;rintro _ S7 ⟨n7,rfl,a7,k7⟩;ext;have kW:=k7.at a6;refine xr (xa kW) (by rw[lI];decide) ?_;ext;have jC:S.length<=n6:=v5 (k1.trans kk).1 oa;have fj:n7≠n6:=by
  intro e;rw[e,kW] at a7;have:=congrArg (λc=>match c with|some (Ce.lst l)=>l.length|_=>0) a7;have:l6.length=1:=this;omega
 refine⟨l6++[.ref n7],rfl,xB kW,?_,by rw[ur];omega,(k1.trans (lV.trans k7)).set (.inr jC)⟩;have st:∀{m:Nat} {us:pR Str},S7[m]? =iJ (.lst (us.map Xv.str))->m≠n6->(S7.set n6 (.lst (l6++[.ref n7])))[m]? =iJ (.lst (us.map Xv.str)):=λh q=>zcq h (λz=>q z.symm);have o5:∀{m:Nat} {us:pR Str},S7[m]? =iJ (.lst (us.map Xv.str))->m≠n6:=by
  rintro m us h rfl;rw[kW] at h;have h:=Ce.lst.inj (y8 h);obtain⟨w,r,e6⟩:∃w r,l6=w::r:=by
   cases l6 with
   |nil=>cases lI
   |cons w r=>exact⟨w,r,rfl⟩
  obtain⟨nn,ts,e,_⟩:=g6 w (by rw[e6];exact uK ..);rw[e6,e] at h;cases us with
  |nil=>cases h
  |cons u us=>
   rw[uV] at h;have:=(x9 h).1;cases this
 intro w hw;rcases uW.1 hw with hw|hw
 .obtain⟨m,ts,e,b,cc⟩:=(g6.keep k7) w hw;exact⟨m,ts,e,st b (o5 b),cc⟩
 .rw[uX] at hw;subst hw;exact⟨n7,_,rfl,st (us:=[yP (.str "draw":: .str nm::uI (s-1) (.int 1))]) a7 fj,za6 (lit:=z) hB hz hb il ⋯ (.inr rfl) (no ⋯)⟩
end
section
def zax(bs:pR (Str×Int))(ts:pR Str):Prop:=∃bb:pR (Str×Int),ts=bb.map yW/\(∀b∈bb,NmZ b.1/\0<=b.2/\b.2<=999999999)/\bb.length<=10/\∀a,bxF (bs.take a++(bb++bs.drop a))=nW
theorem zpJ(h:9<l.length):bxF l=nW:=by
 unfold bxF;rw[decide_eq_false (λz=>by omega)];rfl
theorem zlK(h:¬(l.map (·.1)).Nodup):bxF l=nW:=by
 unfold bxF;rw[decide_eq_false (λz=>h z.2)];rfl
theorem zq2(hb:b∈l)(h:¬(1<=b.2/\b.2<=9)):bxF l=nW:=by
 have:szF l=nW:=by
  unfold szF;rw[CB];exact⟨b,hb,by rw[decide_eq_false h];decide⟩
 unfold bxF;rw[this,Ah,z7,z7]
theorem zq3(h:¬yQ l<=1000):bxF l=nW:=by
 unfold bxF;rw[decide_eq_false h,z7,z7,z7]
theorem za7:∀(a b:pR (Str×Int)),yQ (a++b)=yQ a*yQ b
 |[],b=>by simp[yQ]
 |c::r,b=>by
  show c.2*yQ (r++b)=c.2*yQ r*yQ b;rw[za7 r b,C2]
theorem za8:∀{l:pR (Str×Int)},(∀b∈l,1<=b.2)->1<=yQ l
 |[],_=>by show(1:Int)<=1;decide
 |c::r,h=>by
  have h1:=h c (uK ..);have h2:=za8 (l:=r) λb hb=>h b (uG _ hb);show 1<=c.2*yQ r;have:1*1<=c.2*yQ r:=B6 h1 h2 ∅ ⋯;omega
theorem zeJ(hn:NmZ b.1)(h0:0<=b.2)(h1:b.2<=999999999)(h:¬(1<=b.2/\b.2<=9)):zax bs [yW b]:=by
 refine⟨[b],rfl,λc hc=> ?_,by show 1<=10;decide,λa=>zq2 (b:=b) ?_ h⟩
 .rw[uX] at hc;subst hc;exact⟨hn,h0,h1⟩
 .rw[uW,uW];exact .inr (.inl (uX.2 rfl))
theorem zdM{α:Type}{l1 l2:pR α}{b:α}(h:b∈l1\/b∈l2):¬(l1++([b]++l2)).Nodup:=by
 intro nd;rw[List.nodup_append] at nd;obtain⟨_,n2,n3⟩:=nd;rcases h with h|h
 .exact n3 b h b (B1 _ (uX.2 rfl)) rfl
 .rw[List.singleton_append,Az] at n2;exact n2.1 h
theorem zni(hn:NmZ z):zax bs [yW (z,1),yW (z,2)]:=by
 refine⟨[(z,1),(z,2)],rfl,λc hc=> ?_,by show 2<=10;decide,λa=>zlK ?_⟩
 .simp only[uU,B8,or_false] at hc;rcases hc with rfl|rfl
  .exact⟨hn,by show(0:Int)<=1;decide,by show(1:Int)<=999999999;decide⟩
  .exact⟨hn,by show(0:Int)<=2;decide,by show(2:Int)<=999999999;decide⟩
 .rw[uO,uO];show ¬((bs.take a).map (·.1)++([z]++([z]++(bs.drop a).map (·.1)))).Nodup;exact zdM (.inr (B1 _ (uX.2 rfl)))
theorem znj(hb:b∈bs)(hn:NmZ b.1):zax bs [yW (b.1,1)]:=by
 refine⟨[(b.1,1)],rfl,λc hc=> ?_,by show 1<=10;decide,λa=>zlK ?_⟩
 .rw[uX] at hc;subst hc;exact⟨hn,by show(0:Int)<=1;decide,by show(1:Int)<=999999999;decide⟩
 .rw[uO,uO];show ¬((bs.take a).map (·.1)++([b.1]++(bs.drop a).map (·.1))).Nodup;refine zdM ?_;rw[<-Bo a bs,uW] at hb;exact hb.imp (λh=>BD h) (λh=>BD h)
noncomputable def Uu:pR (Str×Int):=aj.map λz=>("four"++z,1)
theorem znk:∀b∈Uu,(1<=b.1.length/\b.1.length<=8/\(b.1.cps.toList.all λc=>decide (97<=c/\c<=122))=jD)/\0<=b.2/\b.2<=999999999:=by decide+kernel
theorem zlL:zax bs (Uu.map yW):=by
 refine⟨Uu,rfl,λb hb=> ?_,∅,λa=>zpJ ?_⟩
 .obtain⟨⟨h1,h2,h3⟩,h4,h5⟩:=znk b hb;exact⟨⟨h1,h2,λc hc=>of_decide_eq_true (y6.1 h3 c hc)⟩,h4,h5⟩
 .rw[ur,ur];have:Uu.length=10:=rfl;omega
noncomputable def zeK:pR (Str×Int):=[("seven",7),("eight",8),("nine",9),("two",2)]
theorem zjd:∀b∈zeK,(1<=b.1.length/\b.1.length<=8/\(b.1.cps.toList.all λc=>decide (97<=c/\c<=122))=jD)/\0<=b.2/\b.2<=999999999:=by decide+kernel
theorem zje(hB:Xz 1000 bs):zax bs (zeK.map yW):=by
 refine⟨zeK,rfl,λb hb=> ?_,∅,λa=>zq3 ?_⟩
 .obtain⟨⟨h1,h2,h3⟩,h4,h5⟩:=zjd b hb;exact⟨⟨h1,h2,λc hc=>of_decide_eq_true (y6.1 h3 c hc)⟩,h4,h5⟩
 .rw[za7,za7];have p1:=za8 (l:=bs.take a) λb hb=>(hB.sz b (C9 hb)).1;have p2:=za8 (l:=bs.drop a) λb hb=>(hB.sz b (Dc hb)).1;have e:yQ zeK=1008:=by decide
  rw[e];have h1:1008*1<=1008*yQ (bs.drop a):=A6 p2 ∅;have h2:1*(1008*yQ (bs.drop a))<=yQ (bs.take a)*(1008*yQ (bs.drop a)):=Bf p1 ⋯;omega
theorem RL.four:RL T (xu [jr] (iS (tL "abcdefghij")) (gN 0) xF (eOp zQ (eOp zQ (tL "box four") (za 0)) (tL " 1"))) ρ (Uu.map yW):=λS _=>by
 refine zbD (zhR ?_);ext;refine⟨*...*,_,rfl,?_⟩;rw[zga];refine zcc ∅ (λi es S4=>S4=S/\es=((Uu.map yW).take i).map Xv.str) (λ_ _ _ _ _=>rfl) ?_ ⟨rfl,rfl⟩ ?_
 .rintro i w es S4 hw _ ⟨rfl,rfl⟩;rw[uA,uH] at hw;obtain⟨z,e,rfl⟩:=hw;have hi:=(uq.1 e).1;have nN:i<(Uu.map yW).length:=by rw[um];unfold Uu;rw[um];exact hi
  obtain⟨_,zl⟩:=zlD z (x8 e);have e2:(Uu.map yW)[i]=yW ("four"++z,1):=by
   have:(Uu.map yW)[i]? =iJ (yW ("four"++z,1)):=by
    unfold Uu;rw[uA,uA,e];rfl
   exact(uq.1 this).2
  refine .of rfl ?_;ext;refine⟨rfl,?_⟩;show W (eOp zQ (eOp zQ (tL "box four") (za 0)) (tL " 1") [iJ (.str z)] S4) _;ext;refine xD (yX (by show 8+_<=100;omega)) ?_;ext;refine xD (yX (by rw[Str.length_append];show 8+_+2<=100;omega)) ⟨rfl,?_⟩;rw[w9 nN,uO,e2,zeG]
  congr 2
  apply congrArg Xv.str;apply zeH;simp only[wV,uM];rfl
 .rintro es S4 _ ⟨rfl,rfl⟩;refine⟨_,rfl,?_,Kn.refl.app⟩;rw[zL];rfl
local macro_rules | `(tactic| walk_at "tx") => `(tactic| (apply zeH; rw [zeG]; simp only [wV, List.append_assoc]; rfl))
theorem b_0(z:Str):("box "++z)++" 0"=yW (z,0):=by walk_at "tx"
theorem zrk(z:Str):("box "++z)++" 10"=yW (z,10):=by walk_at "tx"
theorem b_9(z:Str):("box "++z)++" 999999999"=yW (z,999999999):=by walk_at "tx"
theorem b_1(z:Str):("box "++z)++" 1"=yW (z,1):=by walk_at "tx"
theorem b_2(z:Str):("box "++z)++" 2"=yW (z,2):=by walk_at "tx"
theorem zhd(hs:Sc ns S)(hB:Xz 1000 bs)(h9:bs.length<=9):
  W (Zo fu [.ref 0,.tup (bs.map yx)] S) λv S'=>∃m ts,v= .ref m/\S'[m]? =iJ (.lst (ts.map Xv.str))/\zax bs ts/\Kn S S':=by
 walk_at "wr";unfold wF;ext;refine(zlE h9).imp ?_;rintro _ S1 ⟨z,rfl,oy,hz,k1⟩;obtain⟨nU,zl⟩:=zlD z oy;have zn:NmZ z:=⟨⋯,⋯,nU⟩;have jL:=hs.keep k1;have v2:∀{a6:pT Xv},Te (za 2) [iJ (.ref 0),iJ (.tup (bs.map yx)),iJ (.str z),a6] z:=λS=>by ext;exact⟨rfl,rfl⟩
 have tJ:(("box ":Str)).length=4:=rfl;refine zh (wg ?_)
 refine Wn.lst (T:=S1) (G:=zax bs) (.cons (.lst (.cons (.eq (.cat (.cat .c v2 ⋯) .c (by rw[Str.length_append];show 4+_+2<=100;omega)) (b_0 z)) .nil)) (zeJ zn (by show(0:Int)<=0;decide) (by show(0:Int)<=999999999;decide) (by show ¬((1:Int)<=0/\(0:Int)<=9);decide))
  (.cons (.lst (.cons (.eq (.cat (.cat .c v2 ⋯) .c (by rw[Str.length_append];show 4+_+3<=100;omega)) (zrk z)) .nil)) (zeJ zn (by show(0:Int)<=10;decide) (by show(10:Int)<=999999999;decide) (by show ¬((1:Int)<=10/\(10:Int)<=9);decide))
  (.cons (.lst (.cons (.eq (.cat (.cat .c v2 ⋯) .c (by rw[Str.length_append];show 4+_+10<=100;omega)) (b_9 z)) .nil)) (zeJ zn (by show(0:Int)<=999999999;decide) (by show(999999999:Int)<=999999999;decide) (by show ¬((1:Int)<=999999999/\(999999999:Int)<=9);decide)) .nil))) Kn.refl λS2 n2 l2 a2 g2 e2 _ k2=> ?_
 dsimp only[y7];refine zh (wg ?_);refine Wn.more (T:=S1) (G:=zax bs) (.cons (.lst (.cons (.eq (.cat (.cat .c v2 ⋯) .c (by rw[Str.length_append];show 4+_+2<=100;omega)) (b_1 z)) (.cons (.eq (.cat (.cat .c v2 ⋯) .c (by rw[Str.length_append];show 4+_+2<=100;omega)) (b_2 z)) .nil))) (zni zn) .nil) k2 (λS=>by ext;exact⟨rfl,rfl⟩) a2 g2 (by rw[e2];decide) λS3 n3 l3 a3 g3 e3 _ k3=> ?_;dsimp only[y7];refine zh (wg ?_);refine Wn.more (T:=S1) (G:=zax bs) (.cons .four zlL .nil) (k2.trans k3) (λS=>by ext;exact⟨rfl,rfl⟩) a3 g3 (by rw[e3,e2];decide) λS4 n4 l4 a4 g4 e4 _ k4=> ?_;dsimp only[y7];refine zh (wg ?_);refine Wn.more (T:=S1) (G:=zax bs) (.cons (.eq (.lst (.cons .c (.cons .c (.cons .c (.cons .c .nil))))) (by decide+kernel)) (zje hB) .nil) (k2.trans (k3.trans k4)) (λS=>by ext;exact⟨rfl,rfl⟩) a4 g4 (by rw[e4,e3,e2];decide) λS6 n6 l6 a6 g6 e6 oa k6=> ?_;dsimp only[y7];have lV:Kn S1 S6:=k2.trans (k3.trans (k4.trans k6));have lI:l6.length=6:=by rw[e6,e4,e3,e2];rfl
 have fin:∀{S7:Sto} {l7:pR Xv},S7[n6]? =iJ (.lst l7)->RLs (zax bs) S7 l7->1<=l7.length->Kn S S7->∀{N:Rho->Sto->Prop},WS (zJ (eOp vN (za 3) (zf (zk fu) [za 0,q8 64,q8 10271,eFn xO [za 3]])) [iJ (.ref 0),iJ (.tup (bs.map yx)),iJ (.str z),iJ (.ref n6)] S7) N λv S'=>∃m ts,v= .ref m/\S'[m]? =iJ (.lst (ts.map Xv.str))/\zax bs ts/\Kn S S':=by
  intro S7 l7 a7 g7 h7 k7 N;ext;refine xx (zj a7) ?_;ext;refine(yZ (hs.keep k7) ∅ ∅ ⋯).imp ?_;rintro _ _ ⟨rfl,i0,i1,rfl⟩;generalize wb ns 64 10271 l7.length=i at i0 i1;have hi:i.toNat<l7.length:=by omega
  obtain⟨m7,ts,e7,b7,c7⟩:=g7 l7[i.toNat] (Au hi);refine xo (zj a7) (z:= .ref m7) (vc i0 (by rw[uo hi,e7])) ?_;exact⟨m7,ts,rfl,b7,c7,k7⟩
 refine zh (xw (λρ S7=>∃l7:pR Xv,ρ=[iJ (.ref 0),iJ (.tup (bs.map yx)),iJ (.str z),iJ (.ref n6)]/\S7[n6]? =iJ (.lst l7)/\RLs (zax bs) S7 l7/\1<=l7.length/\Kn S S7) (zy ?_) ?_);rotate_left
 .rintro ρ S7 ⟨l7,rfl,b1,b2,b3,b4⟩;exact fin b1 b2 b3 b4
 ext;refine vF ?_;ext;rw[um];refine yu (λh=> ?_) (λh=>zv ⟨l6,rfl,a6,g6,⋯,k1.trans lV⟩);ext;refine Xf ?_;ext;refine⟨⟨_,zj a6⟩,?_⟩;ext;refine vF ?_;ext;rw[um];refine(yZ (jL.keep lV) ∅ ∅ ⋯).imp ?_;rintro _ _ ⟨rfl,i0,i1,rfl⟩;obtain⟨b,hb,au⟩:=zg4 i0 i1;ext;refine xJ rfl au ?_;unfold yx;have il:NmZ b.1:=hB.nm b hb;have nl:b.1.length<=8:=il.2.1;ext;refine xD (yX ⋯) ?_;ext;refine xD (yX (by rw[Str.length_append];show 4+_+2<=100;omega)) ?_;rw[b_1];ext;have a7:(S6++[Ce.lst [.str (yW (b.1,1))]])[S6.length]? =iJ (.lst ([yW (b.1,1)].map Xv.str)):=zL;have k7:Kn S6 (S6++[Ce.lst [.str (yW (b.1,1))]]):=Kn.refl.app;have fj:S6.length≠n6:=by
  have:=(uq.1 a6).1;omega
 generalize S6++[Ce.lst [.str (yW (b.1,1))]]=S7 at a7 k7 ⊢;have kW:=k7.at a6;refine xr (xa kW) (by rw[lI];decide) ?_;ext;have jC:S.length<=n6:=v5 (k1.trans (k2.trans (k3.trans k4))).1 oa;refine⟨l6++[.ref S6.length],rfl,xB kW,?_,by rw[ur];omega,(k1.trans (lV.trans k7)).set (.inr jC)⟩;have st:∀{m:Nat} {us:pR Str},S7[m]? =iJ (.lst (us.map Xv.str))->m≠n6->(S7.set n6 (.lst (l6++[.ref S6.length])))[m]? =iJ (.lst (us.map Xv.str)):=λh q=>zcq h (λz=>q z.symm);have o5:∀{m:Nat} {us:pR Str},S7[m]? =iJ (.lst (us.map Xv.str))->m≠n6:=by
  rintro m us h rfl;rw[kW] at h;have h:=Ce.lst.inj (y8 h);obtain⟨w,r,e6⟩:∃w r,l6=w::r:=by
   cases l6 with
   |nil=>cases lI
   |cons w r=>exact⟨w,r,rfl⟩
  obtain⟨nn,ts,e,_⟩:=g6 w (by rw[e6];exact uK ..);rw[e6,e] at h;cases us with
  |nil=>cases h
  |cons u us=>
   rw[uV] at h;have:=(x9 h).1;cases this
 intro w hw;rcases uW.1 hw with hw|hw
 .obtain⟨m,ts,e,b,cc⟩:=(g6.keep k7) w hw;exact⟨m,ts,e,st b (o5 b),cc⟩
 .rw[uX] at hw;subst hw;exact⟨S6.length,_,rfl,st (us:=[yW (b.1,1)]) a7 fj,znj hb il⟩
end
section
theorem zjf(eh:Big fu)(hB:Us bs)(hd:Pg (.b ds) rows q)(hq:q<=12)(hl:rows.length<=2000)(hp:∀S,W (wx fu [.tup [.tup (bs.map yx),.tup ds]] S) λv S'=>v= .bl nW/\Kn S S'):
  WE (XM fu [.str (txt bs rows)] S) (λ_ _=>False) λc S'=>c="NoProgram"/\Kn S S':=by
 refine zpc rfl rfl ?_;dsimp only[Bt,AB,AX,Bg,uI];unfold zbI;refine UE (.ws ?_);ext;refine zhQ ?_;ext;have k0:Kn S (S++[Ce.ins "Rows" []]):=Kn.refl.app;have o0:(S++[Ce.ins "Rows" []])[S.length]? =iJ (.ins "Rows" []):=zL;refine(zly hB hd.rowok hl o0).imp ?_;rintro _ S1 ⟨rfl,l,ms,h1,k1⟩;refine⟨rfl,?_⟩;refine UE (.ws ?_);ext;refine(zf5 eh hB hd.rowok h1).imp ?_;rintro _ S2 ⟨rfl,h2,k2⟩;refine UE (.ws ?_);ext;refine(zf6 eh hd hq hl h2).imp ?_;rintro _ S3 ⟨rfl,h3,k3⟩;refine UE (.ws (zy ?_));ext;refine wk ?_;ext;refine⟨_,_,rfl,h3.rw.ob,rfl,?_⟩;ext;refine(h3.fw0 rfl).imp ?_;rintro _ _ ⟨rfl,rfl⟩;ext;show WO (zhu .non S3) _;refine WO.of rfl ?_;refine⟨_,rfl,nofun,λ_=>zv ?_⟩;have kp:Kp (· =S.length) S S3:=(Kp.of_kn k0).trans (k1.trans (k2.trans k3));have kn:Kn S S3:=⟨kp.1,λn c e _=>kp.2 n c e (λq=>by have:=(uq.1 e).1;omega)⟩;refine UE (.ws ?_);ext;refine UE (zpb ?_);refine vb (wY ?_);ext;refine(hp S3).imp ?_;rintro _ S4 ⟨rfl,k4⟩;refine⟨_,rfl,λ_=>ziX ?_,nofun⟩;ext;exact⟨rfl,kn.trans k4⟩
theorem zjg(h:∀S,WE (XM fu [.str t] S) (λ_ _=>False) λc S'=>c="NoProgram"/\Kn S S'):W (Yq fu [.str t] S) λv S'=>v= .bl jD/\Kn S S':=by
 walk_at "wr";unfold Yp;refine zh ?_;ext;refine zpd (xs:=[.str t]) rfl ((h S).imp (λ_ _ z=>z.elim) ?_);rintro c S1 ⟨rfl,k1⟩;refine⟨uX.2 rfl,?_⟩;have ee:(S1++[Ce.exc "NoProgram"])[S1.length]? =iJ (.exc "NoProgram"):=zL;have kk:Kn S (S1++[Ce.exc "NoProgram"]):=k1.app;generalize km:S1++[Ce.exc "NoProgram"]=S2 at ee kk ⊢;have body:WS ((zH (zcP (eUn (zbo (Xh [("NoProgram",jD)])) (za 2)) (zcP (eUn (zbo (Xh [("NoProgram",jD)])) (za 2)) (eB (Xd (bE (eUn (zbo (Xh [("NoProgram",nW)])) (za 2))))))) (gN 1)) [iJ (.str t),iJ (.bl nW),iJ (.ref S1.length)] S2) (λρ S'=>ρ=[iJ (.str t),iJ (.bl jD),iJ (.ref S1.length)]/\S2=S') (λ_ _=>False):=by
  refine wg (Uz ?_);ext;refine zgU ee (v:=jD) rfl ?_;refine⟨_,rfl,λ_=> ?_,nofun⟩;refine Uz ?_;ext;refine zgU ee (v:=jD) rfl ?_;refine⟨_,rfl,λ_=> ?_,nofun⟩;refine znL (vb (wY ?_));ext;refine zgU ee (v:=nW) rfl ?_;exact⟨_,rfl,rfl,rfl⟩
 rcases body with⟨ρ',S',e,rfl,rfl⟩|⟨_,_,_,z⟩
 .refine⟨_,_,e,?_⟩;ext;exact⟨rfl,kk⟩
 .exact z.elim
theorem zpK{α:Type}(l:pR α)(n:Nat):L2.XX l jr (iJ (n:Int))=l.take n:=by
 unfold L2.XX;rw[HT.zhk,HT.zbV,E8,Nat.sub_zero];by_cases h:n<=l.length
 .rw[DQ h]
 .rw[DF ⋯,Bh (uv _),Bh ⋯]
theorem zlM(h:Pg (.b ds) rows q)(hq:q<=12)(hl:rows.length<=2000)(au:S[m]? =iJ (.lst ds))(k:∀S',Kn S S'->P (.int ((txt [] rows).length:Int)) S'):
  W (eFn VJ [zaS Vv (tL "\n") [zf (zX fu 40) [za 2]]] (r0::r1::iJ (.ref m)::rr) S) P:=by
 have hB:Us []:=⟨∅,λb hb=>by cases hb⟩;ext;refine zaT ?_;ext;refine⟨⟨_,rfl⟩,?_⟩;ext;refine(zn0 h 40 S _ ⋯ hl (.inr ⟨m,rfl,au⟩)).imp ?_;rintro _ S1 ⟨n,rfl,hn,_,k1⟩;ext
 refine zbG (xa hn) (ts:=[].map yW++rows.map yP) (by
  rw[<-WF ([].map yW++rows.map yP)];show VS (xg rows)=VS ((rows.map yP).map Xv.str);rw[Af]
  rfl) (zhb hB h.rowok hl) ?_
 ext;exact zbJ (zlv hB h.rowok hl).2 (k S1 k1)
theorem zrl(eh:Big fu):∀(k m:Nat) (l:pR Xv) (S:Sto),l.length<k->GB bs l 4 760->S[m]? =iJ (.lst l)->Kn T0 S->
  WS (VI (bOr (bE (eOp dGt (zf (wa fu) [za 2]) (q8 60))) (bE (eOp dGt (eFn VJ [zaS Vv (tL "\n") [zf (zX fu 40) [za 2]]]) (q8 2800)))) (zH (eSl Yy (za 2) oNo (vg (eUn zd8 (q8 1)))) (gN 2)) k [iJ (.ref 0),r1,iJ (.ref m),jr,jr,jr,jr] S)
   (λρ S'=>∃(m:Nat) (l:pR Xv) (n:Int) (q c:Nat) (rows:pR (pR Xv)),ρ=[iJ (.ref 0),r1,iJ (.ref m),jr,jr,jr,jr]/\Tr bs (.b l) n q jD c/\q<=4/\c<=760/\Pg (.b l) rows 4/\rows.length<=760/\n<=60/\S'[m]? =iJ (.lst l)/\Kn T0 S') R:=by
 intro k
 induction k with
 |zero=>intro m l S h;omega
 |succ k ih=>
  intro m l S hk hG au kn;have t8:=hG;obtain⟨n,q,c,rows,tr,hq,hc,hp,hr⟩:=hG;refine WQ (Zu ?_);ext;refine(zlc eh tr ⋯ ⋯ (.inr ⟨m,rfl,au⟩)).imp ?_;rintro _ S1 ⟨rfl,k1⟩;ext;have go:∀{S1:Sto},Kn S S1->l≠[]->WS (zH (eSl Yy (za 2) oNo (vg (eUn zd8 (q8 1)))) (gN 2) [iJ (.ref 0),r1,iJ (.ref m),jr,jr,jr,jr] S1) (λρ S2=>WS (VI (bOr (bE (eOp dGt (zf (wa fu) [za 2]) (q8 60))) (bE (eOp dGt (eFn VJ [zaS Vv (tL "\n") [zf (zX fu 40) [za 2]]]) (q8 2800)))) (zH (eSl Yy (za 2) oNo (vg (eUn zd8 (q8 1)))) (gN 2)) k ρ S2) (λρ S'=>∃(m:Nat) (l:pR Xv) (n:Int) (q c:Nat) (rows:pR (pR Xv)),ρ=[iJ (.ref 0),r1,iJ (.ref m),jr,jr,jr,jr]/\Tr bs (.b l) n q jD c/\q<=4/\c<=760/\Pg (.b l) rows 4/\rows.length<=760/\n<=60/\S'[m]? =iJ (.lst l)/\Kn T0 S') R) R:=by
   intro S1 k1 fj;obtain⟨r,z,rfl⟩:∃r p,l=r++[p]:=⟨l.dropLast,l.getLast fj,(Cj fj).symm⟩;rw[ur,uF] at hk;exact zlB (k1.at au) (ih _ r _ ⋯ t8.init zL (kn.trans k1.app))
  refine yu (λh=>⟨λ_=>go k1 ?_,nofun⟩) (λh=> ?_)
  .rintro rfl;generalize hg:(jD:Bool)=gg at tr;cases tr;omega
  refine wY (zbe ?_);refine zlM hp ∅ ⋯ (k1.at au) λS2 k2=> ?_;ext;refine yu (λh=>go (k1.trans k2) ?_) (λh2=>⟨m,l,n,q,c,rows,rfl,tr,hq,hc,hp,⋯,⋯,k2.at (k1.at au),kn.trans (k1.trans k2)⟩);rintro rfl;have e0:rows=[]:=by
   cases hp with
   | @blk _ rss _ h1 _=>
    have:rss=[]:=Aa.1 h1.symm;rw[this];rfl
  rw[e0] at h;have:(txt [] []).length=0:=rfl;omega
structure Rf(fu:Nat)(S:Sto)(m:Nat)(bs:pR (Str×Int))(ds:pR Xv)(rows:pR (pR Xv)):Prop where
 at_:S[m]? =iJ (.lst ((bs.map yW++rows.map yP).map Xv.str))
 bf:Us bs
 pg:Pg (.b ds) rows 5
 len:rows.length<=2000
 no:∀S,W (wx fu [.tup [.tup (bs.map yx),.tup ds]] S) λv S'=>v= .bl nW/\Kn S S'
theorem zn1{e:TwE}{a m:Nat}{L:pR Str}{G:pR Str->Prop}(ρ:Rho)(h3:∀S,W (za 3 ρ S) λv S'=>v= .ref m/\S=S')(h5:∀S,W (za 5 ρ S) λv S'=>v= .int (a:Int)/\S=S')(au:S[m]? =iJ (.lst (L.map Xv.str)))(hl:L.length<=1000)
  (he:∀S',Kn S S'->W (e ρ S') λv S2=>∃n ts,v= .ref n/\S2[n]? =iJ (.lst (ts.map Xv.str))/\(G ts/\ts.length<=200)/\Kn S' S2)
  (k:∀S' n ts,S'[n]? =iJ (.lst ((L.take a++(ts++L.drop a)).map Xv.str))->G ts->Kn S S'->P (.ref n) S'):W (eOp yI (eOp yI (eSl Yy (za 3) oNo (vg (za 5))) e) (eSl Yy (za 3) (vg (za 5)) oNo) ρ S) P:=by
 have cat:∀{P:Xv->Sto->Prop} {S:Sto} {m n:Nat} {a b:pR Str},S[m]? =iJ (.lst (a.map Xv.str))->S[n]? =iJ (.lst (b.map Xv.str))->a.length+b.length<=9000->P (.ref S.length) (S++[.lst ((a++b).map Xv.str)])->WO (yI (.ref m) (.ref n) S) P:=by
  intro P S m n a b h1 h2 hl k;rw[uO] at k;refine WO.of ?_ k;unfold yI;rw[zj h1,zj h2];exact if_pos (by rw[um,um];exact z3 (szM ⋯))
 refine zbe (zbe (zks ((h3 S).imp ?_)));rintro _ _ ⟨rfl,rfl⟩;refine zgL (zb9 ((h5 S).imp ?_));rintro _ _ ⟨rfl,rfl⟩;refine⟨_,rfl,VP (zj au) ?_⟩;rw[zpK,<-Dg];have k1:Kn S (S++[Ce.lst ((L.take a).map Xv.str)]):=Kn.refl.app;have a1:(S++[Ce.lst ((L.take a).map Xv.str)])[S.length]? =iJ (.lst ((L.take a).map Xv.str)):=zL;refine(he _ k1).imp ?_;rintro _ S2 ⟨n,ts,rfl,hn,⟨g,qu⟩,k2⟩;have lt:(L.take a).length<=L.length:=by rw[z4];omega
 have ld:(L.drop a).length<=L.length:=by rw[AJ];omega
 refine cat (k2.at a1) hn ⋯ ?_;have k3:Kn S (S2++[Ce.lst ((L.take a++ts).map Xv.str)]):=(k1.trans k2).app;have a3:(S2++[Ce.lst ((L.take a++ts).map Xv.str)])[S2.length]? =iJ (.lst ((L.take a++ts).map Xv.str)):=zL;generalize S2++[Ce.lst ((L.take a++ts).map Xv.str)]=S3 at k3 a3 ⊢;refine zks ((h3 S3).imp ?_);rintro _ _ ⟨rfl,rfl⟩;refine zb9 ((h5 S3).imp ?_);rintro _ _ ⟨rfl,rfl⟩;refine⟨_,rfl,zgL (VP (zj (k3.at au)) ?_)⟩;rw[Xw,<-Dh];refine cat (Kn.refl.app.at a3) zL (by rw[ur];omega) ?_;refine k _ _ ts ?_ g k3.app.app;rw[zL,uM]
theorem znl{bb:pR (Str×Int)}{a:Nat}(ha:a<=bs.length):(bs.map yW++rows.map yP).take a++(bb.map yW++(bs.map yW++rows.map yP).drop a)=(bs.take a++(bb++bs.drop a)).map yW++rows.map yP:=by
 rw[AG (by rw[um];exact ha),AH (by rw[um];exact ha)];simp only[uO,Dg,Dh,uM]
theorem znm{br:pR (pR Xv)}{a:Nat}:(bs.map yW++rows.map yP).take (bs.length+a)++(br.map yP++(bs.map yW++rows.map yP).drop (bs.length+a))=bs.map yW++(rows.take a++(br++rows.drop a)).map yP:=by
 have e:bs.length=(bs.map yW).length:=by rw[um]
 rw[e,Cr,Ct];simp only[uO,Dg,Dh,uM]
theorem zq4(eh:Big fu)(hl:ns.length<=63):W (zgX fu [.ref 0] [.frz (ns.map Xv.int)]) λv _=>v= .bl jD:=by
 have hs:Sc ns [Ce.frz (ns.map Xv.int)]:=rfl;generalize [Ce.frz (ns.map Xv.int)]=S at hs ⊢;walk_at "wr";unfold zey;ext;refine(yZ hs ∅ ∅ ∅).imp ?_;rintro _ _ ⟨rfl,c0,c1,rfl⟩;ext;refine(zmW hs ⟨⋯,⋯⟩ ∅).imp ?_;rintro _ S1 ⟨bs,rfl,hB,kR,k1⟩;have h9:bs.length<=9:=by omega
 clear kR c0 c1;have jL:=hs.keep k1;ext;refine xx jL ?_;ext;rw[um,show(if (ns.length:Int)<63 then (ns.length:Int) else 63)=(ns.length:Int) by split<;>omega];refine(zqY eh hl hB jL).imp ?_;rintro _ S2 ⟨l,rfl,au,hG,mI,k2⟩;ext;refine xw _ (zca (zrl (T0:=S2) eh fu _ l S2 (by have:=eh.le;omega) hG au Kn.refl)) ?_;clear hG au mI;rintro ρ S3 ⟨m,l,n,q,c,rows,rfl,tr,hq,hc,hp,hr,hn,au,k3⟩;have qx:0<=n:=(tr.bd rfl).1;have ku:=(jL.keep k2).keep k3;ext;refine(zjb hB.bf hp ∅ ⋯ (.inr ⟨m,rfl,au⟩)).imp ?_;rintro _ S4 ⟨m4,rfl,lX,_,k4⟩;have mx:=ku.keep k4;have mX:=k4.at au;ext;refine zaT ?_;ext;refine⟨⟨_,rfl⟩,?_⟩;ext;refine zbG (xa lX) (ts:=bs.map yW++rows.map yP) (WF _) (zhb hB.bf hp.rowok ⋯) ?_;show WS _ _ _;have t7:(bs.map yW++rows.map yP).length=bs.length+rows.length:=by rw[ur,um,um]
 refine zh (xw (λρ S5=>∃(a5:pT Xv) (m6:Nat) (bs':pR (Str×Int)) (ds':pR Xv) (rows':pR (pR Xv)),ρ=[iJ (.ref 0),iJ (.tup (bs.map yx)),iJ (.ref m),iJ (.ref m4),iJ (.str (txt bs rows)),a5,iJ (.ref m6)]/\Rf fu S5 m6 bs' ds' rows'/\Kn S4 S5) (zy ?_) ?_)
 .ext;refine(yZ mx ∅ ∅ ∅).imp ?_;rintro _ _ ⟨rfl,_,_,rfl⟩;ext;refine yu (λh=> ?_) (λh=> ?_)
  .refine zh (wg ?_);ext;refine vF ?_;ext;rw[um];refine(yZ mx ∅ ∅ ⋯).imp ?_;rintro _ _ ⟨rfl,d0,d1,rfl⟩;obtain⟨a,ha⟩:∃a:Nat,wb ns 66 10289 ((bs.length:Int)+1)=a:=⟨(wb ns 66 10289 ((bs.length:Int)+1)).toNat,⋯⟩;rw[ha] at d0 d1 ⊢;dsimp only[y7];refine wg (zn1 (G:=zax bs) _ (λS=>by ext;exact⟨rfl,rfl⟩) (λS=>by ext;exact⟨rfl,rfl⟩) lX ⋯ (λS' k'=> ?_) ?_)
   .ext;refine(zhd (mx.keep k') hB h9).imp ?_;rintro _ S6 ⟨m6,ts,rfl,a6,b6,k6⟩;refine⟨m6,ts,rfl,a6,⟨b6,?_⟩,k6⟩;obtain⟨bb,rfl,_,hl,_⟩:=b6;rw[um];omega
   .rintro S6 m6 ts a6 ⟨bb,rfl,pC,kR,lM⟩ k6;dsimp only[y7];have hlen:(bs.take a++(bb++bs.drop a)).length=bs.length+bb.length:=by
     rw[ur,ur,z4,AJ];omega
    have qE:Us (bs.take a++(bb++bs.drop a)):=by
     refine⟨⋯,λb hb=> ?_⟩;rw[uW,uW] at hb;rcases hb with hb|hb|hb
     .exact hB.bf.2 b (C9 hb)
     .exact pC b hb
     .exact hB.bf.2 b (Dc hb)
    refine⟨_,m6,bs.take a++(bb++bs.drop a),l,rows,rfl,⟨by rw[<-znl ⋯];exact a6,qE,hp.mono ∅,⋯,λS=> ?_⟩,k6⟩;exact zeA ⋯ (λb hb=>by have:=(qE.2 b hb).1;exact⟨this.2.2.asc,by have:=this.2.1;omega⟩) (lM a)
  .refine zh (wg ?_);ext;refine vF ?_;ext;refine xx (zj lX) ?_;ext;refine vF ?_;ext;rw[um,um,t7];refine(yZ mx ∅ ∅ ⋯).imp ?_;rintro _ _ ⟨rfl,d0,d1,rfl⟩;generalize wb ns 66 10289 (((bs.length+rows.length:Nat):Int)-(bs.length:Int)+1)=dd at d0 d1;obtain⟨a,ha⟩:∃a:Nat,dd=a:=⟨dd.toNat,⋯⟩;subst ha;refine zkv ?_;rw[show(bs.length:Int)+(a:Int)=((bs.length+a:Nat):Int) by omega];dsimp only[y7];refine wg (zn1 (G:=zaw bs n) _ (λS=>by ext;exact⟨rfl,rfl⟩) (λS=>by ext;exact⟨rfl,rfl⟩) lX ⋯ (λS' k'=> ?_) ?_)
   .ext;refine(zjc eh (mx.keep k') hB h9 (k'.at mX) tr ⋯ ⋯ ⟨qx,hn⟩).imp ?_;rintro _ S6 ⟨m6,ts,rfl,a6,b6,k6⟩;refine⟨m6,ts,rfl,a6,⟨b6,?_⟩,k6⟩;obtain⟨es,br,_,_,_,_,rfl,_,_,_,_,_,hl,_⟩:=b6;rw[um];omega
   .rintro S6 m6 ts a6 ⟨es,br,mm,pe,ge,e,rfl,t5,t4,sr,pk,he,u9,mV⟩ k6;dsimp only[y7];obtain⟨ds',n',p',c',qF,pF,lY,pB⟩:=zqZ t5 t4 pk sr hp _ _ _ _ tr a ⋯;have tW:p'<=5:=qF.dp _ _ _ _ pF;refine⟨_,m6,bs,ds',rows.take a++(br++rows.drop a),rfl,⟨by rw[<-znm];exact a6,hB.bf,qF,?_,λS=> ?_⟩,k6⟩
    .rw[ur,ur,z4,AJ];omega
    .refine (zfQ ⋯ hB.as (hB.bx h9) pF ⋯ ⋯).imp ?_;rintro _ S7 ⟨rfl,k7⟩;refine⟨?_,k7⟩;rcases mV with rfl|mV
     .rfl
     .rw[decide_eq_false (show ¬n'<=100 by omega),z7,z7]
 rintro ρ S5 ⟨a5,m6,bs',ds',rows',rfl,kN,k5⟩;obtain⟨z,hz⟩:=zlz hB hp ∅ ⋯;have mW:=k5.at mX;have rd:∀S,W (XM fu [.str (txt bs rows)] S) λv S'=>v= .tup [.tup (bs.map yx),.tup l]/\Kn S S':=λS=>zpD eh hB h9 hp ∅ ⋯ tr ⋯ ⋯ ⋯;refine zh (zy ?_);ext;refine(rd S5).imp ?_;rintro _ S6 ⟨rfl,k6⟩;ext;refine WO.of (hz S6) ?_;ext;refine wz (k6.at mW) ?_;ext;refine WO.of (hz S6) ?_;refine WO.of (show yz jD (.str z) (.str z) S6=iJ (.bl nW,S6) by unfold yz;simp) ?_;refine⟨_,rfl,nofun,λ_=>zv ?_⟩;refine zh (zy (vb (wY ?_)));ext;refine zaT ?_;ext;refine⟨⟨_,rfl⟩,?_⟩;ext;refine zbG (xa (k6.at kN.at_)) (ts:=bs'.map yW++rows'.map yP) (WF _) (zhb kN.bf kN.pg.rowok kN.len) ?_;ext;refine(zjg (t:=txt bs' rows') λS=>zjf eh kN.bf kN.pg ∅ kN.len kN.no).imp ?_;rintro _ S7 ⟨rfl,k7⟩;refine⟨_,rfl,nofun,λ_=>zv ?_⟩;ext;refine(rd S7).imp ?_;rintro _ S8 ⟨rfl,k8⟩;ext;refine WO.of (hz S8) ?_;ext;refine wz ((k7.trans k8).2 _ _ (k6.at mW) (λz=>z)) ?_;ext;refine WO.of (hz S8) ?_;exact yg rfl
theorem zq5(eh:Big fu)(ns:pR Int)(hl:ns.length<=63):∃S,zgX fu [.ref 0] [.frz (ns.map Xv.int)]=iJ (.ok (.bl jD) S):=by
 obtain⟨v,S,e,rfl⟩:=zq4 eh hl;exact⟨S,e⟩
end
end
noncomputable def zeL:Nat:=2^9000
theorem zgc:Big zeL:=by unfold Big zeL;exact uv _
theorem zpL{P:Program}{w:World}{base:Heap}(T:Tx K mg):yh P w K mg base (CXE P w) 70 T.gF.a T.gF.fd ["_law_script"] (zb3 K):=zoL (zmV (fu:=zeL) T) λns hl=>zq5 zgc ns hl
noncomputable def zq6{K:uk}{h:Heap}{mg:Str->pT qM}(X:K.In h)(G:h.Ns mainGlobals mg)
  {cF:qY}  {aO aY bL ao bp bo aZ aX:qY} {je gJ jf gK:Tok} {cB:qY} {fq:pT qY} {fm:Nat} {fk:Array (pT qM)} {eQ eP eO:Tok} {en:qY} {ik:pT qY} {ig:Nat} {ie:Array (pT qM)} {gI gH gG:Tok} {dD:qY} {gY:pT qY} {gX:Nat} {gW:Array (pT qM)} {g8 g0 fZ fY ic iK gQ gR ib fX gU gP gS:Tok}
  (c5:uC K mainGlobals "Rows"=iJ (iJ (.ref cF)))
  (H0:FL K "is_whole" Tk)
  (H1:FL K "is_made_of" Yz)
  (H2:FL K "is_name" zaU)
  (H3:FL K "is_number" VT)
  (H4:FL K "blocks_of" VU)
  (H5:FL K "length_of" XG)
  (H6:FL K "deed_length" ZE)
  (H7:FL K "deeds_within" Xi)
  (H8:FL K "is_program" YA)
  (H9:FL K "is_from_to" WV)
  (H10:FL K "boxes_fit" Yb)
  (H11:FL K "deed_fits" XH)
  (H12:FL K "weights_fit" ZF)
  (H13:FL K "operands_of" XY)
  (H14:FL K "operand_fits" Xj)
  (H15:FL K "depth_of" WW)
  (H16:FL K "deed_depth" YB)
  (H17:ML K cF "__init__" "Rows.__init__" vq)
  (H18:ML K cF "first_word" "Rows.first_word" vT)
  (H19:ML K cF "taken" "Rows.taken" WX)
  (H20:ML K cF "take_alone" "Rows.take_alone" vU)
  (H21:FL K "read" zgV)
  (H22:FL K "boxes_from" WY)
  (H23:FL K "block_from" WZ)
  (H24:FL K "deed_from" VW)
  (H25:FL K "plain_deed" YC)
  (H26:FL K "closed_block" Xk)
  (H27:FL K "if_from" zaV)
  (H28:FL K "hand_blocks" XZ)
  (H29:FL K "reckoning_from" Zx)
  (H30:FL K "test_from" VX)
  (H31:FL K "signed_from" Wa)
  (H32:FL K "turns_from" Va)
  (H33:FL K "operand_from" Xl)
  (H34:FL K "number_from" Wb)
  (H35:FL K "name_from" VY)
  (H36:FL K "_law_draw" VZ)
  (H37:FL K "_law_name" Ua)
  (H38:FL K "_law_boxes" Vb)
  (H39:FL K "_law_operand" Xm)
  (H40:FL K "_law_test" Ub)
  (H41:FL K "_law_reckoning" Zy)
  (H42:FL K "_law_weights" vV)
  (H43:FL K "_law_plain" Vc)
  (H44:FL K "_law_deed" Uc)
  (H45:FL K "_law_hand" Ud)
  (H46:FL K "_law_block" Vd)
  (H47:FL K "_law_top" Tl)
  (H48:FL K "_law_inner" Ve)
  (H49:FL K "_law_length" Wc)
  (H50:FL K "_law_words" YD)
  (H51:FL K "_law_rows" Ue)
  (H52:FL K "_law_nested_rows" vI)
  (H53:FL K "_law_all_rows" vt)
  (H54:FL K "_law_free" Yc)
  (H55:FL K "_law_bad_rows" wq)
  (H56:FL K "_law_bad_boxes" wO)
  (H57:FL K "_law_refused" Xn)
  (H58:FL K "law" zk3)
  (iQ:Br K cF Str.empty=jD) (iP:BQ K cF=jD) (iO:Cw K cF=jD) (iN:uE K (.ref cF) "__setattr__"=iJ (iJ (.builtin "object.__setattr__"))) (jh:CN K cF=jD) (jg:Av K (.ref cF)=jD)
  (b8:uE K (.ref cF) "rows"=iJ jr)
  (aS:uE K (.ref cF) "place"=iJ jr)
  (eI:uC K mainGlobals "ValueError"=iJ jr)
  (jY:uC K mainGlobals "all"=iJ jr)
  (jq:uC K mainGlobals "bool"=iJ jr)
  (jo:uC K mainGlobals "dict"=iJ jr)
  (jX:uC K mainGlobals "int"=iJ jr)
  (eH:uC K mainGlobals "isinstance"=iJ jr)
  (jW:uC K mainGlobals "len"=iJ jr)
  (jn:uC K mainGlobals "list"=iJ jr)
  (jV:uC K mainGlobals "max"=iJ jr)
  (jU:uC K mainGlobals "min"=iJ jr)
  (iU:uC K mainGlobals "range"=iJ jr)
  (jm:uC K mainGlobals "repr"=iJ jr)
  (jT:uC K mainGlobals "set"=iJ jr)
  (jS:uC K mainGlobals "str"=iJ jr)
  (jR:uC K mainGlobals "sum"=iJ jr)
  (iR:uC K mainGlobals "tuple"=iJ jr)
  (k9:BR K (.builtin "object.__class__") "__get__"=iJ (iJ (.builtin "getset_descriptor.__get__"))) (jZ:CO K (.builtin "object.__class__")=iJ jD)
  (aL:uC K mainGlobals "LotsError"=iJ (iJ (.ref aO))) (cU:Ar K aO [.type "ValueError",.type "Exception",.type "BaseException",.type "object"] "ValueError.__new__"=jD) (eU:uE K (.ref aO) "__getattribute__"=iJ (iJ (.builtin "BaseException.__getattribute__"))) (eS:uE K (.ref aO) "__getattr__"=iJ jr) (fb:AF K aO=jD) (f7:uE K (.ref aO) "__class__"=iJ (iJ (.builtin "object.__class__"))) (eW:ux K aO (.type "object")=iJ jD) (cu:y0 K (.ref aO)=iJ (.type "type")) (bY:ux K aO (.type "BaseException")=iJ jD) (cV:ux K aO (.type "ValueError")=iJ jD)
  (aJ:uC K mainGlobals "NoNumber"=iJ (iJ (.ref aY))) (dh:Ar K aY [.type "ValueError",.type "Exception",.type "BaseException",.type "object"] "ValueError.__new__"=jD) (fB:uE K (.ref aY) "__getattribute__"=iJ (iJ (.builtin "BaseException.__getattribute__"))) (fv:uE K (.ref aY) "__getattr__"=iJ jr) (fN:AF K aY=jD) (fK:uE K (.ref aY) "__class__"=iJ (iJ (.builtin "object.__class__"))) (fE:ux K aY (.type "object")=iJ jD) (cP:y0 K (.ref aY)=iJ (.type "type")) (cS:ux K aY (.type "BaseException")=iJ jD) (dm:ux K aY (.type "ValueError")=iJ jD)
  (bj:uC K mainGlobals "NoText"=iJ (iJ (.ref bL))) (eK:Ar K bL [.type "ValueError",.type "Exception",.type "BaseException",.type "object"] "ValueError.__new__"=jD) (hJ:uE K (.ref bL) "__getattribute__"=iJ (iJ (.builtin "BaseException.__getattribute__"))) (gZ:uE K (.ref bL) "__getattr__"=iJ jr) (ia:AF K bL=jD) (i9:uE K (.ref bL) "__class__"=iJ (iJ (.builtin "object.__class__"))) (hU:ux K bL (.type "object")=iJ jD) (dY:y0 K (.ref bL)=iJ (.type "type")) (ef:ux K bL (.type "BaseException")=iJ jD) (eL:ux K bL (.type "ValueError")=iJ jD)
  (ak:uC K mainGlobals "NoProgram"=iJ (iJ (.ref ao))) (ck:Ar K ao [.type "ValueError",.type "Exception",.type "BaseException",.type "object"] "ValueError.__new__"=jD) (eT:uE K (.ref ao) "__getattribute__"=iJ (iJ (.builtin "BaseException.__getattribute__"))) (eR:uE K (.ref ao) "__getattr__"=iJ jr) (f9:AF K ao=jD) (eZ:uE K (.ref ao) "__class__"=iJ (iJ (.builtin "object.__class__"))) (eV:ux K ao (.type "object")=iJ jD) (cq:y0 K (.ref ao)=iJ (.type "type")) (cy:ux K ao (.type "BaseException")=iJ jD) (cm:ux K ao (.type "ValueError")=iJ jD)
  (aR:uC K mainGlobals "NoBound"=iJ (iJ (.ref bp))) (dU:Ar K bp [.type "ValueError",.type "Exception",.type "BaseException",.type "object"] "ValueError.__new__"=jD) (gi:uE K (.ref bp) "__getattribute__"=iJ (iJ (.builtin "BaseException.__getattribute__"))) (gb:uE K (.ref bp) "__getattr__"=iJ jr) (gu:AF K bp=jD) (gp:uE K (.ref bp) "__class__"=iJ (iJ (.builtin "object.__class__"))) (gk:ux K bp (.type "object")=iJ jD) (d9:y0 K (.ref bp)=iJ (.type "type")) (de:ux K bp (.type "BaseException")=iJ jD) (dX:ux K bp (.type "ValueError")=iJ jD)
  (aQ:uC K mainGlobals "TooMany"=iJ (iJ (.ref bo))) (dS:Ar K bo [.type "ValueError",.type "Exception",.type "BaseException",.type "object"] "ValueError.__new__"=jD) (gf:uE K (.ref bo) "__getattribute__"=iJ (iJ (.builtin "BaseException.__getattribute__"))) (g9:uE K (.ref bo) "__getattr__"=iJ jr) (gq:AF K bo=jD) (gn:uE K (.ref bo) "__class__"=iJ (iJ (.builtin "object.__class__"))) (gj:ux K bo (.type "object")=iJ jD) (d8:y0 K (.ref bo)=iJ (.type "type")) (dc:ux K bo (.type "BaseException")=iJ jD) (dW:ux K bo (.type "ValueError")=iJ jD)
  (aK:uC K mainGlobals "HandLeft"=iJ (iJ (.ref aZ))) (di:Ar K aZ [.type "ValueError",.type "Exception",.type "BaseException",.type "object"] "ValueError.__new__"=jD) (fC:uE K (.ref aZ) "__getattribute__"=iJ (iJ (.builtin "BaseException.__getattribute__"))) (fw:uE K (.ref aZ) "__getattr__"=iJ jr) (fO:AF K aZ=jD) (fL:uE K (.ref aZ) "__class__"=iJ (iJ (.builtin "object.__class__"))) (fF:ux K aZ (.type "object")=iJ jD) (cQ:y0 K (.ref aZ)=iJ (.type "type")) (cT:ux K aZ (.type "BaseException")=iJ jD) (dq:ux K aZ (.type "ValueError")=iJ jD)
  (aI:uC K mainGlobals "NoneKept"=iJ (iJ (.ref aX))) (df:Ar K aX [.type "ValueError",.type "Exception",.type "BaseException",.type "object"] "ValueError.__new__"=jD) (fA:uE K (.ref aX) "__getattribute__"=iJ (iJ (.builtin "BaseException.__getattribute__"))) (ft:uE K (.ref aX) "__getattr__"=iJ jr) (fM:AF K aX=jD) (fJ:uE K (.ref aX) "__class__"=iJ (iJ (.builtin "object.__class__"))) (fD:ux K aX (.type "object")=iJ jD) (cO:y0 K (.ref aX)=iJ (.type "type")) (cR:ux K aX (.type "BaseException")=iJ jD) (dj:ux K aX (.type "ValueError")=iJ jD)
  (aD:ux K ao (.ref aO)=iJ jD)
  (aw:ux K ao (.ref aY)=iJ nW)
  (aH:ux K ao (.ref bL)=iJ nW)
  (af:ux K ao (.ref ao)=iJ jD)
  (aA:ux K ao (.ref bp)=iJ nW)
  (ay:ux K ao (.ref bo)=iJ nW)
  (ax:ux K ao (.ref aZ)=iJ nW)
  (av:ux K ao (.ref aX)=iJ nW)
  (gv:uC K mainGlobals "LETTERS"=iJ (iJ (.str "abcdefghijklmnopqrstuvwxyz" je)))
  (dy:uC K mainGlobals "MOST_LETTERS"=iJ (iJ (.int 8 gJ)))
  (gw:uC K mainGlobals "FIGURES"=iJ (iJ (.str "0123456789" jf)))
  (dz:uC K mainGlobals "MOST_FIGURES"=iJ (iJ (.int 9 gK)))
  (aC:uC K mainGlobals "RECKONING_SIGNS"=iJ (iJ (.ref cB)))
  (cD:K.lookup cB=iJ ⟨.type "tuple",fq,.seq #[.str "+" eQ,.str "-" eP,.str "*" eO] fm,fk⟩)
  (bA:uC K mainGlobals "TEST_SIGNS"=iJ (iJ (.ref en)))
  (eD:K.lookup en=iJ ⟨.type "tuple",ik,.seq #[.str "=" gI,.str "<" gH,.str "#" gG] ig,ie⟩)
  (aU:uC K mainGlobals "BLOCK_KINDS"=iJ (iJ (.ref dD)))
  (dH:K.lookup dD=iJ ⟨.type "tuple",gY,.seq #[.str "if" g8,.str "while" g0,.str "times" fZ,.str "hand" fY] gX,gW⟩)
  (eG:uC K mainGlobals "MOST_BOXES"=iJ (iJ (.int 9 ic)))
  (fc:uC K mainGlobals "MOST_SIZE"=iJ (iJ (.int 9 iK)))
  (dM:uC K mainGlobals "MOST_STATES"=iJ (iJ (.int 1000 gQ)))
  (dO:uC K mainGlobals "MOST_NUMBER"=iJ (iJ (.int 999999999 gR)))
  (eF:uC K mainGlobals "MOST_TURNS"=iJ (iJ (.int 60 ib)))
  (d7:uC K mainGlobals "FEWEST_BLOCKS"=iJ (iJ (.int 2 fX)))
  (dR:uC K mainGlobals "MOST_BLOCKS"=iJ (iJ (.int 8 gU)))
  (dJ:uC K mainGlobals "MOST_WITHIN"=iJ (iJ (.int 12 gP)))
  (dP:uC K mainGlobals "MOST_LENGTH"=iJ (iJ (.int 100 gS))):Tx K mg:={dv:=H0.to X G (λ_ _ _ _ _ _=>at_ λ_=>at0 rfl),c4:=H1.to X G (λ_ _ _ _ _ _=>at_ λ_=>at_ λ_=>at0 rfl),da:=H2.to X G (λ_ _ _ _ _ _=>at_ λ_=>at0 rfl),cw:=H3.to X G (λ_ _ _ _ _ _=>at_ λ_=>at0 rfl),bU:=H4.to X G (λ_ _ _ _ _ _=>at_ λ_=>at0 rfl),bH:=H5.to X G (λ_ _ _ _ _ _=>at_ λ_=>at0 rfl),cj:=H6.to X G (λ_ _ _ _ _ _=>at_ λ_=>at0 rfl),aW:=H7.to X G (λ_ _ _ _ _ _=>at_ λ_=>at0 rfl),cI:=H8.to X G (λ_ _ _ _ _ _=>at_ λ_=>at0 rfl),bu:=H9.to X G (λ_ _ _ _ _ _=>at_ λ_=>at_ λ_=>at_ λ_=>at0 rfl),d3:=H10.to X G (λ_ _ _ _ _ _=>at_ λ_=>at0 rfl),cZ:=H11.to X G (λ_ _ _ _ _ _=>at_ λ_=>at_ λ_=>at0 rfl),cb:=H12.to X G (λ_ _ _ _ _ _=>at_ λ_=>at_ λ_=>at0 rfl),cf:=H13.to X G (λ_ _ _ _ _ _=>at_ λ_=>at0 rfl),bS:=H14.to X G (λ_ _ _ _ _ _=>at_ λ_=>at_ λ_=>at0 rfl),bT:=H15.to X G (λ_ _ _ _ _ _=>at_ λ_=>at0 rfl),cJ:=H16.to X G (λ_ _ _ _ _ _=>at_ λ_=>at0 rfl),bq:=H17.to (λ_ _ _ _ _ _=>at_ λ_=>at_ λ_=>at0 rfl),ju:=⟨jh,(H17.to (ps:=["self","text"]) (λ_ _ _ _ _ _=>at_ λ_=>at_ λ_=>at0 rfl)).mt.at_,(H17.to (ps:=["self","text"]) (λ_ _ _ _ _ _=>at_ λ_=>at_ λ_=>at0 rfl)).mt.fn,jg⟩,ai:=H18.to (λ_ _ _ _ _ _=>at_ λ_=>at0 rfl),aT:=H19.to (λ_ _ _ _ _ _=>at_ λ_=>at0 rfl),ah:=H20.to (λ_ _ _ _ _ _=>at_ λ_=>at_ λ_=>at0 rfl),eE:=H21.to X G (λ_ _ _ _ _ _=>at_ λ_=>at0 rfl),cK:=H22.to X G (λ_ _ _ _ _ _=>at_ λ_=>at0 rfl),aG:=H23.to X G (λ_ _ _ _ _ _=>at_ λ_=>at_ λ_=>at0 rfl),cY:=H24.to X G (λ_ _ _ _ _ _=>at_ λ_=>at_ λ_=>at0 rfl),cH:=H25.to X G (λ_ _ _ _ _ _=>at_ λ_=>at_ λ_=>at0 rfl),bg:=H26.to X G (λ_ _ _ _ _ _=>at_ λ_=>at_ λ_=>at0 rfl),e8:=H27.to X G (λ_ _ _ _ _ _=>at_ λ_=>at_ λ_=>at_ λ_=>at0 rfl),cg:=H28.to X G (λ_ _ _ _ _ _=>at_ λ_=>at_ λ_=>at0 rfl),bC:=H29.to X G (λ_ _ _ _ _ _=>at_ λ_=>at0 rfl),bR:=H30.to X G (λ_ _ _ _ _ _=>at_ λ_=>at0 rfl),bO:=H31.to X G (λ_ _ _ _ _ _=>at_ λ_=>at_ λ_=>at0 rfl),cG:=H32.to X G (λ_ _ _ _ _ _=>at_ λ_=>at0 rfl),aV:=H33.to X G (λ_ _ _ _ _ _=>at_ λ_=>at0 rfl),bB:=H34.to X G (λ_ _ _ _ _ _=>at_ λ_=>at0 rfl),bG:=H35.to X G (λ_ _ _ _ _ _=>at_ λ_=>at0 rfl),ae:=H36.to X G (λ_ _ _ _ _ _=>at_ λ_=>at_ λ_=>at_ λ_=>at_ λ_=>at0 rfl),d4:=H37.to X G (λ_ _ _ _ _ _=>at_ λ_=>at_ λ_=>at_ λ_=>at0 rfl),cN:=H38.to X G (λ_ _ _ _ _ _=>at_ λ_=>at_ λ_=>at_ λ_=>at0 rfl),aE:=H39.to X G (λ_ _ _ _ _ _=>at_ λ_=>at_ λ_=>at_ λ_=>at0 rfl),bW:=H40.to X G (λ_ _ _ _ _ _=>at_ λ_=>at_ λ_=>at_ λ_=>at0 rfl),bD:=H41.to X G (λ_ _ _ _ _ _=>at_ λ_=>at_ λ_=>at_ λ_=>at0 rfl),bV:=H42.to X G (λ_ _ _ _ _ _=>at_ λ_=>at_ λ_=>at_ λ_=>at0 rfl),cL:=H43.to X G (λ_ _ _ _ _ _=>at_ λ_=>at_ λ_=>at_ λ_=>at0 rfl),bI:=H44.to X G (λ_ _ _ _ _ _=>at_ λ_=>at_ λ_=>at_ λ_=>at_ λ_=>at_ λ_=>at0 rfl),d5:=H45.to X G (λ_ _ _ _ _ _=>at_ λ_=>at_ λ_=>at_ λ_=>at_ λ_=>at_ λ_=>at0 rfl),bK:=H46.to X G (λ_ _ _ _ _ _=>at_ λ_=>at_ λ_=>at_ λ_=>at_ λ_=>at_ λ_=>at0 rfl),dw:=H47.to X G (λ_ _ _ _ _ _=>at_ λ_=>at_ λ_=>at_ λ_=>at_ λ_=>at0 rfl),cM:=H48.to X G (λ_ _ _ _ _ _=>at_ λ_=>at0 rfl),bP:=H49.to X G (λ_ _ _ _ _ _=>at_ λ_=>at0 rfl),bz:=H50.to X G (λ_ _ _ _ _ _=>at_ λ_=>at0 rfl),aB:=H51.to X G (λ_ _ _ _ _ _=>at_ λ_=>at0 rfl),bh:=H52.to X G (λ_ _ _ _ _ _=>at_ λ_=>at0 rfl),bN:=H53.to X G (λ_ _ _ _ _ _=>at_ λ_=>at_ λ_=>at0 rfl),cx:=H54.to X G (λ_ _ _ _ _ _=>at_ λ_=>at0 rfl),bM:=H55.to X G (λ_ _ _ _ _ _=>at_ λ_=>at_ λ_=>at_ λ_=>at0 rfl),bF:=H56.to X G (λ_ _ _ _ _ _=>at_ λ_=>at_ λ_=>at0 rfl),bX:=H57.to X G (λ_ _ _ _ _ _=>at_ λ_=>at0 rfl),gF:=H58.to X G (λ_ _ _ _ _ _=>at_ λ_=>at0 rfl),c5:=cF,jJ:=uN X G c5,aM:=⟨iQ,iP,iO,iN⟩,aF:=c5,b8:=b8,aS:=aS,fQ:=y3 X G eI,iz:=y3 X G jY,jI:=y3 X G jq,jH:=y3 X G jo,jt:=y3 X G jX,bJ:=y3 X G eH,aN:=y3 X G jW,jG:=y3 X G jn,iy:=y3 X G jV,kJ:=y3 X G jU,ez:=y3 X G iU,hV:=y3 X G jm,kI:=y3 X G jT,iq:=y3 X G jS,iX:=y3 X G jR,cC:=y3 X G iR,aL:=aO,gC:=uN X G aL,cU:=⟨uN X G aL,cU⟩,gE:=⟨eU,eS,bY,fb,f7,k9,jZ,eW⟩,cu:=cu,bY:=bY,cV:=cV,aJ:=aY,hZ:=uN X G aJ,dh:=⟨uN X G aJ,dh⟩,i6:=⟨fB,fv,cS,fN,fK,k9,jZ,fE⟩,cP:=cP,cS:=cS,dm:=dm,bj:=bL,iY:=uN X G bj,eK:=⟨uN X G bj,eK⟩,iZ:=⟨hJ,gZ,ef,ia,i9,k9,jZ,hU⟩,dY:=dY,ef:=ef,eL:=eL,ak:=ao,gy:=uN X G ak,ck:=⟨uN X G ak,ck⟩,cX:=⟨eT,eR,cy,f9,eZ,k9,jZ,eV⟩,cq:=cq,cy:=cy,cm:=cm,aR:=bp,iC:=uN X G aR,dU:=⟨uN X G aR,dU⟩,iG:=⟨gi,gb,de,gu,gp,k9,jZ,gk⟩,d9:=d9,de:=de,dX:=dX,aQ:=bo,iB:=uN X G aQ,dS:=⟨uN X G aQ,dS⟩,iF:=⟨gf,g9,dc,gq,gn,k9,jZ,gj⟩,d8:=d8,dc:=dc,dW:=dW,aK:=aZ,i3:=uN X G aK,di:=⟨uN X G aK,di⟩,i7:=⟨fC,fw,cT,fO,fL,k9,jZ,fF⟩,cQ:=cQ,cT:=cT,dq:=dq,aI:=aX,hX:=uN X G aI,df:=⟨uN X G aI,df⟩,i5:=⟨fA,ft,cR,fM,fJ,k9,jZ,fD⟩,cO:=cO,cR:=cR,dj:=dj,bZ:=ak,aD:=aD,aw:=aw,aH:=aH,af:=af,aA:=aA,ay:=ay,ax:=ax,av:=av,iD:=⟨_,uN X G gv⟩,eX:=⟨_,uN X G dy⟩,iE:=⟨_,uN X G gw⟩,eY:=⟨_,uN X G dz⟩,aC:=cB,dB:=uN X G aC,dC:=λH=> .inr ⟨_,_,_,cD,rfl,rfl,by show 3<=sizeLine;decide,.cons ⟨_,rfl⟩ (.cons ⟨_,rfl⟩ (.cons ⟨_,rfl⟩ .nil))⟩,bA:=en,fR:=uN X G bA,fV:=λH=> .inr ⟨_,_,_,eD,rfl,rfl,by show 3<=sizeLine;decide,.cons ⟨_,rfl⟩ (.cons ⟨_,rfl⟩ (.cons ⟨_,rfl⟩ .nil))⟩,aU:=dD,dG:=uN X G aU,dI:=λH=> .inr ⟨_,_,_,dH,rfl,rfl,by show 4<=sizeLine;decide,.cons ⟨_,rfl⟩ (.cons ⟨_,rfl⟩ (.cons ⟨_,rfl⟩ (.cons ⟨_,rfl⟩ .nil)))⟩,fT:=⟨_,uN X G eG⟩,gA:=⟨_,uN X G fc⟩,fg:=⟨_,uN X G dM⟩,dF:=⟨_,uN X G dO⟩,fS:=⟨_,uN X G eF⟩,eJ:=⟨_,uN X G d7⟩,fi:=⟨_,uN X G dR⟩,dE:=⟨_,uN X G dJ⟩,fh:=⟨_,uN X G dP⟩}
theorem zpM{l:CQ}{w:World}{fa:qY}(sS:mg "law"=iJ (.ref fa))(T:Tx K mg):
  ∃fd:FuncData,(∀(s:qN) (v:qM),BindsTo s fd ⟨[v],[]⟩ [("_law_script",v)])/\∀base:Heap,K.In base->base.Ns mainGlobals mg->yh l.prog w K mg base (CXE l.prog w) 70 fa fd ["_law_script"] (zb3 K):=by
 have e:=zpj T.gF (λ_ _=>trivial) sS;subst e
 exact⟨_,λs v=>by
  obtain⟨_,_,_,_,_,_,_,_,_,e,_⟩:=T.gF.F.ex;rw[e]
  exact .of_eq rfl,λbase _ _=>zpL T⟩
theorem zrm{l:CQ}{q:Program}{loose:pR Str}{XP:(Str->pT qM)->Heap->Prop}{YP:World->Heap->Prop}{d:DefRec}{K:Params->uk}(hn:l.most=iJ 63)(mQ:d.params.defaults=[])
  (hY:∀(w:World) (h:Heap),YP w h->(K w.params).In h)
  (F:∀(w:World) (mg:Str->pT qM) (fa:qY) (h:Heap),(K w.params).In h->h.Ns mainGlobals mg->mg d.name=iJ (.ref fa)->
   ∃fd:FuncData,(∀(s:qN) (u:qM),BindsTo s fd ⟨[u],[]⟩ [("_law_script",u)])/\∀base:Heap,(K w.params).In base->base.Ns mainGlobals mg->yh l.prog w (K w.params) mg base (CXE l.prog w) 70 fa fd ["_law_script"] (zb3 (K w.params))):
  Eb q loose XP YP l.row.toRowW d [] (λf vs=>DH f vs):=
 L2.zl9 (n:=63) (k:=70) (x:="_law_script") (CX:=λw=>CXE l.prog w) (sp:=λw=>zb3 (K w.params)) hn ∅ mQ ⟨rfl,∅,∅,rfl⟩ hY F (λ_ _ a ns hl hO hS=>⟨a,ns,rfl,hO,hS,hl,λ_=>rfl⟩) λ_ _ _ _ _ ⟨_,_,_,_,_,z⟩=>z
end Prf
open PySem PySem.W PyProof.Rows
local macro_rules | `(tactic| walk_at "fl") => `(tactic| exact Prf.zqL (by k_is) (by k_is) (by k_is) (by k_is))
local macro_rules | `(tactic| walk_at "ml") => `(tactic| exact Prf.zqM (by k_is) (by k_is) (by k_is) (by k_is) (by k_is))
set_option maxRecDepth 100000 in
set_option maxHeartbeats 0 in
theorem PySem.Challenge.cw_lots_k23_no_program_holds : PySem.Challenge.rw_lots_k23_no_program.Holds := by
 w_on;o_law;k_head;(case hw=>w_witness2)
 k_fill
 refine Prf.zrm (l:=PySem.Challenge.rw_lots_k23_no_program) rfl rfl (λw h Y=>DR Y) ?F
 case F=>
  intro w mg fa h KX G lH;refine' Prf.zpM lH (Prf.zq6 KX G ?c5 ?H0 ?H1 ?H2 ?H3 ?H4 ?H5 ?H6 ?H7 ?H8 ?H9 ?H10 ?H11 ?H12 ?H13 ?H14 ?H15 ?H16 ?H17 ?H18 ?H19 ?H20 ?H21 ?H22 ?H23 ?H24 ?H25 ?H26 ?H27 ?H28 ?H29 ?H30 ?H31 ?H32 ?H33 ?H34 ?H35 ?H36 ?H37 ?H38 ?H39 ?H40 ?H41 ?H42 ?H43 ?H44 ?H45 ?H46 ?H47 ?H48 ?H49 ?H50 ?H51 ?H52 ?H53 ?H54 ?H55 ?H56 ?H57 ?H58 ?iQ ?iP ?iO ?iN ?jh ?jg ?b8 ?aS ?eI ?jY ?jq ?jo ?jX ?eH ?jW ?jn ?jV ?jU ?iU ?jm ?jT ?jS ?jR ?iR ?k9 ?jZ ?aL ?cU ?eU ?eS ?fb ?f7 ?eW ?cu ?bY ?cV ?aJ ?dh ?fB ?fv ?fN ?fK ?fE ?cP ?cS ?dm ?bj ?eK ?hJ ?gZ ?ia ?i9 ?hU ?dY ?ef ?eL ?ak ?ck ?eT ?eR ?f9 ?eZ ?eV ?cq ?cy ?cm ?aR ?dU ?gi ?gb ?gu ?gp ?gk ?d9 ?de ?dX ?aQ ?dS ?gf ?g9 ?gq ?gn ?gj ?d8 ?dc ?dW ?aK ?di ?fC ?fw ?fO ?fL ?fF ?cQ ?cT ?dq ?aI ?df ?fA ?ft ?fM ?fJ ?fD ?cO ?cR ?dj ?aD ?aw ?aH ?af ?aA ?ay ?ax ?av ?gv ?dy ?gw ?dz ?aC ?cD ?bA ?eD ?aU ?dH ?eG ?fc ?dM ?dO ?eF ?d7 ?dR ?dJ ?dP)
  (case c5=>k_is);(case H0=>walk_at "fl");(case H1=>walk_at "fl");(case H2=>walk_at "fl");(case H3=>walk_at "fl");(case H4=>walk_at "fl")
  (case H5=>walk_at "fl");(case H6=>walk_at "fl");(case H7=>walk_at "fl");(case H8=>walk_at "fl");(case H9=>walk_at "fl");(case H10=>walk_at "fl")
  (case H11=>walk_at "fl");(case H12=>walk_at "fl");(case H13=>walk_at "fl");(case H14=>walk_at "fl");(case H15=>walk_at "fl");(case H16=>walk_at "fl")
  (case H17=>walk_at "ml");(case H18=>walk_at "ml");(case H19=>walk_at "ml");(case H20=>walk_at "ml");(case H21=>walk_at "fl");(case H22=>walk_at "fl")
  (case H23=>walk_at "fl");(case H24=>walk_at "fl");(case H25=>walk_at "fl");(case H26=>walk_at "fl");(case H27=>walk_at "fl");(case H28=>walk_at "fl")
  (case H29=>walk_at "fl");(case H30=>walk_at "fl");(case H31=>walk_at "fl");(case H32=>walk_at "fl");(case H33=>walk_at "fl");(case H34=>walk_at "fl")
  (case H35=>walk_at "fl");(case H36=>walk_at "fl");(case H37=>walk_at "fl");(case H38=>walk_at "fl");(case H39=>walk_at "fl");(case H40=>walk_at "fl")
  (case H41=>walk_at "fl");(case H42=>walk_at "fl");(case H43=>walk_at "fl");(case H44=>walk_at "fl");(case H45=>walk_at "fl");(case H46=>walk_at "fl")
  (case H47=>walk_at "fl");(case H48=>walk_at "fl");(case H49=>walk_at "fl");(case H50=>walk_at "fl");(case H51=>walk_at "fl");(case H52=>walk_at "fl")
  (case H53=>walk_at "fl");(case H54=>walk_at "fl");(case H55=>walk_at "fl");(case H56=>walk_at "fl");(case H57=>walk_at "fl");(case H58=>walk_at "fl")
  (case iQ=>k_is);(case iP=>k_is);(case iO=>k_is);(case iN=>k_is);(case jh=>k_is);(case jg=>k_is)
  (case b8=>k_is);(case aS=>k_is);(case eI=>k_is);(case jY=>k_is);(case jq=>k_is);(case jo=>k_is)
  (case jX=>k_is);(case eH=>k_is);(case jW=>k_is);(case jn=>k_is);(case jV=>k_is);(case jU=>k_is)
  (case iU=>k_is);(case jm=>k_is);(case jT=>k_is);(case jS=>k_is);(case jR=>k_is);(case iR=>k_is)
  (case k9=>k_is);(case jZ=>k_is);(case aL=>k_is);(case cU=>k_exc);(case eU=>k_is);(case eS=>k_is)
  (case fb=>k_is);(case f7=>k_is);(case eW=>k_is);(case cu=>k_is);(case bY=>k_is);(case cV=>k_is)
  (case aJ=>k_is);(case dh=>k_exc);(case fB=>k_is);(case fv=>k_is);(case fN=>k_is);(case fK=>k_is)
  (case fE=>k_is);(case cP=>k_is);(case cS=>k_is);(case dm=>k_is);(case bj=>k_is);(case eK=>k_exc)
  (case hJ=>k_is);(case gZ=>k_is);(case ia=>k_is);(case i9=>k_is);(case hU=>k_is);(case dY=>k_is)
  (case ef=>k_is);(case eL=>k_is);(case ak=>k_is);(case ck=>k_exc);(case eT=>k_is);(case eR=>k_is)
  (case f9=>k_is);(case eZ=>k_is);(case eV=>k_is);(case cq=>k_is);(case cy=>k_is);(case cm=>k_is)
  (case aR=>k_is);(case dU=>k_exc);(case gi=>k_is);(case gb=>k_is);(case gu=>k_is);(case gp=>k_is)
  (case gk=>k_is);(case d9=>k_is);(case de=>k_is);(case dX=>k_is);(case aQ=>k_is);(case dS=>k_exc)
  (case gf=>k_is);(case g9=>k_is);(case gq=>k_is);(case gn=>k_is);(case gj=>k_is);(case d8=>k_is)
  (case dc=>k_is);(case dW=>k_is);(case aK=>k_is);(case di=>k_exc);(case fC=>k_is);(case fw=>k_is)
  (case fO=>k_is);(case fL=>k_is);(case fF=>k_is);(case cQ=>k_is);(case cT=>k_is);(case dq=>k_is)
  (case aI=>k_is);(case df=>k_exc);(case fA=>k_is);(case ft=>k_is);(case fM=>k_is);(case fJ=>k_is)
  (case fD=>k_is);(case cO=>k_is);(case cR=>k_is);(case dj=>k_is);(case aD=>k_is);(case aw=>k_is)
  (case aH=>k_is);(case af=>k_is);(case aA=>k_is);(case ay=>k_is);(case ax=>k_is);(case av=>k_is)
  (case gv=>k_is);(case dy=>k_is);(case gw=>k_is);(case dz=>k_is);(case aC=>k_is);(case cD=>k_is)
  (case bA=>k_is);(case eD=>k_is);(case aU=>k_is);(case dH=>k_is);(case eG=>k_is);(case fc=>k_is)
  (case dM=>k_is);(case dO=>k_is);(case eF=>k_is);(case d7=>k_is);(case dR=>k_is);(case dJ=>k_is)
  (case dP=>k_is)
