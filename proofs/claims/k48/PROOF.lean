import PyProof.Rows.All
import Wide.All
import OpenK.AllK
import Wide.FinOn
import Lean
import PyProof.EqAt
import PyProof.EqKinds
import PyProof.TupleCall
import PySem.Challenge.RW_lots_k48_loops_not_folded
set_option Elab.async false
set_option linter.all false
set_option maxRecDepth 100000
set_option compiler.extract_closed false
open Option renaming some->f7,none->gC
open Bool renaming true->ia,false->kb
local macro_rules | `(tactic| omega) => `(tactic| first | with_reducible assumption | lia | omega +splitDisjunctions)
open PySem.W renaming Frag->u5,mroIn->ub,findIn->uk,nsIn->um,kitOne->uN,typeIn->uR,mg_of->uT,mg_none_of->uV,emptyDict->A3,kitMeta->Ab,excIn->Ae,keepIn->Ag,instObj->Ak,kla_obj->Am,isClsIn->An,fnOf->As,hideAll->Au,subIn->Aw,exmOne->Ax,kitAny->Ay,clsIn->AG,cellsFrom_some->AQ,kitCls->AV,tabObj->AW,plainGet->AY,codeHdIn->B2,callWith_K->Bc,codeIn->Bg,hasDictIn->Bm,specialIn->Bn,isFn->By,looks_findIn->Bz,plainGet_of->BF,lookIn->BK,InstAt->BL,codeRec_of->BP,methodObj->BR,plainOver->BU,kitx_list->BV,envX->C5,takerIn->Cd,makesIn->Cg,takesIn->Ci,findObj->Cj,OpenLaw->Cp,hideAll_get->CO,codeHd_of_K->CQ,of_hideAll->CV,kitx_tuple->CY,kitx_dict->D6,handedIn->De,kla_fn->Dq,WalkO->Dt,KitX->DC
open List renaming getElem?_eq_getElem->u6,getElem?_eq_some_iff->u9,prefix_append->ua,getElem?_append_left->uc,mem_of_getElem?->ud,getElem?_map->uf,set->ui,mem_cons_of_mem->uj,size_toArray->uo,getElem?_append_right->ur,mem_cons_self->uv,length_map->uw,length_cons->ux,mem_cons->uy,getElem?_eq_none->uA,length_append->uD,map_cons->uE,getD_eq_getElem?_getD->uG,mem_singleton->uH,replicate->uJ,find?_cons->uL,take_succ_eq_append_getElem->uO,prefix_refl->uU,map->uY,getElem?_set->uZ,range->v7,map_append->w6,mem_map->x8,mem_append_right->x9,append_nil->y0,lookup_cons->y3,getElem_mem->y4,all_eq_true->y8,getElem?_of_mem->z5,cons_append->A0,take_length->A1,flatten_cons->A4,length_take->A6,length_nil->A9,findIdx?_eq_some_iff_getElem->Ac,mem_range->Af,drop_zero->Ah,drop_eq_getElem_cons->Aj,nodup_cons->Al,any_cons->Ap,lookup->Ar,filterMap_cons->AB,getElem?_replicate->AF,mem_append->AH,of_mem_zip->AI,length_set->AJ,getElem?_set_ne->AX,length_drop->AZ,any_eq_true->B1,replicate_succ'->B3,flatten_nil->B4,all_cons->B5,getElem?_range->Ba,reverse_cons->Bo,getElem?_set_self->Bq,append->Bt,getElem?_reverse->Bw,length_reverse->BG,flatten_append->BJ,mem_filterMap->BO,ext_getElem?->BW,getElem?_zip_eq_some->C0,getElem_inj->C3,map_map->C8,drop_length->C9,length_eq_zero_iff->Ca,getElem?_cons_succ->Cb,range_succ->Ck,nil_append->Cm,length->Cr,take_of_length_le->Ct,drop_of_length_le->Cv,length_replicate->Cy,dropLast_eq_take->Cz,nodup_nil->CB,mem_append_left->CD,length_dropLast->CF,mem_iff_getElem->CG,contains_eq_mem->CI,mem_of_mem_drop->CK,replicate_succ->CT,map_nil->CW,find?_eq_none->D0,any_eq_false->D2,flatMap_cons->D7,length_range->D8,append_assoc->D9,isEmpty_iff->Dg,map_reverse->Dh,mem_filter->Di,foldl_cons->Dm,mapM_cons->Dp,map_drop->Dv,map_take->Dw
open Nat renaming le_refl->ug,lt_of_lt_of_le->uB,le_trans->uC,ne_of_lt->uF,lt_of_le_of_lt->uP,mul_le_mul_right->v5,le_of_lt->v8,lt_trichotomy->x5,sub_self->A2,succ_mul->Ad,lt_irrefl->Ao,lt_succ_self->Aq,le_of_eq->Az,zero_le->B7,gcd->Bi,le_succ->Br,mul_le_mul_left->BI,mul_pos->Cu,pow_le_pow_right->CJ,add_le_add_left->CP,sub_zero->D1,lt_succ_of_lt->D3,not_lt->Dk,min_eq_left->Dn,add_assoc->Dr,mul_assoc->Du
open Or renaming inl->uh,inr->A7
open Option renaming bind_some->uz,map_eq_some_iff->uI,bind_eq_some_iff->v3,isSome_iff_exists->y7,getD_some->z6,map_some->Aa,bind->B8,isSome_map->Bp,getD_none->Df
open Option.some renaming inj->uK,injEq->uQ
open Int renaming toNat_natCast->uM,emod_nonneg->y6,zero_add->y9,emod_lt_of_pos->z4,fdiv_eq_ediv_of_nonneg->Av,toNat_of_nonneg->Bb,ofNat_inj->Bv,ediv_one->C4,mul_one->Dc,ediv_nonneg->Dl
open Bool renaming false_ne_true->uS,and_eq_true->uX,eq_iff_iff->z7,noConfusion->AA,false_bne->Bh,or_eq_true->BD,beq_eq_decide_eq->Cw,and_eq_true_iff->CH,not_eq_true'->D4,eq_false_iff->D5
open False renaming elim->uW
open PySem renaming mem_of_lookup->w5,intBits_le_iff->z3,Expr->BE,frameOf->CM,Within->CU,call->Dj
open PyProof.Rows renaming slot_tuple_getitem->z0,callWith_type1->z8
open PySem.F renaming plainAttrs_list->z9,args_tuple_add_2->Bd,slot_list_append->Be,type_list_append->Bf,entry_tuple_add->Bk,slot_tuple_add->Bs,slot_dict_getitem->BX,slot_list_extend->C6,type_list_extend->C7
open True renaming intro->A5
open Ne renaming symm->A8
open Classical renaming byContradiction->Ai,propDecidable->Bj
open ForInStep renaming yield->AK
open HAppend renaming hAppend->AO
open Array renaming getElem?_toList->AU,length_toList->B9,toList_append->BH,append_assoc->BM,getElem?_eq_some_iff->BQ,getElem?_eq_getElem->BZ,forIn_toList->CZ,toList->Dz
open Append renaming append->B6
open PySem.Builtin.Str renaming strSliceIndices->Bu
open Sum renaming inl->C1,inr->C2
open PyProof renaming noPylong_small->Cq
open Prod.mk renaming injEq->CN
open PySem.EqMixed renaming eq_bool_str->Dx,eq_str_bool->Dy,eq_int_str->DA,eq_str_int->DB
open List.Pairwise renaming imp_of_mem->DE,nil->DG
open PySem.W.Looks renaming here->DF,ld->DH
noncomputable section
local macro_rules|`(∅)=>`(by decide)
local macro_rules|`(⋯)=>`(by omega)
local macro_rules|`(nofun)=>`(fun z=>by cases z)
local macro_rules|`(*...*)=>`(by decide+kernel)
structure PySem.W.Fast:Prop where(tw10018825380898670963 tw10022098025536261428 tw1002940139274383011 tw10033889370695076662 tw10039425745823054491 tw10047288706131490145 tw1011570958026391264 tw10202537763733750044 tw10218579516947038053 tw10313429030147850600 tw10364392109337406886 tw10405696390451644913 tw10442455957525988673 tw10468140257731003666 tw10525029456798190812 tw10530125674230079464 tw10621600462098226012 tw10622851220723030401 tw10651035872443527207 tw10676663071791072044 tw10679616409247389652 tw10740397551166321252 tw10857937825376504052 tw10879091041205863021 tw10922710193907000301 tw10931811186710628041 tw10943754278673107095 tw10953152271558233220 tw10954167016628637146 tw109711884837326392 tw10982852492857978474 tw1104109047415314235 tw11130606174277961282 tw11138159362373634320 tw11151941421089759322 tw11197803854008719916 tw11283899438415264595 tw11287079046288879190 tw113010083302536516 tw11328234556446498999 tw11355513329786435600 tw11366911954858529893 tw11380750388765754626 tw11465778768964960294 tw11500025587891836539 tw11520482042727240021 tw11525399866233238923 tw11525956330191056750 tw11528450370727367816 tw11540723671124251407 tw11551255744622817133 tw11578777728653296878 tw11589369323825988220 tw11601112993378014083 tw11657789435264854877 tw11680478621225891066 tw11694147747434374171 tw11715147235257637886 tw11763792435874140846 tw1180039649369409184 tw11804877460078027408 tw1180954336486250969 tw11827162308473568975 tw11862469597806894539 tw11886436565366297256 tw11886787034899454871 tw11918685819594791461 tw11921711662536497347 tw11938921636095231172 tw11940014976251854994 tw11946446227364384429 tw1198864659520134754 tw12021626673191075630 tw12035402852424049263 tw12049790699095339137 tw12066041906512819575 tw12070727582164838739 tw12112031106002184665 tw1212391297842162625 tw12125238392220166419 tw12135387597880388334 tw12165412118725666167 tw12206220646588854775 tw12241253097819954197 tw12250144037891359491 tw12250208457594566603 tw12261843448405138516 tw12262341721818266165 tw12278476582231135514 tw12283301665181511945 tw12285848695302153635 tw12289672981433484055 tw12312145813875134735 tw12354637644119347115 tw12357647527610129268 tw12366969272943950771 tw12374705575929079222 tw12396266336880764928 tw12406649239066265977 tw12430419768501383602 tw12511597758191162594 tw12512782884866453668 tw12517507110259824346 tw1252691525801683814 tw12532982099841117382 tw12581796966874732837 tw12591158831412005941 tw12611582577772291116 tw12644107775671317106 tw12647818883097894162 tw12655040260614715814 tw12690109531624620945 tw1270737567312721048 tw12707556813815447872 tw12752937786568189662 tw12771015006300462898 tw12794422826411396587 tw1284018893904330034 tw12854662513094717517 tw12924216582930545373 tw12930641662917998668 tw12933723647862068101 tw1293946597783412266 tw12959036790883269484 tw12968309003990643728 tw12976316540820092270 tw12979711132060049677 tw13004932738454471878 tw13031939375872884325 tw13069643244165156961 tw1308349367407040348 tw13149701856638779484 tw13180208607483229489 tw13212026488194818642 tw13215433378408652511 tw13222258078696110632 tw13251214541938826437 tw13259912532117242225 tw13265128375120595625 tw13269354895781136887 tw13276658153468225606 tw13281990478515341347 tw13362242482468301003 tw13363648397072400811 tw13453812429202074365 tw13475004037598974596 tw13486070875918107831 tw13490242621423864101 tw13545016371837638896 tw13577572507573319423 tw13578935813828704195 tw13636965391385640469 tw13642021811073107103 tw13643590758076938751 tw13696642589554838836 tw13702239272064535818 tw13723055403018631685 tw13765219908627847891 tw13789732638411799474 tw13801545590498616259 tw1385786410642384333 tw13866573113783542715 tw13881392743996669107 tw1391157172568676210 tw13967495315280335788 tw1409205732509782116 tw14110458438413492096 tw14119914166757899829 tw14121495230683390319 tw14140709622880274134 tw14177112369230292123 tw14197171170469531719 tw14272688538028041463 tw14305418571246563076 tw1432903305932513492 tw14361670836055390089 tw14377436734097048623 tw14407955106101651771 tw14409090583510157028 tw14415773364299872127 tw14423337372420063607 tw14432687278631960123 tw14468399824912030794 tw14472420744928291321 tw14501554250582288106 tw14556867778348915738 tw14578024112356077689 tw14614408345881029578 tw14620951652121659624 tw14623739790602471788 tw14671467983593359515 tw14680137711300170519 tw1469037142582262112 tw14722233093774265009 tw14757537183653728616 tw14815615189710837796 tw14816027887572865152 tw14831929332982338493 tw14856782151272218956 tw14861290162638890327 tw14902497421849633502 tw14917666702985163463 tw14919271430932883320 tw14935309903567543599 tw14970179654315639093 tw14996316238335359326 tw15004518351214569770 tw1502112896592291652 tw15027563882405915909 tw15136330261541894957 tw15142110624712142997 tw15284390220341919460 tw15285205412773580697 tw15290178215730761278 tw15335891618460616402 tw15400819809529558042 tw15401578302871825025 tw15437407743580588149 tw15438403484138619630 tw15455116606538425064 tw15458081137478449007 tw15474504580369110577 tw15478787296914997831 tw15478889287736412694 tw15490477660452427056 tw15491154146206219562 tw15507936839446863521 tw155081732735842781 tw15520187763705197821 tw1557963364731288372 tw15586353935962907499 tw1573573155640828391 tw15755372667322379244 tw15759217262462911118 tw15760111476301591728 tw15776126993910837720 tw1577998174684137658 tw15893210401497651630 tw15902933823320209731 tw15942367627753932488 tw15950982599621839163 tw15976391885853320753 tw16005415233963337962 tw16045004204670805127 tw16059900016832477398 tw16067760976818195820 tw1614203948203900124 tw16193158317685661129 tw16201587447562670925 tw16208156733667027362 tw16217804648157824390 tw16287786340632070948 tw1632713408055798040 tw16336454467020767065 tw16403946911339736188 tw16411812436664838674 tw1644106810593237252 tw16444527047537428581 tw16452078620310655893 tw16466391979419106869 tw16519263755446246218 tw16586594693102376043 tw16612650971151085397 tw16628920516078400087 tw16674297478603724702 tw16678284263049634220 tw1668700609827308069 tw16768683483260242351 tw16839100242026446977 tw16866468116487258376 tw16899515057381077705 tw16967696626265263959 tw16973370356568283925 tw16988617211987741356 tw16997377396110907031 tw17001655418255159339 tw17037347725713361169 tw1704987746338385872 tw17080365484312392374 tw17118386755858967149 tw17127566718746490868 tw17147349101169833217 tw17162572930435534206 tw17171495760992187477 tw17206559244282207309 tw17219774516221010849 tw17295281945360393499 tw17389453153560746278 tw17429393731727350880 tw17443567630010790421 tw17464491271089032092 tw17468762797920971426 tw17519834687207071578 tw17547375806014142225 tw17563672203646972377 tw17567964702685465948 tw17588784639155281577 tw17622780614425395726 tw17628036949332334131 tw17645976937245669712 tw17650491083202090448 tw17683246370159479106 tw17723730147514556235 tw1772606493349166556 tw17762098720755419029 tw17819521179133656961 tw17878611622747242516 tw17925902931220354815 tw17948922539320777402 tw17981929209914355975 tw17982610294668952521 tw17992026565836917970 tw180778367074056388 tw18104944452357539474 tw1813310485931754182 tw18193144730759001559 tw18193821052700448277 tw18200749372950646476 tw18379437966096124697 tw18383814525855380863 tw18386469051615628118 tw18400781522040000976 tw18425260669910626357 tw1842906959451473712 tw18442994155726352739 tw1849928546741120432 tw1856251144522188991 tw1884607578681756144 tw1912290765788388602 tw1918858407457156584 tw1925284626577128237 tw1971319695713342471 tw2019787523501328747 tw2031294503579227695 tw20347345395822594 tw2042800065295966572 tw2049873096125308088 tw2067784290762764003 tw2076571803032107993 tw2109614467239648502 tw2152940202404427501 tw2169206963519182022 tw2188894513484050849 tw2232433665924569145 tw2276233577179698458 tw2317473550233100473 tw2317779701979066897 tw2319566114313238349 tw2324114265409539611 tw2332102395328234363 tw2354036951545400649 tw2359060234973903772 tw236661518771241425 tw2388732782275618839 tw2410595621597399832 tw2429128614190931032 tw2509234834699838898 tw2555284209813101710 tw2556993614547106192 tw2614469503828533199 tw2672117558258221918 tw2678701884330935656 tw2695727251696080494 tw2708601425309351126 tw2764838176875125790 tw2769028116036163908 tw2800778496606348466 tw2806237225234336513 tw2836122470228100887 tw2898507586993491251 tw2957990634086589219 tw2986219748343072372 tw3003016272730468497 tw3044212859798825415 tw3052350637598307222 tw313113107003963519 tw3134258079359910845 tw3181817348183131948 tw3207273284331792796 tw3219372521576782587 tw3262924404372064743 tw329308698472122882 tw3309265837598242557 tw3316554718502252409 tw3347581972742054007 tw3366434897564275346 tw3381920485534428635 tw3405266616273817056 tw3436526049842810791 tw3461911716274588178 tw3470279631518838272 tw3476805927770645736 tw3500851294404117083 tw3505406559590865907 tw3541645140338153621 tw3561032710408184143 tw3562098334014014129 tw3563494241696442275 tw3625362487542330759 tw3640269087020572873 tw3687410630306140871 tw3729532949416582111 tw3740902188890945352 tw3774831877310834642 tw3872052084752395043 tw3874505014540892440 tw3890043324432510459 tw3891460932054461859 tw3945746168144017383 tw3961802657783977389 tw3971885085906922817 tw3974983318778141184 tw4003150487529510545 tw4018537321622753990 tw4022340981277142113 tw4029749333519268967 tw4053717452242061325 tw405410767819787144 tw4067703017857484672 tw4103784355564049919 tw4144261396895321879 tw4157735670324301434 tw4190991053934347085 tw4213031142176185466 tw4215119778645904572 tw4287794762669681343 tw4348817812837673825 tw4358308468954696516 tw4376125828666992591 tw4403486862380276192 tw4410248670637036181 tw4432414073719272178 tw444065013892988168 tw4559740967298570782 tw4574657854599850551 tw4587569340727461818 tw4590540674630852899 tw4593041241413210736 tw4624481187687243362 tw4648987266031894698 tw4668765400878203490 tw4701474282105630559 tw4720106365488867885 tw4741516179712172292 tw4759399371209894918 tw4772138011189976654 tw4930852961007306025 tw4942271464746390587 tw4954385442114681117 tw4972562895660137464 tw4990027404837751587 tw4996210096201605217 tw5019929859906902988 tw5021984950814983334 tw5065261154419647586 tw5081011094227125927 tw5097619437407393583 tw5138152829532563771 tw5195847603020220520 tw5226539215341967641 tw5356898714755060009 tw5384990618880065575 tw5502408088792785319 tw5548165228468093747 tw554919429382479918 tw5551161842809301111 tw5561533548196237360 tw5611589297231989310 tw5615024530798514417 tw5697873716943258597 tw5726497788778822981 tw5727514268657692826 tw5764020912490065151 tw5799641031508438741 tw5877472335101911750 tw5880087769215386239 tw5880187767018706398 tw5882388403187561478 tw5886174847488991409 tw5904941792091045751 tw5921229054292893538 tw5924603022375145054 tw5925965072598310003 tw5951734745071121649 tw5953128871906429563 tw5974696643413878316 tw6048302271984258657 tw6115585024523237269 tw6185506180673094854 tw6241055491159251034 tw6251300382786445398 tw6296612865084231391 tw6343102645269959004 tw637521570503250098 tw6375532063398881809 tw6403406244089181761 tw6418669405549812388 tw653603950988100204 tw6565999635572603376 tw657249375960084728 tw6573728470753478712 tw6619516322118123402 tw6625075907670316389 tw6629180823757736759 tw6645467159010225561 tw6661695832138375018 tw66632178575965010 tw666502652592472156 tw6692977344325456125 tw6710857428961934816 tw672203570110859825 tw6725275907694077195 tw6751689054414958469 tw6781868824010196105 tw679439751870545043 tw6817434255322869285 tw6893261851260856636 tw6906903517382534203 tw693925656168408113 tw6956751591845363762 tw6986483427609733984 tw7014166167677752852 tw7080404008672597247 tw7144798751956021665 tw7150432827334856154 tw7182889710338578413 tw7212681521481274521 tw7213584947127879459 tw7214871700019550093 tw7269095689146133541 tw7362747156077279880 tw7383622038907647568 tw742776152604880171 tw7461061430923133274 tw7526636707258224986 tw7560172190988183858 tw7579582630045845669 tw7602730364061614724 tw7639071804967858638 tw7641581970138750202 tw7671162805747466118 tw768247909190361191 tw7694701470254032820 tw773962476382176328 tw7748693642992122791 tw7755794967105632724 tw7765934380863519382 tw777582539135598395 tw7788009632373631056 tw7806569413397768483 tw7897608861295591563 tw7932298585939233105 tw7932627843769648153 tw7962121721024918934 tw8018517163750410922 tw8023371543880857739 tw8038575923064175243 tw8047436299370172205 tw804784972478220222 tw8049827550590961983 tw805847195896634246 tw8094357248292566354 tw8122344720070473814 tw8161501313865188665 tw8167780744247333282 tw8178949433984187503 tw8197276433039475641 tw8207115714980973299 tw8221720849726079022 tw8270176455617571650 tw8277183587385390057 tw8300350003054053438 tw8305430820366160223 tw8334903353540920208 tw8415536321291482711 tw8455682595387540705 tw8459963604630080938 tw8470476495796057968 tw8475326471119425734 tw8543960972340318851 tw8547478318333056083 tw8554780291675013180 tw8585482746747242152 tw860518349318403843 tw8644656126730816394 tw8655141686917054368 tw8659787153744282320 tw8741238286925669140 tw8772880420025628994 tw8785795041477237349 tw879931744059940274 tw8808140418617106853 tw8845735374372415182 tw8897056487800446396 tw8908650401089462557 tw8940804802237660787 tw8952905776398555628 tw8968921862615070266 tw8970392231281427278 tw9000478489888869288 tw9006526377784805586 tw9007130182019917849 tw902427780173180770 tw902867023449626091 tw9084633485950932546 tw9087621485845534506 tw9122701579032853537 tw9155585283662369169 tw9162369415362628050 tw9191756648856616961 tw9196172615608609074 tw9205622196680820801 tw9212849137046487878 tw9248111496245539731 tw9252667413581736131 tw9261571810359496562 tw9267101014718746552 tw9268513085334933125 tw9293615573732196134 tw9315925723124227308 tw9335711358689111498 tw9364179839923076111 tw9418724807268309232 tw9425274642972971059 tw952681710572612571 tw9615429944251479159 tw963844304727558611 tw9671928799752444187 tw9689599144707383403 tw9738816411016677106 tw9747244640889899218 tw9786160309229016103 tw9804113725761938023 tw9810644131570838088 tw9882322927580114503 tw9895884640302173790 tw9927732902992491657 tw9978123581539552878:True)
namespace L2
open PySem PySem.Spec PyProof.Rows
abbrev Key:=Sum Int Str
noncomputable def zcW:Key->Value->Bool
 | .inl k,v=>Value.isInt k v
 | .inr x,v=>Value.isStrOf x v
noncomputable def zgd (w:World):Key->Int
 | .inl k=>hashInt k
 | .inr x=>hashStr w x
theorem xz:∀{k:Key} {v:Value},zcW k v=ia->(∃i t,k=C1 i/\v=Value.int i t)\/(∃x t,k=C2 x/\v=Value.str x t)
 | .inl i,v,h=>by
  obtain⟨t,e⟩:=Value.isInt_shape (k:=i) (v:=v) h;exact .inl ⟨i,t,rfl,e⟩
 | .inr x,v,h=>by
  obtain⟨t,e⟩:=Value.isStrOf_shape (x:=x) (v:=v) h;exact .inr ⟨x,t,rfl,e⟩
theorem ziy (i:Int) (t:Tok):zcW (.inl i) (.int i t)=ia:=by simp[zcW,Value.isInt]
theorem ziz (x:Str) (t:Tok):zcW (.inr x) (.str x t)=ia:=by simp[zcW,Value.isStrOf]
theorem znW (a b:Int):decide ((C1 a:Key)=C1 b)=(a==b):=by
 by_cases e:a=b
 .subst e;simp
 .have h:¬(C1 a:Key)=C1 b:=λq=>e (Sum.inl.inj q);rw[decide_eq_false h];exact (beq_eq_false_iff_ne.mpr e).symm
theorem znX (a b:Str):decide ((C2 a:Key)=C2 b)=decide (a=b):=by
 by_cases e:a=b
 .subst e;simp
 .have h:¬(C2 a:Key)=C2 b:=λq=>e (Sum.inr.inj q);rw[decide_eq_false h,decide_eq_false e]
theorem znY (a:Int) (b:Str):decide ((C1 a:Key)=C2 b)=kb:=decide_eq_false (λq=>nomatch q)
theorem znZ (a:Str) (b:Int):decide ((C2 a:Key)=C1 b)=kb:=decide_eq_false (λq=>nomatch q)
noncomputable def wL (prog:Program) (w:World):PySem.KeyKind prog w Key where
 is:=zcW
 hash:=zgd w
 inj:=λv a b ha hb=>by
  rcases xz ha with⟨i,t,rfl,rfl⟩|⟨x,t,rfl,rfl⟩
  .rcases xz hb with⟨j,u,rfl,e⟩|⟨y,u,rfl,e⟩
   .injection e with e1 _;rw[e1]
   .exact nomatch e
  .rcases xz hb with⟨j,u,rfl,e⟩|⟨y,u,rfl,e⟩
   .exact nomatch e
   .injection e with e1 _;rw[e1]
 byValue:=λk v h=>by
  rcases xz h with⟨i,t,rfl,rfl⟩|⟨x,t,rfl,rfl⟩<;>rfl
 pyHash:=λhv h=>by
  rcases xz hv with⟨i,t,rfl,rfl⟩|⟨x,t,rfl,rfl⟩
  .exact wpAny_pyHash_int h
  .exact wpAny_pyHash_str h
 eqBool:=λhu hv h=>by
  rcases xz hu with⟨i,t,rfl,rfl⟩|⟨x,t,rfl,rfl⟩
  .rcases xz hv with⟨j,u,rfl,rfl⟩|⟨y,u,rfl,rfl⟩
   .rw[znW] at h;exact wpAny_eqBool_int h
   .rw[znY] at h;exact SeqAt.EqAt.int_str i t y u _ _ _ _ h
  .rcases xz hv with⟨j,u,rfl,rfl⟩|⟨y,u,rfl,rfl⟩
   .rw[znZ] at h;exact SeqAt.EqAt.str_int x t j u _ _ _ _ h
   .rw[znX] at h;exact wpAny_eqBool_str h
 «strs» :=λk x t v h=>by
  rcases xz h with⟨i,u,rfl,e⟩|⟨y,u,rfl,e⟩
  .exact nomatch e
  .injection e with e1 _
   subst e1;cases v<;>rfl
theorem zeT (prog:Program) (w:World) (i:Int) (t:Tok):(wL prog w).is (.inl i) (.int i t)=ia:=ziy i t
theorem zeU (prog:Program) (w:World) (x:Str) (t:Tok):(wL prog w).is (.inr x) (.str x t)=ia:=ziz x t
inductive V where
 |non|bl (b:Bool)|int (i:Int)|str (x:Str)|byt (b:Array UInt8)|flt (b:UInt64)|ref (a:Addr)|ty (n:String)
 deriving DecidableEq
def zW:V->Value->Prop
 | .non,u=>u=Value.none
 | .bl b,u=>u=Value.bool b
 | .int i,u=>∃t,u=Value.int i t
 | .str x,u=>∃t,u=Value.str x t
 | .byt b,u=>∃t,u=Value.bytes b t
 | .flt b,u=>∃t,u=Value.float b t
 | .ref a,u=>u=Value.ref a
 | .ty n,u=>u=Value.type n
noncomputable abbrev zZ:List V->List Value->Prop:=Paired zW
theorem zZ.length {xs:List V} {us:List Value} (r:zZ xs us):xs.length=us.length:=Paired.length r
theorem zZ.get:∀{xs:List V} {us:List Value} {i:Nat} {x:V},zZ xs us->xs[i]? =f7 x->∃u,us[i]? =f7 u/\zW x u
 |_,_,_,_,.nil,e=>by simp at e
 |_,_,0,_,.cons r _,e=>by simp at e;subst e;exact⟨_,rfl,r⟩
 |_,_,i+1,x,.cons _ t,e=>by
  obtain⟨u,h1,h2⟩:=zZ.get (i:=i) (x:=x) t (by simpa using e);exact⟨u,by simpa using h1,h2⟩
theorem zZ.set {x:V} {u:Value} (r:zW x u):∀{xs:List V} {us:List Value} (i:Nat),zZ xs us->zZ (xs.set i x) (us.set i u)
 |_,_,_,.nil=> .nil
 |_,_,0,.cons _ t=> .cons r t
 |_,_,i+1,.cons q t=> .cons q (zZ.set r i t)
theorem zZ.append {xs ys:List V} {us ws:List Value} (h:zZ xs us) (k:zZ ys ws):zZ (xs++ys) (us++ws):=by
 induction h with
 |nil=>exact k
 |cons r _ ih=>exact .cons r ih
theorem zZ.take:∀{xs:List V} {us:List Value} (n:Nat),zZ xs us->zZ (xs.take n) (us.take n)
 |_,_,0,_=> .nil
 |_,_,_+1,.nil=> .nil
 |_,_,n+1,.cons r t=> .cons r (zZ.take n t)
theorem zZ.drop:∀{xs:List V} {us:List Value} (n:Nat),zZ xs us->zZ (xs.drop n) (us.drop n)
 |_,_,0,r=>r
 |_,_,_+1,.nil=> .nil
 |_,_,n+1,.cons _ t=>zZ.drop n t
def Wf:Option V->Option Value->Prop
 |some v,f7 u=>zW v u
 |none,gC=>True
 |_,_=>False
def KV {κ:Type}:List (κ×V)->List (κ×Value)->Prop:=Paired λ(p:κ×V) (q:κ×Value)=>p.1=q.1/\zW p.2 q.2
noncomputable def kV:Key->V
 | .inl i=> .int i
 | .inr x=> .str x
inductive NK where
 |int (i:Int)|str (x:Str)|tup (l:List NK)
noncomputable instance:DecidableEq NK:=λa b=>Bj (a=b)
mutual
noncomputable def WR (w:World):NK->Int
 | .int i=>zgd w (.inl i)
 | .str x=>zgd w (.inr x)
 | .tup l=>reduceHash (Builtin.Tuple.tupleHashOf (Xj w l))
noncomputable def Xj (w:World):List NK->List Int
 |[]=>[]
 |k::r=>WR w k::Xj w r
end
mutual
noncomputable def vW:NK->Nat
 | .int _=>0
 | .str _=>0
 | .tup l=>WT l+1
noncomputable def WT:List NK->Nat
 |[]=>0
 |k::r=>max (vW k) (WT r)
end
noncomputable def zn0 (w:World) (x:NK×Addr×Value):DictEntry:={hash:=WR w x.1,key:= .ref x.2.1,val:=x.2.2}
inductive HO where
 |lst (xs:List V)
 |tup (xs:List V)
 |dK (ae:List (Key×V))|dT (ae:List (List Key×V))
 |dN (ks:List (NK×Addr×V))
 |set (S:Int->Bool) (n:Nat)
 |ins (C dx:Addr) (fs:List (Str×V))
 |own (x:Addr)
 |xd (fs:List (Str×V))
 |met (f x:Addr)
 |rng (lo hi:Int)
 |frz (o:Obj) (u:HO)
 |tbl (ps:Array Value)
 |ext (φ:Heap->Prop)
abbrev Hp:=Addr->Option HO
noncomputable def upd (H:Hp) (a:Addr) (o:HO):Hp:=λb=>if b=a then f7 o else H b
theorem zJ {H:Hp} {a:Addr} {o:HO}:upd H a o a=f7 o:=by unfold upd;rw[if_pos rfl]
theorem zB {H:Hp} {a b:Addr} {o:HO} (h:b≠a):upd H a o b=H b:=by unfold upd;rw[if_neg h]
theorem zpv {H:Hp} {a b:Addr} {o u:HO} (h:H a=f7 o) (h':H b=f7 u) (d:o≠u):a≠b:=by
 intro e;subst e;rw[h] at h';exact d (uK h')
theorem vX {H:Hp} {a b:Addr} {o:HO} (h:H a=f7 o) (h':H b=gC):a≠b:=by
 intro e;subst e;rw[h] at h';cases h'
def Vi (h:Heap) (a:Addr) (items:Array Value):Prop:=∃o,h.get? a=f7 o/\o.cls= .type "tuple"/\∃n,o.data= .seq items n/\o.dict=gC
theorem Vi.tup {h:Heap} {a:Addr} {items:Array Value} (x:Vi h a items):IsTup h a items:=by
 obtain⟨o,e,c,n,d,_⟩:=x;exact⟨o,e,c,n,d⟩
theorem Vi.new (h:Heap) (items:Array Value):Vi (h.push {cls:= .type "tuple",data:= .seq items}) h.objs.size items:=⟨_,Heap.get?_push_size _ rfl,rfl,_,rfl,rfl⟩
section
variable (P:Program) (w:World)
def yN (H:Hp) (h:Heap) (a:Addr):HO->Prop
 | .lst xs=>xs.length<=sizeLine/\∃(ah:List Value) (n:Nat),zZ xs ah/\h.get? a=f7 {cls:= .type "list",data:= .seq ah.toArray n}
 | .tup xs=>xs.length<=sizeLine/\∃ah:List Value,zZ xs ah/\Vi h a ah.toArray
 | .dK ae=>ae.length<=sizeLine/\(a==sysModules)=kb/\∃vs,KV ae vs/\h.DictOf (wL P w) a vs
 | .dT ae=>ae.length<=sizeLine/\(a==sysModules)=kb/\∃xs:List (List Key×Addr×Value),
   Paired (λ(p:List Key×V) (q:List Key×Addr×Value)=>p.1=q.1/\H q.2.1=f7 (.tup (p.1.map kV))/\zW p.2 q.2.2) ae xs/\
   ∃o es ep,h.get? a=f7 o/\o.ExactDict/\o.data= .dict es ep/\es.toList=xs.map (entryOfKey (tupleKind (wL P w)))/\(xs.map (·.1)).Nodup
 | .dN ks=>ks.length<=sizeLine/\(a==sysModules)=kb/\∃xs:List (NK×Addr×Value),Paired (λ(p:NK×Addr×V) (q:NK×Addr×Value)=>p.1=q.1/\p.2.1=q.2.1/\zW p.2.2 q.2.2) ks xs/\
   ∃o es ep,h.get? a=f7 o/\o.ExactDict/\o.data= .dict es ep/\es.toList=xs.map (zn0 w)/\(xs.map (·.1)).Nodup
 | .set S n=>h.SetOf (intKind P w) a S n
 | .ins C dx fs=>H dx=f7 (.own a)/\fs.length<=1000/\dx≠a/\h.get? a=f7 (Ak C dx)/\
   ∃mA,h.Ns1 dx mA/\(∀f,Wf (fs.lookup f) (mA f))/\CU mA (fs.map (·.1))
 | .own _=>∃o,h.get? a=f7 o
 | .xd fs=>∃mA,h.Ns1 a mA/\∀f,Wf (fs.lookup f) (mA f)
 | .rng lo hi=>∃t u v,h.get? a=f7 {cls:= .type "range",data:= .fields #[.int lo t,.int hi u,.int 1 v]}
 | .frz o u=>h.get? a=f7 o/\yN H h a u
 | .tbl ps=>h.get? a=f7 {cls:= .none,data:= .fields ps}
 | .met f x=>h.get? a=f7 (BR (.ref f) (.ref x))
 | .ext φ=>φ h/\(∃o,h.get? a=f7 o)/\∀h1 h2:Heap,φ h1->(∀o,h1.get? a=f7 o->h2.get? a=f7 o)->φ h2
def HOk (H:Hp) (h:Heap):Prop:=∀a o,H a=f7 o->yN P w H h a o
end
section
variable {P:Program} {w:World} {H H':Hp} {h h':Heap} {a:Addr} {o:HO}
theorem yN.lt (x:yN P w H h a o):a<h.objs.size:=by
 cases o with
 |lst xs=>obtain⟨_,_,_,_,e⟩:=x;exact Heap.lt_size e
 |tup xs=>obtain⟨_,_,_,p⟩:=x;exact p.tup.lt
 |dK ae=>obtain⟨_,_,_,_,o,_,_,e,_⟩:=x;exact Heap.lt_size e
 |dT ae=>obtain⟨_,_,_,_,o,_,_,e,_⟩:=x;exact Heap.lt_size e
 |dN ks=>obtain⟨_,_,_,_,o,_,_,e,_⟩:=x;exact Heap.lt_size e
 |set S n=>obtain⟨o,_,_,_,e,_⟩:=x;exact Heap.lt_size e
 |ins C dx fs=>obtain⟨_,_,_,e,_⟩:=x;exact Heap.lt_size e
 |own y=>obtain⟨_,e⟩:=x;exact Heap.lt_size e
 |xd fs=>obtain⟨_,⟨_,_,_,e,_⟩,_⟩:=x;exact Heap.lt_size e
 |rng lo hi=>obtain⟨_,_,_,e⟩:=x;exact Heap.lt_size e
 |frz ob u=>obtain⟨e,_⟩:=x;exact Heap.lt_size e
 |tbl ps=>exact Heap.lt_size (show h.get? a=f7 _ from x)
 |met f y=>exact Heap.lt_size (show h.get? a=f7 _ from x)
 |ext φ=>obtain⟨_,⟨_,e⟩,_⟩:=x;exact Heap.lt_size e
theorem Paired.mapP {α β:Type} {F G:α->β->Prop} {l₁:List α} {l₂:List β} (h:Paired F l₁ l₂) (f:∀a b,F a b->G a b):Paired G l₁ l₂:=by
 induction h with
 |nil=>exact .nil
 |cons r _ ih=>exact .cons (f _ _ r) ih
theorem yN.stay (x:yN P w H h a o) (k:∀b u,(b=a\/H b=f7 (.own a))->h.get? b=f7 u->h'.get? b=f7 u)
  (ho:∀b,H b=f7 (.own a)->H' b=f7 (.own a)) (ht:∀b xs,H b=f7 (.tup xs)->H' b=f7 (.tup xs)):yN P w H' h' a o:=by
 induction o with
 |lst xs=>obtain⟨z,ah,n,r,e⟩:=x;exact⟨z,ah,n,r,k _ _ (.inl rfl) e⟩
 |tup xs=>obtain⟨z,ah,r,ob,e,c⟩:=x;exact⟨z,ah,r,ob,k _ _ (.inl rfl) e,c⟩
 |dK ae=>obtain⟨z,y,vs,r,ob,es,ep,e,c⟩:=x;exact⟨z,y,vs,r,ob,es,ep,k _ _ (.inl rfl) e,c⟩
 |dT ae=>
  obtain⟨z,y,xs,r,ob,es,ep,e,c⟩:=x;exact⟨z,y,xs,Paired.mapP r λp q z=>⟨z.1,ht _ _ z.2.1,z.2.2⟩,ob,es,ep,k _ _ (.inl rfl) e,c⟩
 |dN ks=>obtain⟨z,y,xs,r,ob,es,ep,e,c⟩:=x;exact⟨z,y,xs,r,ob,es,ep,k _ _ (.inl rfl) e,c⟩
 |set S n=>obtain⟨ob,es,ep,t,e,c⟩:=x;exact⟨ob,es,ep,t,k _ _ (.inl rfl) e,c⟩
 |ins C dx fs=>
  obtain⟨d,z,ne,e,mA,⟨od,es,ep,e2,c⟩,r⟩:=x;exact⟨ho _ d,z,ne,k _ _ (.inl rfl) e,mA,⟨od,es,ep,k _ _ (.inr d) e2,c⟩,r⟩
 |own y=>obtain⟨ob,e⟩:=x;exact⟨ob,k _ _ (.inl rfl) e⟩
 |xd fs=>obtain⟨mA,⟨od,es,ep,e,c⟩,r⟩:=x;exact⟨mA,⟨od,es,ep,k _ _ (.inl rfl) e,c⟩,r⟩
 |rng lo hi=>obtain⟨t,u,v,e⟩:=x;exact⟨t,u,v,k _ _ (.inl rfl) e⟩
 |frz ob u ih=>obtain⟨e,q⟩:=x;exact⟨k _ _ (.inl rfl) e,ih q⟩
 |tbl ps=>
  have e:h.get? a=f7 {cls:= .none,data:= .fields ps}:=x;show h'.get? a=f7 {cls:= .none,data:= .fields ps};exact k a _ (.inl rfl) e
 |met f y=>
  have e:h.get? a=f7 (BR (.ref f) (.ref y)):=x;show h'.get? a=f7 (BR (.ref f) (.ref y));exact k a _ (.inl rfl) e
 |ext φ=>obtain⟨p,⟨o,e⟩,st⟩:=x;exact⟨st _ _ p λo q=>k _ _ (.inl rfl) q,⟨o,k _ _ (.inl rfl) e⟩,st⟩
theorem HOk.lt (x:HOk P w H h) (e:H a=f7 o):a<h.objs.size:=(x a o e).lt
theorem HOk.fresh (x:HOk P w H h) (e:h.objs.size<=a):H a=gC:=by
 cases q:H a with
 |none=>rfl
 |some u=>exact absurd (uB (x.lt q) e) (Ao _)
theorem HOk.kept (x:HOk P w H h) (k:∀b u,h.get? b=f7 u->h'.get? b=f7 u):HOk P w H h':=λa o e=>
 (x a o e).stay (λb u _ q=>k b u q) (λ_ q=>q) λ_ _ q=>q
theorem HOk.laid (x:HOk P w H h) (k:∀b u,h.get? b=f7 u->h'.get? b=f7 u) (hp:h.objs.size<=a) (new:yN P w (upd H a o) h' a o):HOk P w (upd H a o) h':=λb u e=>by
 have hn:=x.fresh hp;by_cases hb:b=a
 .subst hb;rw[zJ] at e;cases e;exact new
 .rw[zB hb] at e;exact (x b u e).stay (λc v _ q=>k c v q) (λc q=>by rw[zB (vX q hn)];exact q) λc xs q=>by rw[zB (vX q hn)];exact q
end
def Rd (H:Hp) (a:Addr) (u:HO):Prop:=H a=f7 u\/∃o,H a=f7 (.frz o u)
theorem Rd.ok {P:Program} {w:World} {H:Hp} {h:Heap} {a:Addr} {u:HO} (r:Rd H a u) (x:HOk P w H h):yN P w H h a u:=by
 rcases r with r|⟨o,r⟩
 .exact x a u r
 .obtain⟨_,q⟩:=x a _ r;exact q
def Mut:Option HO->Prop
 |some (.lst _)=>True
 |some (.dK _)=>True
 |some (.dT _)=>True
 |some (.dN _)=>True
 |some (.set _ _)=>True
 |some (.ins _ _ _)=>True
 |some (.ext _)=>True
 |_=>False
section
variable {P:Program} {w:World} {H:Hp} {h h':Heap} {x e:Addr} {o':HO}
theorem HOk.write (ok:HOk P w H h) (mu:Mut (H x)) (he:e=x\/H e=f7 (.own x)) (k:∀b u,b≠e->h.get? b=f7 u->h'.get? b=f7 u) (kx:∃u,h'.get? e=f7 u)
  (new:yN P w (upd H x o') h' x o'):HOk P w (upd H x o') h':=λb u q=>by
 have kI:∀c y,H c=f7 (.own y)->c≠x:=λc y r z=>by subst z;rw[r] at mu;exact mu
 have mS:∀c xs,H c=f7 (.tup xs)->c≠x:=λc xs r z=>by subst z;rw[r] at mu;exact mu
 by_cases hb:b=x
 .subst hb;rw[zJ] at q;cases q;exact new
 .rw[zB hb] at q;by_cases jY:b=e
  .have q':H b=f7 (.own x):=by
    rcases he with z|z
    .exact absurd (jY.trans z) hb
    .rw[jY];exact z
   rw[q] at q';cases q';obtain⟨v,hv⟩:=kx;exact⟨v,by rw[jY];exact hv⟩
  .refine (ok b u q).stay (λc v hc r=>k c v ?_ r) (λc r=>by rw[zB (kI c b r)];exact r) λc xs r=>by rw[zB (mS c xs r)];exact r
   rcases hc with rfl|hc
   .exact jY
   .rintro rfl;rcases he with z|z
    .exact kI c b hc z
    .rw[hc] at z;cases z;exact hb rfl
end
structure Un (fs ex:List Addr) (H H':Hp) (h h':Heap):Prop where
 keep:∀b o,h.get? b=f7 o->H b=gC->b∉fs->b∉ex->h'.get? b=f7 o
 slot:∀b o,h.get? b=f7 o->H b=gC->b∈fs->b∉ex->∃sl,h'.get? b=f7 {o with slots:=sl}
 free:∀b o,h.get? b=f7 o->H b=gC->b∉ex->H' b=gC
 there:∀b o,h.get? b=f7 o->b∉ex->∃o',h'.get? b=f7 o'
 tups:∀b xs,H b=f7 (.tup xs)->H' b=f7 (.tup xs)
 frzs:∀b o u,H b=f7 (.frz o u)->H' b=f7 (.frz o u)
 tbls:∀b ps,H b=f7 (.tbl ps)->∃more,H' b=f7 (.tbl (ps++more))
section
variable {fs fs' ex ex':List Addr} {H H1 H2:Hp} {h h1 h2 h':Heap} {a x e:Addr} {o:HO}
theorem Un.any (u:Un fs ex H H1 h h1) {b:Addr} {ob:Obj} (q:h.get? b=f7 ob) (n:H b=gC) (hx:b∉ex):∃sl,h1.get? b=f7 {ob with slots:=sl}:=by
 by_cases hb:b∈fs
 .exact u.slot b ob q n hb hx
 .exact⟨ob.slots,u.keep b ob q n hb hx⟩
theorem Un.trans (a:Un fs ex H H1 h h1) (b:Un fs ex H1 H2 h1 h2):Un fs ex H H2 h h2 where
 keep:=λc ob q n hc hx=>b.keep c ob (a.keep c ob q n hc hx) (a.free c ob q n hx) hc hx
 slot:=λc ob q n hc hx=>by
  obtain⟨sl,e1⟩:=a.slot c ob q n hc hx;obtain⟨sl',e2⟩:=b.slot c _ e1 (a.free c ob q n hx) hc hx;exact⟨sl',e2⟩
 free:=λc ob q n hx=>by
  obtain⟨o',e1⟩:=a.there c ob q hx;exact b.free c o' e1 (a.free c ob q n hx) hx
 there:=λc ob q hx=>by
  obtain⟨o',e1⟩:=a.there c ob q hx;exact b.there c o' e1 hx
 tups:=λc xs q=>b.tups c xs (a.tups c xs q)
 frzs:=λc ob xs q=>b.frzs c ob xs (a.frzs c ob xs q)
 tbls:=λc ps q=>by
  obtain⟨m1,e1⟩:=a.tbls c ps q;obtain⟨m2,e2⟩:=b.tbls c _ e1;exact⟨m1++m2,by rw[e2,BM]⟩
theorem Un.kept (k:∀b u,h.get? b=f7 u->h'.get? b=f7 u):Un fs ex H H h h':=
 ⟨λb ob q _ _ _=>k b ob q,λb ob q _ _ _=>⟨ob.slots,k b ob q⟩,λ_ _ _ n _=>n,λb ob q _=>⟨ob,k b ob q⟩,λ_ _ q=>q,λ_ _ _ q=>q,λ_ ps q=>⟨#[],by rw[q];simp⟩⟩
theorem Un.refl:Un fs ex H H h h:=Un.kept λ_ _ q=>q
theorem Un.laid (k:∀b u,h.get? b=f7 u->h'.get? b=f7 u) (hp:h.objs.size<=a) (hn:H a=gC):Un fs ex H (upd H a o) h h' where
 keep:=λb u q _ _ _=>k b u q
 slot:=λb u q _ _ _=>⟨u.slots,k b u q⟩
 free:=λb u q n _=>by rw[zB (uF (uB (Heap.lt_size q) hp))];exact n
 there:=λb u q _=>⟨u,k b u q⟩
 tups:=λb xs q=>by rw[zB (vX q hn)];exact q
 frzs:=λb u xs q=>by rw[zB (vX q hn)];exact q
 tbls:=λb ps q=>⟨#[],by rw[zB (vX q hn),q];simp⟩
theorem Un.write (mu:Mut (H x)) (he:e=x\/H e=f7 (.own x)) (k:∀b u,b≠e->h.get? b=f7 u->h'.get? b=f7 u) (kx:∃u,h'.get? e=f7 u):Un fs ex H (upd H x o) h h':=by
 have hx:∀b,H b=gC->b≠x:=λb n z=>by subst z;rw[n] at mu;exact mu
 have hb:∀b,H b=gC->b≠e:=λb n z=>by
  subst z;rcases he with r|r
  .exact hx b n r
  .rw[n] at r;cases r
 have hm:∀b u,H b=f7 u->¬Mut (f7 u)->b≠x:=λb u q nm z=>by subst z;rw[q] at mu;exact nm mu
 refine⟨λb u q n _ _=>k b u (hb b n) q,λb u q n _ _=>⟨u.slots,k b u (hb b n) q⟩,λb u q n _=>by rw[zB (hx b n)];exact n,λb u q _=> ?_,
  λb xs q=>by rw[zB (hm b _ q λz=>z)];exact q,λb u xs q=>by rw[zB (hm b _ q λz=>z)];exact q,λb ps q=>⟨#[],by rw[zB (hm b _ q λz=>z),q];simp⟩⟩
 by_cases jY:b=e
 .subst jY;exact kx
 .exact⟨u,k b u jY q⟩
end
noncomputable def trk (h:Heap) (H:Hp):List Addr:=(v7 h.objs.size).filter λa=>(H a).isSome
noncomputable def zdK (h:Heap) (H:Hp):Heap:=Au h (trk h H)
theorem ziA (h:Heap) (H:Hp):(zdK h H).objs.size=h.objs.size:=PySem.W.hideAll_size _ _
theorem zjz {h:Heap} {H:Hp} {b:Addr} {o:Obj} (e:h.get? b=f7 o) (n:H b=gC):(zdK h H).get? b=f7 o:=
 CO _ e λhm=>by
  have q:(H b).isSome=ia:=(Di.mp hm).2;rw[n] at q;simp at q
theorem zlW {h:Heap} {H:Hp} {b:Addr} {o:Obj} (e:(zdK h H).get? b=f7 o):h.get? b=f7 o/\H b=gC:=by
 have e':h.get? b=f7 o:=CV (trk h H) e;refine⟨e',?_⟩;cases q:H b with
 |none=>rfl
 |some x=>
  have hm:b∈trk h H:=Di.mpr ⟨Af.mpr (Heap.lt_size e'),by simp[q]⟩;have z:(zdK h H).get? b=gC:=PySem.W.hideAll_none (trk h H) hm;rw[z] at e;cases e
structure Mod (P:Program) (K:u5) (mg:Str->Option Value) (base:Heap):Prop where
 kin:K.In base
 glob:base.Ns mainGlobals mg
 blt:∃mb,base.Ns builtinsNs mb/\∀x:Str,x≠"__name__"->mb x=bootBuiltins x
 nolimit:base.NoLimit
 bmn:∃bm ob,mg "__builtins__"=f7 (.ref bm)/\bm≠builtinsNs/\base.get? bm=f7 ob/\ob.cls= .type "module"/\ob.dict=f7 builtinsNs/\ob.data= .plain
 seer:base.NoSeer
 tree:P.given.tree=gC
structure Cx where
 prog:Program
 w:World
 K:u5
 mg:Str->Option Value
 base:Heap
 A:Around
 N:List Str
 s₀:Shared
 H₀:Hp
 env:Env
 outer:List Env
 stack:List Env
 ex:List Addr
 fn:Str->Bool
 zn:Str->Bool
 calm:Bool
 pn:List (Addr×Obj)
 xe:Value->Shared->Prop
noncomputable def frs (l:List Env):List Addr:=l.filterMap (·.frame)
noncomputable abbrev Cx.fs (X:Cx):List Addr:=frs X.outer
def Vis (sc:Scope) (x:Str):Prop:=sc.names.lookup x=f7 .local\/sc.names.lookup x=f7 .cell\/sc.names.lookup x=f7 .free
def Loc (sc:Scope) (x:Str):Prop:=sc.names.lookup x=f7 .local\/sc.names.lookup x=f7 .cell
def zpw (env:Env) (h:Heap) (m:Str->Option Value) (x:Str) (u:Value):Prop:=
 (env.kindOf x=f7 .local/\m x=f7 u)\/((env.kindOf x=f7 .cell\/env.kindOf x=f7 .free)/\∃c,env.cells.lookup x=f7 c/\h.IsCell c (f7 u))
structure Cx.Ok (X:Cx):Prop where
 mod:Mod X.prog X.K X.mg X.base
 kind:X.env.scope.kind= .function
 glob:X.env.globals=mainGlobals
 blt:X.env.builtins=builtinsNs
 above:X.s₀.heap.objs.size<=X.env.locals
 inj:∀x y c,X.env.cells.lookup x=f7 c->X.env.cells.lookup y=f7 c->x=y
 has:∀x,(X.env.kindOf x=f7 .cell\/X.env.kindOf x=f7 .free)->∃c,X.env.cells.lookup x=f7 c
 cab:∀x c,(X.fn x=ia\/X.zn x=ia)->X.env.cells.lookup x=f7 c->X.s₀.heap.objs.size<=c
 hd:X.calm=ia->X.A.handled=gC
 frames:X.A.frames=f7 X.stack
 stk:X.stack=X.outer\/(X.stack=X.env::X.outer/\X.env.frame=f7 X.env.locals)
 exf:∀b∈X.ex,b≠X.env.locals/\∀x c,X.env.cells.lookup x=f7 c->c≠b
 bs:∀b o,X.base.get? b=f7 o->X.s₀.heap.get? b=f7 o/\X.H₀ b=gC
 bsz:X.base.objs.size<=X.s₀.heap.objs.size
 noex:∀b o,X.base.get? b=f7 o->b∉X.ex
 exfs:∀b∈X.ex,b∉X.fs
 funs:X.s₀.heap.FunFrames X.base X.outer
 frf:∀b∈X.fs,X.H₀ b=gC
structure Inv (X:Cx) (pins:List (Addr×Obj)) (σ:List (Option V)) (H:Hp) (s:Shared):Prop where
 ok:X.Ok
 os:s.os=X.s₀.os
 bare:AllBare s.gens
 base:Un X.fs X.ex X.H₀ H X.s₀.heap s.heap
 loc:∃m,s.heap.Ns X.env.locals m/\∀(i:Nat) (x:Str) (v:V),X.N[i]? =f7 x->σ[i]? =f7 (f7 v)->Vis X.env.scope x->∃u,zW v u/\zpw X.env s.heap m x u
 cell:∀x c,X.env.cells.lookup x=f7 c->∃v,s.heap.IsCell c v
 free:H X.env.locals=gC
 freeC:∀x c,X.env.cells.lookup x=f7 c->H c=gC\/(X.fn x=kb/\∃o,H c=f7 (.frz o (.own 0)))
 pin:∀p∈X.pn++pins,s.heap.get? p.1=f7 p.2/\H p.1=gC/\p.1≠X.env.locals/\p.1∉X.fs/\∀v,p.2.data≠ .cell v
 hok:HOk X.prog X.w H s.heap
 len:σ.length=X.N.length
section
variable {X:Cx} {pins:List (Addr×Obj)} {σ:List (Option V)} {H H':Hp} {s:Shared} {h':Heap}
theorem Cx.Ok.nofr (ok:X.Ok) {b:Addr} {o:Obj} (e:X.base.get? b=f7 o):b∉X.fs:=λhb=>by
 have:=(ok.funs.mem hb).1;rw[e] at this;cases this
theorem Inv.bs (I:Inv X pins σ H s):∀b o,X.base.get? b=f7 o->s.heap.get? b=f7 o/\H b=gC:=λb o e=>
 ⟨I.base.keep b o (I.ok.bs b o e).1 (I.ok.bs b o e).2 (I.ok.nofr e) (I.ok.noex b o e),I.base.free b o (I.ok.bs b o e).1 (I.ok.bs b o e).2 (I.ok.noex b o e)⟩
theorem Inv.bk (I:Inv X pins σ H s):∀b o,X.base.get? b=f7 o->s.heap.get? b=f7 o:=λb o e=>(I.bs b o e).1
theorem Inv.mod (I:Inv X pins σ H s):Mod X.prog X.K X.mg X.base:=I.ok.mod
theorem Inv.kIn (I:Inv X pins σ H s):X.K.In s.heap:=I.ok.mod.kin.keeps I.bk
theorem Inv.lt (I:Inv X pins σ H s):X.env.locals<s.heap.objs.size:=let ⟨_,hn,_⟩:=I.loc;hn.lt
theorem Inv.sz (I:Inv X pins σ H s):X.s₀.heap.objs.size<=s.heap.objs.size:=uC I.ok.above (v8 I.lt)
theorem Inv.nofs (I:Inv X pins σ H s) {a:Addr} (h:s.heap.objs.size<=a):a∉X.fs:=λhb=>by
 obtain⟨_,o,ho,_⟩:=I.ok.funs.mem hb;exact absurd (uB (Heap.lt_size ho) (uC I.sz h)) (Ao _)
theorem Inv.cne (I:Inv X pins σ H s):∀x c,X.env.cells.lookup x=f7 c->c≠X.env.locals:=λx c e z=>by
 obtain⟨v,o,ho,hd⟩:=I.cell x c e;obtain⟨m,⟨o',es,ep,iR,ky,_⟩,_⟩:=I.loc;rw[z,iR] at ho;cases ho;rw[ky] at hd;cases hd
theorem Inv.funs (I:Inv X pins σ H s):s.heap.FunFrames X.base X.outer:=by
 have all:∀(l:List Env),(∀b∈frs l,b∈X.fs)->X.s₀.heap.FunFrames X.base l->s.heap.FunFrames X.base l:=by
  intro l
  induction l with
  |nil=>intro _ _;trivial
  |cons env r ih=>
   intro hs hl;obtain⟨hk,⟨L,o,hf,hn,ho,hd⟩,hr⟩:=hl;have hL:L∈X.fs:=hs L (by unfold frs;rw[AB,hf];exact uv);obtain⟨sl,e⟩:=I.base.slot L o ho (I.ok.frf L hL) hL λz=>I.ok.exfs L z hL;exact⟨hk,⟨L,_,hf,hn,e,hd⟩,ih (λb hb=>hs b (by unfold frs;rw[AB,hf];exact uj _ hb)) hr⟩
 exact all X.outer (λ_ hb=>hb) I.ok.funs
theorem Inv.stack (I:Inv X pins σ H s):s.heap.FunFrames X.base X.stack:=by
 rcases I.ok.stk with e|⟨e,hf⟩
 .rw[e];exact I.funs
 .rw[e];obtain⟨m,hn,_⟩:=I.loc;refine .cons (by rw[I.ok.kind];decide) hf hn ?_ I.funs;exact Heap.get?_none_of_le (uC I.ok.bsz I.ok.above)
theorem Inv.stkSub (I:Inv X pins σ H s):∀b∈frs X.stack,b∈X.env.locals::X.fs:=λb hb=>by
 rcases I.ok.stk with e|⟨e,hf⟩
 .rw[e] at hb;exact uj _ hb
 .rw[e] at hb;unfold frs at hb;rw[AB,hf] at hb;exact hb
theorem Inv.stkFree (I:Inv X pins σ H s):∀b∈frs X.stack,H b=gC:=λb hb=>by
 rcases uy.mp (I.stkSub b hb) with e|hb
 .rw[e];exact I.free
 .obtain⟨_,o,ho,_⟩:=I.ok.funs.mem hb;exact I.base.free b o ho (I.ok.frf b hb) λz=>I.ok.exfs b z hb
theorem Inv.step {g':Array GenState} {t':Nat} {d':Drawn} {ch:List Addr} (I:Inv X pins σ H s)
  (iV:∀b∈ch,(b∈X.ex\/X.s₀.heap.objs.size<=b)/\b≠X.env.locals/\(∀x c,X.env.cells.lookup x=f7 c->c≠b)/\∀p∈X.pn++pins,p.1≠b)
  (keep:∀b o,b≠X.env.locals->b∉X.fs->b∉ch->s.heap.get? b=f7 o->H b=gC->h'.get? b=f7 o)
  (slot:∀b o,b≠X.env.locals->b∈X.fs->b∉ch->s.heap.get? b=f7 o->H b=gC->∃sl,h'.get? b=f7 {o with slots:=sl}) (free:∀b o,b∉ch->s.heap.get? b=f7 o->H b=gC->H' b=gC)
  (there:∀b o,b∉ch->s.heap.get? b=f7 o->∃o',h'.get? b=f7 o')
  (tups:∀b xs,H b=f7 (.tup xs)->H' b=f7 (.tup xs)) (frzs:∀b o u,H b=f7 (.frz o u)->H' b=f7 (.frz o u)) (tbls:∀b ps,H b=f7 (.tbl ps)->∃more,H' b=f7 (.tbl (ps++more)))
  (ns:∀m,s.heap.Ns X.env.locals m->h'.Ns X.env.locals m) (hok:HOk X.prog X.w H' h') (hg:AllBare g'):
  Inv X pins σ H' {s with heap:=h',gens:=g',drawn:=d',toks:=t'}:=by
 have oQ:∀b o,X.s₀.heap.get? b=f7 o->b≠X.env.locals:=λb o e=>uF (uB (Heap.lt_size e) I.ok.above);have lS:∀b o,X.s₀.heap.get? b=f7 o->b∉X.ex->b∉ch:=λb o e hx hb=>by
  rcases (iV b hb).1 with z|z
  .exact hx z
  .exact absurd (uB (Heap.lt_size e) z) (Ao _)
 have cellK:∀x c,X.env.cells.lookup x=f7 c->∀v,s.heap.IsCell c v->h'.IsCell c v:=λx c e v ⟨o,ho,hd⟩=>by
  have kJ:c∉ch:=λz=>(iV c z).2.2.1 x c e rfl;rcases I.freeC x c e with hf|⟨_,o',hf⟩
  .by_cases hc:c∈X.fs
   .obtain⟨sl,q⟩:=slot c o (I.cne x c e) hc kJ ho hf;exact⟨_,q,hd⟩
   .exact⟨o,keep c o (I.cne x c e) hc kJ ho hf,hd⟩
  .have h1:=(I.hok c _ hf).1;rw[ho] at h1;cases h1;exact⟨o,(hok c _ (frzs c _ _ hf)).1,hd⟩
 refine⟨I.ok,I.os,hg,⟨λb o e n hb hx=> ?_,λb o e n hb hx=> ?_,λb o e n hx=> ?_,λb o e hx=> ?_,λb xs e=>tups b xs (I.base.tups b xs e),λb o xs e=>frzs b o xs (I.base.frzs b o xs e),λb ps e=> ?_⟩,?_,λx c e=> ?_,?_,λx c e=> ?_,λp hp=> ?_,hok,I.len⟩
 .exact keep b o (oQ b o e) hb (lS b o e hx) (I.base.keep b o e n hb hx) (I.base.free b o e n hx)
 .obtain⟨sl,e1⟩:=I.base.slot b o e n hb hx;obtain⟨sl',e2⟩:=slot b _ (oQ b o e) hb (lS b o e hx) e1 (I.base.free b o e n hx);exact⟨sl',e2⟩
 .obtain⟨o',e1⟩:=I.base.there b o e hx;exact free b o' (lS b o e hx) e1 (I.base.free b o e n hx)
 .obtain⟨o',e1⟩:=I.base.there b o e hx;exact there b o' (lS b o e hx) e1
 .obtain⟨m1,e1⟩:=I.base.tbls b ps e;obtain⟨m2,e2⟩:=tbls b _ e1;exact⟨m1++m2,by rw[e2,BM]⟩
 .obtain⟨m,hn,hl⟩:=I.loc;refine⟨m,ns m hn,λi x v e1 e2 e3=> ?_⟩;obtain⟨u,r,l⟩:=hl i x v e1 e2 e3;refine⟨u,r,?_⟩;rcases l with l|⟨k,c,e,z⟩
  .exact .inl l
  .exact .inr ⟨k,c,e,cellK x c e _ z⟩
 .obtain⟨v,z⟩:=I.cell x c e;exact⟨v,cellK x c e v z⟩
 .obtain⟨m,⟨o,_,_,ho,_⟩,_⟩:=I.loc;exact free _ o (λz=>(iV _ z).2.1 rfl) ho I.free
 .obtain⟨v,o,ho,hd⟩:=I.cell x c e;rcases I.freeC x c e with hf|⟨z,o',hf⟩
  .exact .inl (free c o (λz=>(iV c z).2.2.1 x c e rfl) ho hf)
  .exact .inr ⟨z,o',frzs c _ _ hf⟩
 .obtain⟨e,n,ne,nf,d⟩:=I.pin p hp;have kJ:p.1∉ch:=λz=>(iV p.1 z).2.2.2 p hp rfl;exact⟨keep p.1 p.2 ne nf kJ e n,free p.1 p.2 kJ e n,ne,nf,d⟩
theorem Inv.un {t':Nat} (I:Inv X pins σ H s) (u:Un X.fs [] H H' s.heap h') (hok:HOk X.prog X.w H' h'):Inv X pins σ H' {s with heap:=h',toks:=t'}:=by
 obtain⟨m,⟨o,es,ep,ho,r⟩,_⟩:=id I.loc;obtain⟨sl,hL⟩:=u.any ho I.free (by simp)
 exact I.step (g':=s.gens) (d':=s.drawn) (ch:=[]) (λ_ z=>nomatch z) (λb o _ hb _ e n=>u.keep b o e n hb (by simp)) (λb o _ hb _ e n=>u.slot b o e n hb (by simp)) (λb o _ e n=>u.free b o e n (by simp)) (λb o _ e=>u.there b o e (by simp)) u.tups u.frzs u.tbls (λm' hm=>by
  obtain⟨o',es',ep',iR,r'⟩:=hm;rw[ho] at iR;cases iR
  exact⟨_,es',ep',hL,r'⟩) hok I.bare
theorem Inv.call {g':Array GenState} {t':Nat} {d':Drawn} {ch:List Addr} (I:Inv X pins σ H s) (u:Un (frs X.stack) ch H H' s.heap h') (hok:HOk X.prog X.w H' h') (hg:AllBare g')
  (iV:∀b∈ch,(b∈X.ex\/X.s₀.heap.objs.size<=b)/\b≠X.env.locals/\(∀x c,X.env.cells.lookup x=f7 c->c≠b)/\∀p∈X.pn++pins,p.1≠b):
  Inv X pins σ H' {s with heap:=h',gens:=g',drawn:=d',toks:=t'}:=by
 obtain⟨m,⟨o,es,ep,ho,r⟩,_⟩:=id I.loc;obtain⟨sl,hL⟩:=u.any ho I.free λz=>(iV _ z).2.1 rfl
 exact I.step (ch:=ch) iV (λb o hL hb hc e n=>u.keep b o e n (λz=>(uy.mp (I.stkSub b z)).elim hL hb) hc) (λb o _ _ hc e n=>u.any e n hc) (λb o hc e n=>u.free b o e n hc) (λb o hc e=>u.there b o e hc) u.tups u.frzs u.tbls (λm' hm=>by
  obtain⟨o',es',ep',iR,r'⟩:=hm;rw[ho] at iR;cases iR
  exact⟨_,es',ep',hL,r'⟩) hok hg
theorem Inv.turned {t':Nat} {it:Addr} (I:Inv X pins σ H s) (k:∀b o,b≠it->s.heap.get? b=f7 o->h'.get? b=f7 o) (hn:H it=gC) (hL:it≠X.env.locals)
  (h1:it∈X.ex\/X.s₀.heap.objs.size<=it) (h2:∀x c,X.env.cells.lookup x=f7 c->c≠it) (h3:∀p∈X.pn++pins,p.1≠it):Inv X pins σ H {s with heap:=h',toks:=t'}:=by
 have oP:∀b u,H b=f7 u->b≠it:=λb u e z=>by rw[z,hn] at e;cases e
 refine I.step (g':=s.gens) (d':=s.drawn) (ch:=[it]) (λb hb=> ?_) (λb o _ _ hc e _=>k b o (λz=>hc (by simp[z])) e) (λb o _ _ hc e _=>⟨o.slots,k b o (λz=>hc (by simp[z])) e⟩) (λ_ _ _ _ n=>n)
  (λb o hc e=>⟨o,k b o (λz=>hc (by simp[z])) e⟩) (λ_ _ e=>e) (λ_ _ _ e=>e) (λb ps e=>⟨#[],by rw[e];simp⟩) (λm hm=> ?_) (λb u e=> ?_) I.bare
 .have e:b=it:=by simpa using hb
  subst e;exact⟨h1,hL,h2,h3⟩
 .obtain⟨o,es,ep,ho,r⟩:=hm;exact⟨o,es,ep,k _ o (A8 hL) ho,r⟩
 .refine (I.hok b u e).stay (λc v hc q=>k c v ?_ q) (λ_ q=>q) λ_ _ q=>q;rcases hc with z|z
  .rw[z];exact oP b u e
  .exact oP c _ z
theorem Inv.tok (I:Inv X pins σ H s) (t:Nat):Inv X pins σ H {s with toks:=t}:=I.un (h':=s.heap) (t':=t) Un.refl I.hok
theorem Inv.kept {t':Nat} (I:Inv X pins σ H s) (k:∀b u,s.heap.get? b=f7 u->h'.get? b=f7 u):Inv X pins σ H {s with heap:=h',toks:=t'}:=I.un (Un.kept k) (I.hok.kept k)
theorem Inv.laid {a:Addr} {o:HO} {t':Nat} (I:Inv X pins σ H s) (k:∀b u,s.heap.get? b=f7 u->h'.get? b=f7 u) (hp:s.heap.objs.size<=a) (new:yN X.prog X.w (upd H a o) h' a o):
  Inv X pins σ (upd H a o) {s with heap:=h',toks:=t'}:=I.un (Un.laid k hp (I.hok.fresh hp)) (I.hok.laid k hp new)
theorem Inv.write {x e:Addr} {o:HO} {t':Nat} (I:Inv X pins σ H s) (mu:Mut (H x)) (he:e=x\/H e=f7 (.own x)) (k:∀b u,b≠e->s.heap.get? b=f7 u->h'.get? b=f7 u) (kx:∃u,h'.get? e=f7 u)
  (new:yN X.prog X.w (upd H x o) h' x o):Inv X pins σ (upd H x o) {s with heap:=h',toks:=t'}:=I.un (Un.write mu he k kx) (I.hok.write mu he k kx new)
theorem Inv.weak {σ':List (Option V)} (I:Inv X pins σ H s) (hl:σ'.length=σ.length) (w:∀(i:Nat) v,σ'[i]? =f7 (f7 v)->σ[i]? =f7 (f7 v)):Inv X pins σ' H s:=
 ⟨I.ok,I.os,I.bare,I.base,let ⟨m,hn,jx⟩:=I.loc;⟨m,hn,λi x v e1 e2 e3=>jx i x v e1 (w i v e2) e3⟩,I.cell,I.free,I.freeC,I.pin,I.hok,hl.trans I.len⟩
theorem Inv.pins_of {pins':List (Addr×Obj)} (I:Inv X pins σ H s) (h:∀p∈pins',s.heap.get? p.1=f7 p.2/\H p.1=gC/\p.1≠X.env.locals/\p.1∉X.fs/\∀v,p.2.data≠ .cell v):Inv X pins' σ H s:=
 ⟨I.ok,I.os,I.bare,I.base,I.loc,I.cell,I.free,I.freeC,λp hp=>(AH.mp hp).elim (λz=>I.pin p (CD _ z)) (h p),I.hok,I.len⟩
theorem zbs {N:List Str} (hN:N.Nodup) {i j:Nat} {x:Str} (a:N[i]? =f7 x) (b:N[j]? =f7 x):i=j:=by
 obtain⟨h1,e1⟩:=u9.mp a;obtain⟨h2,e2⟩:=u9.mp b;exact (C3 hN).mp (e1.trans e2.symm)
theorem zcX {M:Model} {A:Around} {E:Value->Shared->Prop} {i:Nat} {x:Str} {v:V} {u:Value} {Q:Unit->Shared->Prop} (I:Inv X pins σ H s) (hN:X.N.Nodup) (hi:X.N[i]? =f7 x) (hx:Loc X.env.scope x) (r:zW v u)
  (h:∀s',Inv X pins (σ.set i (f7 v)) H s'->(∃a,Heap.SameBut a s.heap s'.heap/\(a=X.env.locals\/X.env.cells.lookup x=f7 a))->Q () s') (hf:X.fn x=ia\/X.env.scope.names.lookup x=f7 .local:=by first|exact .inl rfl|exact .inr rfl|assumption):wpAny M A (storeName X.env x u) Q E s:=by
 obtain⟨m,hn,hl⟩:=id I.loc;have oo:(X.env.scope.kind== .class||(X.env.scope.kind== .module&&X.env.locals !=X.env.globals))=kb:=by rw[I.ok.kind];rfl
 have hiσ:i<σ.length:=by rw[I.len];exact (u9.mp hi).1
 have cne:=I.cne;have tracked:∀{a:Addr} {h':Heap},(∃o,s.heap.get? a=f7 o/\H a=gC)->Heap.SameBut a s.heap h'->HOk X.prog X.w H h':=λ{a h'} ha hs b ob e=>by
  obtain⟨_,_,jy⟩:=ha;refine (I.hok b ob e).stay (λc w' hc q=>(hs.2 c ?_).trans q) (λ_ q=>q) λ_ _ q=>q;rintro rfl;rcases hc with rfl|hc
  .rw[jy] at e;cases e
  .rw[jy] at hc;cases hc
 rcases hx with hk|hk
 .refine wpAny_storeName_local hk hn (λh' kW hs=> ?_) oo;obtain⟨oL,_,_,nQ,_⟩:=id hn;refine h _ ⟨I.ok,I.os,I.bare,⟨λb o e n hb hx=> ?_,λb o e n hb hx=> ?_,I.base.free,λb o e hx=> ?_,I.base.tups,I.base.frzs,I.base.tbls⟩,⟨_,kW,λj y v' e1 e2 e3=> ?_⟩,λy c e=> ?_,I.free,I.freeC,λp hp=> ?_,tracked ⟨oL,nQ,I.free⟩ hs,by simpa using I.len⟩ ⟨_,hs,.inl rfl⟩
  .exact (hs.2 b (uF (uB (Heap.lt_size e) I.ok.above))).trans (I.base.keep b o e n hb hx)
  .obtain⟨sl,e1⟩:=I.base.slot b o e n hb hx;exact⟨sl,(hs.2 b (uF (uB (Heap.lt_size e) I.ok.above))).trans e1⟩
  .obtain⟨o',e1⟩:=I.base.there b o e hx;exact⟨o',(hs.2 b (uF (uB (Heap.lt_size e) I.ok.above))).trans e1⟩
  .by_cases hj:j=i
   .subst hj;rw[hi] at e1;cases e1;rw[Bq hiσ] at e2;cases e2;exact⟨u,r,.inl ⟨hk,by simp⟩⟩
   .rw[AX (A8 hj)] at e2;obtain⟨u',r',q⟩:=hl j y v' e1 e2 e3;refine⟨u',r',?_⟩;rcases q with⟨k,e⟩|⟨k,c,e,z⟩
    .refine .inl ⟨k,?_⟩;have:y≠x:=λe=>hj (zbs hN e1 (e ▸ hi));simp[this,e]
    .exact .inr ⟨k,c,e,z.sameBut hs (cne y c e)⟩
  .obtain⟨w',z⟩:=I.cell y c e;exact⟨w',z.sameBut hs (cne y c e)⟩
  .obtain⟨e,n,ne,nf,d⟩:=I.pin p hp;exact⟨(hs.2 p.1 ne).trans e,n,ne,nf,d⟩
 .have mj:X.fn x=ia:=by
   rcases hf with z|z
   .exact z
   .rw[z] at hk;cases hk
  obtain⟨c,hc⟩:=I.ok.has x (.inl hk);have sr:H c=gC:=(I.freeC x c hc).elim (λz=>z) λz=>by rw[mj] at z;cases z.1
  obtain⟨w',z⟩:=I.cell x c hc;refine wpAny_storeName_cell I.ok.kind hk hc z (λh' jX hs=> ?_);obtain⟨oc,lZ,nO⟩:=id z;refine h {s with heap:=h'} ⟨I.ok,I.os,I.bare,⟨λb o e n hb hx=> ?_,λb o e n hb hx=> ?_,I.base.free,λb o e hx=> ?_,I.base.tups,I.base.frzs,I.base.tbls⟩,⟨m,hn.sameBut hs (A8 (cne x c hc)),λj y v' e1 e2 e3=> ?_⟩,λy c' e=> ?_,I.free,I.freeC,λp hp=> ?_,tracked ⟨oc,lZ,sr⟩ hs,by simpa using I.len⟩ ⟨c,hs,.inr hc⟩
  .exact (hs.2 b (uF (uB (Heap.lt_size e) (I.ok.cab x c (.inl mj) hc)))).trans (I.base.keep b o e n hb hx)
  .obtain⟨sl,e1⟩:=I.base.slot b o e n hb hx;exact⟨sl,(hs.2 b (uF (uB (Heap.lt_size e) (I.ok.cab x c (.inl mj) hc)))).trans e1⟩
  .obtain⟨o',e1⟩:=I.base.there b o e hx;exact⟨o',(hs.2 b (uF (uB (Heap.lt_size e) (I.ok.cab x c (.inl mj) hc)))).trans e1⟩
  .by_cases hj:j=i
   .subst hj;rw[hi] at e1;cases e1;rw[Bq hiσ] at e2;cases e2;exact⟨u,r,.inr ⟨.inl hk,c,hc,jX⟩⟩
   .rw[AX (A8 hj)] at e2;obtain⟨u',r',q⟩:=hl j y v' e1 e2 e3;refine⟨u',r',?_⟩;rcases q with q|⟨k,c',e,z'⟩
    .exact .inl q
    .refine .inr ⟨k,c',e,z'.sameBut hs ?_⟩;rintro rfl;exact hj (zbs hN e1 (I.ok.inj _ _ _ e hc ▸ hi))
  .by_cases mw:c'=c
   .subst mw;exact⟨_,jX⟩
   .obtain⟨w2,z2⟩:=I.cell y c' e;exact⟨w2,z2.sameBut hs mw⟩
  .obtain⟨e,n,ne,nf,d⟩:=I.pin p hp;refine⟨(hs.2 p.1 ?_).trans e,n,ne,nf,d⟩;intro q;rw[q,lZ] at e;have q':oc=p.2:=uK e;exact d w' (by rw[<-q'];exact nO)
theorem zbt {M:Model} {A:Around} {E:Value->Shared->Prop} {i:Nat} {x:Str} {v:V} {u:Value} {Q:Unit->Shared->Prop} (I:Inv X pins σ H s) (hN:X.N.Nodup) (hi:X.N[i]? =f7 x) (hx:Loc X.env.scope x) (r:zW v u)
  (h:∀s',Inv X pins (σ.set i (f7 v)) H s'->Q () s') (hf:X.fn x=ia\/X.env.scope.names.lookup x=f7 .local:=by first|exact .inl rfl|exact .inr rfl|assumption):wpAny M A (storeName X.env x u) Q E s:=
 zcX I hN hi hx r (λs' I' _=>h s' I') hf
theorem Inv.call' {s':Shared} {ch:List Addr} (I:Inv X pins σ H s) (ho:s'.os=s.os) (u:Un (frs X.stack) ch H H' s.heap s'.heap) (hok:HOk X.prog X.w H' s'.heap) (hg:AllBare s'.gens)
  (iV:∀b∈ch,(b∈X.ex\/X.s₀.heap.objs.size<=b)/\b≠X.env.locals/\(∀x c,X.env.cells.lookup x=f7 c->c≠b)/\∀p∈X.pn++pins,p.1≠b):Inv X pins σ H' s':=by
 obtain⟨h',g',d',t',o'⟩:=s';have e:o'=s.os:=ho;subst e;exact I.call (g':=g') (t':=t') (d':=d') u hok hg iV
end
abbrev XK:=Value->Option Addr->Hp->Prop
abbrev St:=List (Option V)
abbrev VK:=V->Hp->Prop
abbrev TE:=St->Hp->VK->Prop
abbrev TT:=St->Hp->(Bool->Hp->Prop)->Prop
abbrev TA:=St->Hp->(List V->Hp->Prop)->Prop
structure UJ where
 nx:St->Hp->Prop
 rt:VK
 bk:St->Hp->Prop:=λ_ _=>False
 ct:St->Hp->Prop:=λ_ _=>False
abbrev TS:=UJ->St->Hp->Prop
def EP (X:Cx) (pins:List (Addr×Obj)) (σ:St) (Q:VK) (u:Value) (s':Shared):Prop:=∃v H',Inv X pins σ H' s'/\zW v u/\Q v H'
def TP (X:Cx) (pins:List (Addr×Obj)) (σ:St) (Q:Bool->Hp->Prop) (b:Bool) (s':Shared):Prop:=∃H',Inv X pins σ H' s'/\Q b H'
def AP (X:Cx) (pins:List (Addr×Obj)) (σ:St) (Q:List V->Hp->Prop) (us:List Value) (s':Shared):Prop:=∃vs H',Inv X pins σ H' s'/\zZ vs us/\Q vs H'
def SP (X:Cx) (pins:List (Addr×Obj)) (D:UJ) (f:Flow) (s':Shared):Prop:=
 match f with
 | .next=>∃σ' H',Inv X pins σ' H' s'/\D.nx σ' H'
 | .brk=>∃σ' H',Inv X pins σ' H' s'/\D.bk σ' H'
 | .cont=>∃σ' H',Inv X pins σ' H' s'/\D.ct σ' H'
 | .ret u=>∃v σ' H',Inv X pins σ' H' s'/\zW v u/\D.rt v H'
def PE (X:Cx) (e:Expr) (t:TE):Prop:=
 ∀(pins:List (Addr×Obj)) (s:Shared) (σ:St) (H:Hp) (Q:VK),Inv X pins σ H s->t σ H Q->wpAny (model X.prog X.w) X.A (eval e X.env) (EP X pins σ Q) X.xe s
def PT (X:Cx) (e:Expr) (t:TT):Prop:=
 ∀(pins:List (Addr×Obj)) (s:Shared) (σ:St) (H:Hp) (Q:Bool->Hp->Prop),Inv X pins σ H s->t σ H Q->wpAny (model X.prog X.w) X.A (isTrue e X.env (eval e X.env)) (TP X pins σ Q) X.xe s
def PW (X:Cx) (e:Expr) (t:TT):Prop:=
 ∀(whole:Sem Value) (pins:List (Addr×Obj)) (s:Shared) (σ:St) (H:Hp) (Q:Bool->Hp->Prop),Inv X pins σ H s->t σ H Q->wpAny (model X.prog X.w) X.A (isTrue e X.env whole) (TP X pins σ Q) X.xe s
theorem PW.pt {X:Cx} {e:Expr} {t:TT} (h:PW X e t):PT X e t:=h _
def PA (X:Cx) (es:List Expr) (t:TA):Prop:=
 ∀(pos:Pos) (pins:List (Addr×Obj)) (s:Shared) (σ:St) (H:Hp) (Q:List V->Hp->Prop),Inv X pins σ H s->t σ H Q->wpAny (model X.prog X.w) X.A (spliced (backTo pos (starEach es X.env))) (AP X pins σ Q) X.xe s
def PS (X:Cx) (st:Stmt) (t:TS):Prop:=
 ∀(pins:List (Addr×Obj)) (s:Shared) (σ:St) (H:Hp) (D:UJ),Inv X pins σ H s->t D σ H->wpAny (model X.prog X.w) X.A (exec st X.env) (SP X pins D) X.xe s
def PSs (X:Cx) (st:List Stmt) (t:TS):Prop:=
 ∀(pins:List (Addr×Obj)) (s:Shared) (σ:St) (H:Hp) (D:UJ),Inv X pins σ H s->t D σ H->wpAny (model X.prog X.w) X.A (execs st X.env) (SP X pins D) X.xe s
theorem thn {α:Type} {t:Sem α} {Q Q':α->Shared->Prop} {M:Model} {A:Around} {E:Value->Shared->Prop} {s:Shared} (h:wpAny M A t Q E s) (hQ:∀a s,Q a s->Q' a s):wpAny M A t Q' E s:=wpAny_mono h hQ λ_ _ x=>x
section
variable {X:Cx}
theorem bin {a b:Expr} {ta tb:TE} (ha:PE X a ta) (hb:PE X b tb) {pins:List (Addr×Obj)} {s:Shared} {σ:St} {H:Hp} {R:V->V->Hp->Prop} (I:Inv X pins σ H s) (h:ta σ H λx H1=>tb σ H1 λy H2=>R x y H2)
  {α:Type} {Q:α->Shared->Prop} {f:Value->Value->Sem α}
  (hf:∀v u s2 x y H2,Inv X pins σ H2 s2->zW x v->zW y u->R x y H2->wpAny (model X.prog X.w) X.A (f v u) Q X.xe s2):
  wpAny (model X.prog X.w) X.A (eval a X.env) (λv s₁=>wpAny (model X.prog X.w) X.A (eval b X.env) (λu s₂=>wpAny (model X.prog X.w) X.A (f v u) Q X.xe s₂) X.xe s₁) X.xe s:=by
 refine thn (ha pins s σ H _ I h) ?_;rintro v s1 ⟨x,H1,I1,r1,q1⟩;refine thn (hb pins s1 σ H1 _ I1 q1) ?_;rintro u s2 ⟨y,H2,I2,r2,q2⟩;exact hf v u s2 x y H2 I2 r1 r2 q2
def zlX (i:Nat):TE:=λσ H Q=>∃v,σ[i]? =f7 (f7 v)/\Q v H
def tC (v:V):TE:=λ_ H Q=>Q v H
theorem zjA {i:Nat} {x:Str} {pos:Pos} (hN:X.N[i]? =f7 x) (hv:Vis X.env.scope x) (hd:(x==("__debug__":Str))=kb:=by decide) (dS:(x==("__classdict__":Str))=kb:=by decide):PE X (.Name x pos) (zlX i):=by
 intro pins s σ H Q I h;obtain⟨v,e,h⟩:=h;obtain⟨m,hn,hl⟩:=I.loc;obtain⟨u,r,l⟩:=hl i x v hN e hv;have fin:EP X pins σ Q u s:=⟨v,H,I,r,h⟩;rcases l with⟨hk,hm⟩|⟨hk,c,hc,jA⟩
 .exact wpAny_Name (wpAny_loadName_local I.ok.kind hk hn hm fin) hd
 .rcases hk with hk|hk
  .exact wpAny_Name (wpAny_loadName_cell I.ok.kind hk hc jA fin) hd
  .exact wpAny_Name (wpAny_loadName_free I.ok.kind hk hc jA fin dS) hd
theorem zf {i j pos}:PE X (.Constant (.int i) j pos) (tC (.int i)):=λ_ _ _ H _ I h=>wpAny_Constant_int ⟨.int i,H,I.tok _,⟨_,rfl⟩,h⟩
theorem zaM {b j pos}:PE X (.Constant (.bool b) j pos) (tC (.bl b)):=λ_ _ _ H _ I h=>Constant_bool ⟨.bl b,H,I,rfl,h⟩
theorem zjB {j pos}:PE X (.Constant .none j pos) (tC .non):=λ_ _ _ H _ I h=>Constant_none ⟨.non,H,I,rfl,h⟩
theorem zy {x j pos}:PE X (.Constant (.str x) j pos) (tC (.str x)):=λ_ _ _ H _ I h=>Calls.Constant_str ⟨.str x,H,I.tok _,⟨_,rfl⟩,h⟩
def Gl (X:Cx) (x:Str):Prop:=X.env.kindOf x=f7 .globalImplicit
theorem Ui {E:Value->Shared->Prop} {pins:List (Addr×Obj)} {s:Shared} {σ:St} {H:Hp} {x:Str} {u:Value} {pos:Pos} {Q:Value->Shared->Prop} (I:Inv X pins σ H s) (hg:Gl X x) (hm:X.mg x=f7 u) (h:Q u s)
  (hd:(x==("__debug__":Str))=kb:=by decide):wpAny (model X.prog X.w) X.A (eval (.Name x pos) X.env) Q E s:=
 Calls.Name_function_global I.ok.kind hg (Calls.loadGlobal_global (by rw[I.ok.glob];exact I.mod.glob.keeps I.bk) hm h) hd
theorem Vj {E:Value->Shared->Prop} {pins:List (Addr×Obj)} {s:Shared} {σ:St} {H:Hp} {x:Str} {u:Value} {pos:Pos} {Q:Value->Shared->Prop} (I:Inv X pins σ H s) (hg:Gl X x) (hm:X.mg x=gC) (hv:bootBuiltins x=f7 u) (h:Q u s)
  (hn:x≠"__name__":=by decide) (hd:(x==("__debug__":Str))=kb:=by decide):wpAny (model X.prog X.w) X.A (eval (.Name x pos) X.env) Q E s:=by
 obtain⟨mb,h1,h2⟩:=I.mod.blt;exact Calls.Name_function_global I.ok.kind hg (Calls.loadGlobal_builtin (by rw[I.ok.glob];exact I.mod.glob.keeps I.bk) hm (by rw[I.ok.blt];exact h1.keeps I.bk) ((h2 x hn).trans hv) h) hd
theorem ZO {x:Str} {v:V} {u:Value} {pos:Pos} (hg:Gl X x) (hm:X.mg x=f7 u) (r:zW v u) (hd:(x==("__debug__":Str))=kb:=by decide):PE X (.Name x pos) (tC v):=
 λ_ _ _ H _ I h=>Ui I hg hm ⟨v,H,I,r,h⟩ hd
theorem wY {x:Str} {v:V} {u:Value} {pos:Pos} (hg:Gl X x) (hm:X.mg x=gC) (hv:bootBuiltins x=f7 u) (r:zW v u) (hn:x≠"__name__":=by decide) (hd:(x==("__debug__":Str))=kb:=by decide):PE X (.Name x pos) (tC v):=
 λ_ _ _ H _ I h=>Vj I hg hm hv ⟨v,H,I,r,h⟩ hn hd
def t2I (ta tb:TE) (k:Int->Int->Hp->Prop):St->Hp->Prop:=λσ H=>ta σ H λx H1=>tb σ H1 λy H2=>∃i j,x= .int i/\y= .int j/\k i j H2
variable {a b:Expr} {ta tb:TE} {pos:Pos}
def PC (X:Cx) (op:CmpOp) (a b:Expr) (t:TE):Prop:=
 ∀(pins:List (Addr×Obj)) (s:Shared) (σ:St) (H:Hp) (Q:VK),Inv X pins σ H s->t σ H Q->
  wpAny (model X.prog X.w) X.A (eval a X.env) (λv s₁=>wpAny (model X.prog X.w) X.A (eval b X.env) (λu s₂=>wpAny (model X.prog X.w) X.A (compareOp op v u) (EP X pins σ Q) X.xe s₂) X.xe s₁) X.xe s
theorem zeV (b:Expr) {op:CmpOp} (h:op≠ .In) (h2:op≠ .NotIn):behindInMarks op b=kb:=by
 have e1:(op==CmpOp.In)=kb:=by cases op<;>first|rfl|exact absurd rfl h
 have e2:(op==CmpOp.NotIn)=kb:=by cases op<;>first|rfl|exact absurd rfl h2
 cases b<;>simp[behindInMarks,e1,e2]
def zeW (p:Int->Int->Bool) (ta tb:TE):TE:=λσ H Q=>t2I ta tb (λi j H2=>Q (.bl (p i j)) H2) σ H
noncomputable abbrev tLt:TE->TE->TE:=zeW λi j=>decide (i<j)
noncomputable abbrev tLe:TE->TE->TE:=zeW λi j=>decide (i<=j)
noncomputable abbrev tGt:TE->TE->TE:=zeW λi j=>decide (j<i)
noncomputable abbrev tGe:TE->TE->TE:=zeW λi j=>decide (j<=i)
noncomputable abbrev zpx:TE->TE->TE:=zeW λi j=>decide (i=j)
noncomputable abbrev zpy:TE->TE->TE:=zeW λi j=> !decide (i=j)
theorem zbu {op:CmpOp} {p:Int->Int->Bool} (ha:PE X a ta) (hb:PE X b tb)
  (rule:∀(i j:Int) (t u:Tok) (Q:Value->Shared->Prop) (s:Shared),Q (.bool (p i j)) s->wpAny (model X.prog X.w) X.A (compareOp op (.int i t) (.int j u)) Q X.xe s):PC X op a b (zeW p ta tb):=by
 intro pins s σ H Q I h;refine bin ha hb I h λv u s2 x y H2 I2 rx ry q=> ?_;obtain⟨i,j,rfl,rfl,q⟩:=q;obtain⟨t,rfl⟩:=rx;obtain⟨t',rfl⟩:=ry;exact rule i j t t' _ s2 ⟨.bl _,H2,I2,rfl,q⟩
theorem zjC (ha:PE X a ta) (hb:PE X b tb):PC X .Lt a b (tLt ta tb):=zbu ha hb λ_ _ _ _ _ _ h=>lt_int h
theorem zjD (ha:PE X a ta) (hb:PE X b tb):PC X .Gt a b (tGt ta tb):=zbu ha hb λ_ _ _ _ _ _ h=>gt_int h
theorem zpz (ha:PE X a ta) (hb:PE X b tb):PC X .GtE a b (tGe ta tb):=zbu ha hb λ_ _ _ _ _ _ h=>ge_int h
theorem xJ (ha:PE X a ta) (hb:PE X b tb):PC X .Eq a b (zpx ta tb):=zbu ha hb λ_ _ _ _ _ _ h=>eq_int (by rw[Cw];exact h)
theorem zge (ha:PE X a ta) (hb:PE X b tb):PC X .NotEq a b (zpy ta tb):=zbu ha hb λ_ _ _ _ _ _ h=>ne_int (by rw[bne,Cw];exact h)
def zpA (ta:TE):TE:=λσ H Q=>ta σ H λx H1=>Q (.bl (decide (x= .non))) H1
theorem zW.none_iff {x:V} {v:Value} (r:zW x v):(v==Value.none)=decide (x= .non):=by
 cases x with
 |non=>cases r;rfl
 |bl _=>cases r;rfl
 |int _=>obtain⟨t,rfl⟩:=r;rfl
 |str _=>obtain⟨t,rfl⟩:=r;rfl
 |byt _=>obtain⟨t,rfl⟩:=r;rfl
 |flt _=>obtain⟨t,rfl⟩:=r;rfl
 |ref _=>cases r;rfl
 |ty _=>cases r;rfl
theorem zgf {j pos'} (ha:PE X a ta):PC X .Is a (.Constant .none j pos') (zpA ta):=by
 intro pins s σ H Q I h;refine thn (ha pins s σ H _ I h) ?_;rintro v s1 ⟨x,H1,I1,r1,q1⟩;exact Constant_none (is_none_gen ⟨.bl _,H1,I1,by rw[r1.none_iff];rfl,q1⟩)
def tB (t:TE):TT:=λσ H Q=>t σ H λx H1=>∃c,x= .bl c/\Q c H1
theorem zgg {op:CmpOp} {t:TE} (h:PC X op a b t) (h1:behindInMarks op b=kb:=by first|exact zeV _ ∅ ∅|rfl):PE X (.Compare a [op] [b] pos) t:=λpins s σ H Q I hw=>wpAny_Compare1 (h pins s σ H Q I hw) h1
theorem yv {op:CmpOp} {t:TE} (h:PC X op a b t) (h1:behindInMarks op b=kb:=by first|exact zeV _ ∅ ∅|rfl):PT X (.Compare a [op] [b] pos) (tB t):=by
 intro pins s σ H Q I hw;refine wpAny_isTrue_Compare1 (thn (h pins s σ H _ I hw) λv s1 h1=>thn h1 λu s2 h2=>thn h2 ?_) h1;rintro c s3 ⟨x,H1,I1,r1,q1⟩;obtain⟨d,rfl,q⟩:=q1;cases r1;exact wpAny_truthy_bool ⟨H1,I1,q⟩
theorem vw {e:Expr} {t:TE} (h:PE X e t) (he:∀whole,isTrue e X.env whole=(do let v <-whole;standAt e.pos;holding [v] (truthy v)):=by intro _;rfl):PT X e (tB t):=by
 intro pins s σ H Q I hw;refine isTrue_plain (thn (h pins s σ H _ I hw) ?_) (he _);rintro v s1 ⟨x,H1,I1,r1,q1⟩;obtain⟨d,rfl,q⟩:=q1;cases r1;exact wpAny_truthy_bool ⟨H1,I1,q⟩
variable {tA tB':TT} {rest:List Expr}
def zpB (t u:TT):TT:=λσ H Q=>t σ H λc H1=>if c=ia then u σ H1 Q else Q kb H1
def tOr (t u:TT):TT:=λσ H Q=>t σ H λc H1=>if c=ia then Q ia H1 else u σ H1 Q
def zpC (t:TT):TT:=λσ H Q=>t σ H λc H1=>Q (!c) H1
theorem zbd (ha:PT X a tA):PW X (.BoolOp .And [a] pos) tA:=by
 intro wh pins s σ H Q I h;refine isTrue_and (thn (ha pins s σ H Q I h) λc s1 e=> ?_);cases c with
 |true=>exact isTrue_and_nil e
 |false=>exact e
theorem zdL (ha:PT X a tA):PW X (.BoolOp .Or [a] pos) tA:=by
 intro wh pins s σ H Q I h;refine isTrue_or (thn (ha pins s σ H Q I h) λc s1 e=> ?_);cases c with
 |false=>exact isTrue_or_nil e
 |true=>exact e
theorem zdM (ha:PT X a tA) (hb:PW X (.BoolOp .And (b::rest) pos) tB'):PW X (.BoolOp .And (a::b::rest) pos) (zpB tA tB'):=by
 intro wh pins s σ H Q I h;refine isTrue_and (thn (ha pins s σ H _ I h) ?_);rintro c s1 ⟨H1,I1,q1⟩;cases c with
 |true=>exact hb wh pins s1 σ H1 Q I1 q1
 |false=>exact⟨H1,I1,q1⟩
theorem zhD (ha:PT X a tA) (hb:PW X (.BoolOp .Or (b::rest) pos) tB'):PW X (.BoolOp .Or (a::b::rest) pos) (tOr tA tB'):=by
 intro wh pins s σ H Q I h;refine isTrue_or (thn (ha pins s σ H _ I h) ?_);rintro c s1 ⟨H1,I1,q1⟩;cases c with
 |true=>exact⟨H1,I1,q1⟩
 |false=>exact hb wh pins s1 σ H1 Q I1 q1
theorem zar (ha:PT X a tA):PT X (.UnaryOp .Not a pos) (zpC tA):=by
 intro pins s σ H Q I h;exact isTrue_not (ha pins s σ H (λc H1=>Q (!c) H1) I h)
def znt (ta tb:TE):TE:=λσ H Q=>ta σ H λx H1=>∃c,x= .bl c/\if c=ia then tb σ H1 Q else Q (.bl kb) H1
def znu (ta:TE):TE:=λσ H Q=>ta σ H λx H1=>∃c,x= .bl c/\Q (.bl (!c)) H1
theorem zgh {op} {t:TE} (h:PE X a t):PE X (.BoolOp op [a] pos) t:=λpins s σ H Q I hw=>BoolOp_one (h pins s σ H Q I hw)
theorem zdN (ha:PE X a ta) (hb:PE X (.BoolOp .And (b::rest) pos) tb):PE X (.BoolOp .And (a::b::rest) pos) (znt ta tb):=by
 intro pins s σ H Q I h;refine BoolOp_and (thn (ha pins s σ H _ I h) ?_);rintro v s1 ⟨x,H1,I1,r1,q1⟩;obtain⟨c,rfl,q1⟩:=q1;cases r1;refine wpAny_truthy_bool ?_;cases c with
 |true=>exact hb pins s1 σ H1 Q I1 q1
 |false=>exact⟨.bl kb,H1,I1,rfl,q1⟩
theorem zgi (ha:PE X a ta):PE X (.UnaryOp .Not a pos) (znu ta):=by
 intro pins s σ H Q I h;refine UnaryOp_ (thn (ha pins s σ H _ I h) ?_);rintro v s1 ⟨x,H1,I1,r1,q1⟩;obtain⟨c,rfl,q1⟩:=q1;cases r1;exact not_of (wpAny_truthy_bool ⟨.bl (!c),H1,I1,rfl,q1⟩)
def tIf (t:TT) (ta tb:TE):TE:=λσ H Q=>t σ H λc H1=>if c=ia then ta σ H1 Q else tb σ H1 Q
theorem Vk {c:Expr} (hc:PT X c tA) (ha:PE X a ta) (hb:PE X b tb):PE X (.IfExp c a b pos) (tIf tA ta tb):=by
 intro pins s σ H Q I h;refine wpAny_IfExp (thn (hc pins s σ H _ I h) ?_);rintro d s1 ⟨H1,I1,q1⟩;cases d with
 |true=>exact ha pins s1 σ H1 Q I1 q1
 |false=>exact hb pins s1 σ H1 Q I1 q1
end
def SqL (K:u5) (H:Hp) (a:Addr) (xs:List V):Prop:=
 Rd H a (.lst xs)\/
  ∃(o:Obj) (ah:Array Value) (n:Nat),K.lookup a=f7 o/\o.cls= .type "list"/\o.dict=gC/\o.data= .seq ah n/\ah.size<=sizeLine/\zZ xs ah.toList
def SqT (K:u5) (H:Hp) (a:Addr) (xs:List V):Prop:=
 Rd H a (.tup xs)\/
  ∃(o:Obj) (ah:Array Value) (n:Nat),K.lookup a=f7 o/\o.cls= .type "tuple"/\o.data= .seq ah n/\ah.size<=sizeLine/\zZ xs ah.toList
def SqX (K:u5) (H:Hp) (a:Addr) (xs:List V):Prop:=
 Rd H a (.lst xs)\/∃(ah:Array Value) (n:Nat),K.lookup a=f7 {cls:= .type "list",data:= .seq ah n}/\ah.size<=sizeLine/\zZ xs ah.toList
theorem SqX.sql {K:u5} {H:Hp} {a:Addr} {xs:List V} (h:SqX K H a xs):SqL K H a xs:=by
 rcases h with h|⟨ah,n,hk,hz,r⟩
 .exact .inl h
 .exact .inr ⟨_,ah,n,hk,rfl,rfl,rfl,hz,r⟩
theorem SqX.of {K:u5} {H:Hp} {a:Addr} {xs:List V} (h:H a=f7 (.lst xs)):SqX K H a xs:= .inl (.inl h)
noncomputable def zqK:Value->Option V
 | .none=>f7 .non
 | .bool b=>f7 (.bl b)
 | .int i _=>f7 (.int i)
 | .str x _=>f7 (.str x)
 | .bytes b _=>f7 (.byt b)
 | .float b _=>f7 (.flt b)
 | .ref a=>f7 (.ref a)
 | .type n=>f7 (.ty n)
 |_=>gC
theorem zW.abs {x:V} {u:Value} (r:zW x u):zqK u=f7 x:=by
 cases x with
 |non=>cases r;rfl
 |bl _=>cases r;rfl
 |int _=>obtain⟨t,rfl⟩:=r;rfl
 |str _=>obtain⟨t,rfl⟩:=r;rfl
 |byt _=>obtain⟨t,rfl⟩:=r;rfl
 |flt _=>obtain⟨t,rfl⟩:=r;rfl
 |ref _=>cases r;rfl
 |ty _=>cases r;rfl
theorem zW.inj {x y:V} {u:Value} (r:zW x u) (q:zW y u):x=y:=uK (r.abs.symm.trans q.abs)
theorem zZ.inj {xs ys:List V} {us:List Value} (h:zZ xs us) (k:zZ ys us):xs=ys:=by
 induction h generalizing ys with
 |nil=>cases k;rfl
 |cons r _ ih=>
  cases k with
  |cons r' t'=>rw[r.inj r',ih t']
section
variable {X:Cx} {pins:List (Addr×Obj)} {σ:St} {H:Hp} {s:Shared} {a:Addr} {xs ys:List V}
theorem SqT.of {K:u5} (h:H a=f7 (.tup xs)):SqT K H a xs:= .inl (.inl h)
theorem Inv.list (I:Inv X pins σ H s) (h:SqL X.K H a xs):∃ah:List Value,zZ xs ah/\PlainL s.heap a ah.toArray/\xs.length<=sizeLine:=by
 rcases h with h|⟨o,ah,n,hk,hc,hd,hs,hz,r⟩
 .obtain⟨z,ah,n,r,e⟩:=h.ok I.hok;exact⟨ah,r,⟨_,n,e,rfl,rfl,rfl⟩,z⟩
 .refine⟨ah.toList,r,⟨o,n,I.kIn a o hk,hc,hd,by simpa using hs⟩,?_⟩;have e:=r.length;simp only[B9] at e;omega
theorem Inv.tuple (I:Inv X pins σ H s) (h:SqT X.K H a xs):∃ah:List Value,zZ xs ah/\IsTup s.heap a ah.toArray/\xs.length<=sizeLine:=by
 rcases h with h|⟨o,ah,n,hk,hc,hs,hz,r⟩
 .obtain⟨z,ah,r,p⟩:=h.ok I.hok;exact⟨ah,r,p.tup,z⟩
 .refine⟨ah.toList,r,⟨o,I.kIn a o hk,hc,n,by simpa using hs⟩,?_⟩;have e:=r.length;simp only[B9] at e;omega
theorem Inv.list_inj (I:Inv X pins σ H s) (h:SqL X.K H a xs) (h':SqL X.K H a ys):xs=ys:=by
 obtain⟨ah,r,⟨o,n,e,_,_,d⟩,_⟩:=I.list h;obtain⟨its',r',⟨o',n',e',_,_,d'⟩,_⟩:=I.list h';rw[e] at e';cases e';rw[d] at d';injection d' with d1 _
 have:ah=its':=by simpa using congrArg Dz d1
 subst this;exact r.inj r'
theorem Inv.tuple_inj (I:Inv X pins σ H s) (h:SqT X.K H a xs) (h':SqT X.K H a ys):xs=ys:=by
 obtain⟨ah,r,⟨o,e,_,n,d⟩,_⟩:=I.tuple h;obtain⟨its',r',⟨o',e',_,n',d'⟩,_⟩:=I.tuple h';rw[e] at e';cases e';rw[d] at d';injection d' with d1 _
 have:ah=its':=by simpa using congrArg Dz d1
 subst this;exact r.inj r'
end
noncomputable abbrev Cx.wish (X:Cx) (E:Value->Shared->Prop):Cx:={X with xe:=E}
noncomputable abbrev Cx.nox (X:Cx):Cx:=X.wish λ_ _=>False
theorem Cx.Ok.wish {X:Cx} (ok:X.Ok) (E:Value->Shared->Prop):(X.wish E).Ok:=
 ⟨ok.mod,ok.kind,ok.glob,ok.blt,ok.above,ok.inj,ok.has,ok.cab,ok.hd,ok.frames,ok.stk,ok.exf,ok.bs,ok.bsz,ok.noex,ok.exfs,ok.funs,ok.frf⟩
theorem Cx.Ok.unwish {X:Cx} {E:Value->Shared->Prop} (ok:(X.wish E).Ok):X.Ok:=
 ⟨ok.mod,ok.kind,ok.glob,ok.blt,ok.above,ok.inj,ok.has,ok.cab,ok.hd,ok.frames,ok.stk,ok.exf,ok.bs,ok.bsz,ok.noex,ok.exfs,ok.funs,ok.frf⟩
section
variable {X:Cx} {pins:List (Addr×Obj)} {σ:St} {H:Hp} {s:Shared} {E:Value->Shared->Prop}
theorem Inv.wish (I:Inv X pins σ H s) (E:Value->Shared->Prop):Inv (X.wish E) pins σ H s:=⟨I.ok.wish E,I.os,I.bare,I.base,I.loc,I.cell,I.free,I.freeC,I.pin,I.hok,I.len⟩
theorem Inv.unwish (I:Inv (X.wish E) pins σ H s):Inv X pins σ H s:=⟨I.ok.unwish,I.os,I.bare,I.base,I.loc,I.cell,I.free,I.freeC,I.pin,I.hok,I.len⟩
end
section
variable {X:Cx} {st:Stmt} {rest:List Stmt} {t u:TS} {e:Expr} {te:TE} {pos:Pos}
def znv:TS:=λD σ H=>D.nx σ H
def zn1 (t u:TS):TS:=λD σ H=>t {D with nx:=u D} σ H
theorem zt:PSs X [] znv:=λ_ _ σ H _ I h=>wpAny_execs_nil ⟨σ,H,I,h⟩
theorem zjE (h1:PS X st t) (h2:PSs X rest u):PSs X (st::rest) (zn1 t u):=by
 intro pins s σ H D I h;refine wpAny_execs_cons (thn (h1 pins s σ H {D with nx:=u D} I h) λf s1 q=> ?_);cases f with
 |next=>
  obtain⟨σ',H',I',q⟩:=q;exact h2 pins s1 σ' H' D I' q
 |ret v=>exact q
 |brk=>exact q
 |cont=>exact q
theorem zlY (h1:PS X st t):PSs X [st] t:=by
 intro pins s σ H D I h;refine wpAny_execs_cons (thn (h1 pins s σ H D I h) λf s1 q=> ?_);cases f with
 |next=>exact wpAny_execs_nil q
 |ret v=>exact q
 |brk=>exact q
 |cont=>exact q
theorem Inv.quiet {pins:List (Addr×Obj)} {σ:St} {H:Hp} {s:Shared} (I:Inv X pins σ H s):interactive X.env=kb:=by simp[interactive,I.ok.kind]
def znw (te:TE):TS:=λD σ H=>te σ H λ_ H1=>D.nx σ H1
theorem Td (he:PE X e te) (hs:swapsWith e gC pos.line X.env=pure kb:=by rfl):PS X (.Expr e pos) (znw te):=by
 intro pins s σ H D I h;refine wpAny_Expr_any (thn (he pins s σ H _ I h) ?_) I.quiet hs;rintro v s1 ⟨x,H1,I1,r1,q1⟩;exact⟨σ,H1,I1,q1⟩
def zpD (te:TE):TS:=λD σ H=>te σ H D.rt
theorem zn2 (he:PE X e te):PS X (.Return (f7 e) pos) (zpD te):=by
 intro pins s σ H D I h;refine wpAny_Return_some (thn (he pins s σ H _ I h) ?_);rintro v s1 ⟨x,H1,I1,r1,q1⟩;exact⟨x,σ,H1,I1,r1,q1⟩
def zpE (c:TT) (t u:TS):TS:=λD σ H=>c σ H λb H1=>if b=ia then t D σ H1 else u D σ H1
theorem zU {c:Expr} {a b:List Stmt} {tc:TT} (hc:PT X c tc) (ha:PSs X a t) (hb:PSs X b u):PS X (.If c a b pos) (zpE tc t u):=by
 intro pins s σ H D I h;refine wpAny_If (thn (hc pins s σ H _ I h) ?_);rintro d s1 ⟨H1,I1,q1⟩;cases d with
 |true=>exact ha pins s1 σ H1 D I1 q1
 |false=>exact hb pins s1 σ H1 D I1 q1
end
abbrev TG:=V->St->Hp->(St->Hp->Prop)->Prop
abbrev TGs:=List V->St->Hp->(St->Hp->Prop)->Prop
def PG (X:Cx) (target:Expr) (t:TG):Prop:=
 ∀(pins:List (Addr×Obj)) (s:Shared) (σ:St) (H:Hp) (v:V) (u:Value) (Q:St->Hp->Prop),Inv X pins σ H s->zW v u->t v σ H Q->
  wpAny (model X.prog X.w) X.A (assign target X.env u) (λ_ s'=>∃σ' H',Inv X pins σ' H' s'/\Q σ' H') X.xe s
abbrev zn3:=V->V->V->Hp->(Hp->Prop)->Prop
def zpF (X:Cx) (t:zn3):Prop:=
 ∀(pins:List (Addr×Obj)) (s:Shared) (σ:St) (H:Hp) (o i v:V) (ov iv u:Value) (Q:Hp->Prop),Inv X pins σ H s->zW o ov->zW i iv->zW v u->t o i v H Q->
  wpAny (model X.prog X.w) X.A (setItem ov iv u) (λ_ s'=>∃H',Inv X pins σ H' s'/\Q H') X.xe s
abbrev TIp:=V->V->Hp->VK->Prop
section
variable {X:Cx} {pos:Pos}
def zhE (i:Nat):TG:=λv σ H Q=>Q (σ.set i (f7 v)) H
theorem zP {i:Nat} {x:Str} (hN:X.N.Nodup) (hi:X.N[i]? =f7 x) (hx:Loc X.env.scope x) (hf:X.fn x=ia\/X.env.scope.names.lookup x=f7 .local:=by first|exact .inl rfl|exact .inr rfl|assumption):PG X (.Name x pos) (zhE i):=by
 intro pins s σ H v u Q I r h;exact wpAny_assign_Name (zbt I hN hi hx r (λs' I'=>⟨_,H,I',h⟩) hf)
def zpG (to ti:TE) (t:zn3):TG:=λv σ H Q=>to σ H λo H1=>ti σ H1 λi H2=>t o i v H2 λH3=>Q σ H3
theorem zgj {o i:Expr} {to ti:TE} {t:zn3} (ho:PE X o to) (hi:PE X i ti) (hs:zpF X t)
  (ha:∀v,assign (.Subscript o i pos) X.env v=(do
   let ov <-holding [v] (eval o X.env)
   let iv <-holding [v,ov] (eval i X.env)
   standAt pos
   holding [v,ov,iv] (setItem ov iv v)
   release [v,ov,iv] []):=by intro _;rfl):PG X (.Subscript o i pos) (zpG to ti t):=by
 intro pins s σ H v u Q I r h;rw[ha];refine wpAny_bind (wpAny_holding (thn (ho pins s σ H _ I h) ?_));rintro ov s1 ⟨x,H1,I1,r1,q1⟩;refine wpAny_bind (wpAny_holding (thn (hi pins s1 σ H1 _ I1 q1) ?_));rintro iv s2 ⟨y,H2,I2,r2,q2⟩;refine wpAny_bind (wpAny_standAt (wpAny_bind (wpAny_holding (thn (hs pins s2 σ H2 x y v ov iv u _ I2 r1 r2 r q2) ?_))));rintro _ s3 ⟨H3,I3,q3⟩;exact wpAny_release ⟨σ,H3,I3,q3⟩
def zn4 (te:TE) (g:TG):TS:=λD σ H=>te σ H λx H1=>g x σ H1 D.nx
theorem zgk {tg e:Expr} {te:TE} {g:TG} (he:PE X e te) (hg:PG X tg g) (hs:swapsWithSole [tg] e pos.line X.env=pure kb:=by rfl) (hw:swappedStores [tg] e X.env=pure gC:=by rfl)
  (h1:(assignEach [tg] X.env).map (·.2)=[assign tg X.env]:=by rfl):PS X (.Assign [tg] e pos) (zn4 te g):=by
 intro pins s σ H D I h;refine wpAny_Assign_stores (thn (he pins s σ H _ I h) ?_) hs hw;rintro v s1 ⟨x,H1,I1,r1,q1⟩;rw[h1];exact thn (hg pins s1 σ H1 x v _ I1 r1 q1) λ_ s2 q=>q
theorem zn5 {i:Nat} {x:Str} {e:Expr} {te:TE} {pos':Pos} (hN:X.N.Nodup) (hi:X.N[i]? =f7 x) (hx:Loc X.env.scope x) (he:PE X e te) (hs:swapsWith e (f7 (.Name x pos')) pos.line X.env=pure kb:=by rfl) (hf:X.fn x=ia\/X.env.scope.names.lookup x=f7 .local:=by first|exact .inl rfl|exact .inr rfl|assumption):
  PS X (.Assign [.Name x pos'] e pos) (zn4 te (zhE i)):=by
 intro pins s σ H D I h;refine wpAny_Assign_Name (thn (he pins s σ H _ I h) ?_) hs;rintro v s1 ⟨y,H1,I1,r1,q1⟩;exact zbt I1 hN hi hx r1 (λs2 I2=>⟨_,H1,I2,q1⟩) hf
def zjF (c:TT) (tb:TS):TS:=λD σ H=>∃W:Nat->St->Hp->Prop,(∃m,W m σ H)/\∀m σ H,W m σ H->
 c σ H λb H1=>if b=ia then ∃N:St->Hp->Prop,(∀σ' H',N σ' H'->∃m',m'<m/\W m' σ' H')/\tb {D with nx:=N,ct:=N,bk:=D.nx} σ H1 else D.nx σ H1
theorem zeX {c:Expr} {body:List Stmt} {tc:TT} {tb:TS} (hp:PassesOwn (model X.prog X.w) X.A X.env X.xe) (hc:PT X c tc) (hb:PSs X body tb):PS X (.While c body [] pos) (zjF tc tb):=by
 intro pins s σ H D I h;obtain⟨W,⟨m0,w0⟩,turn⟩:=h;refine wpAny_While (codeAny_whileLoop (λn s'=>∃σ' H',Inv X pins σ' H' s'/\W n σ' H') ?_ m0 ⟨σ,H,I,w0⟩);rintro n s1 ⟨σ1,H1,I1,w1⟩;refine wpAny_passesOwn hp (thn (hc pins s1 σ1 H1 _ I1 (turn n σ1 H1 w1)) ?_);rintro b s2 ⟨H2,I2,q2⟩;cases b with
 |true=>
  obtain⟨N,hN,q2⟩:=q2;rw[if_pos rfl];refine wpAny_passesOwn hp (thn (hb pins s2 σ1 H2 _ I2 q2) λf s3 q3=> ?_);cases f with
  |next=>
   obtain⟨σ3,H3,I3,n3⟩:=q3;obtain⟨m',hm,w3⟩:=hN σ3 H3 n3;exact⟨m',hm,σ3,H3,I3,w3⟩
  |cont=>
   obtain⟨σ3,H3,I3,n3⟩:=q3;obtain⟨m',hm,w3⟩:=hN σ3 H3 n3;exact⟨m',hm,σ3,H3,I3,w3⟩
  |brk=>exact q3
  |ret v=>exact q3
 |false=>
  rw[if_neg uS];exact wpAny_execs_nil ⟨σ1,H2,I2,q2⟩
end
structure It where
 go:Nat->Hp->Prop
 yld:Nat->Hp->V->Hp->Prop
 stop:Nat->Hp->Prop
def zeY (X:Cx) (pins:List (Addr×Obj)) (H:Hp) (b:Addr):Prop:=
 H b=gC/\b≠X.env.locals/\b∉X.fs/\(b∈X.ex\/X.s₀.heap.objs.size<=b)/\(∀x c,X.env.cells.lookup x=f7 c->c≠b)/\∀p∈X.pn++pins,p.1≠b
theorem Inv.fpOk {X:Cx} {pins:List (Addr×Obj)} {σ:St} {H H':Hp} {s:Shared} {b:Addr} (I:Inv X pins σ H s) (hb:s.heap.objs.size<=b) (hn:H' b=gC):zeY X pins H' b:=by
 refine⟨hn,Nat.ne_of_gt (uB I.lt hb),I.nofs hb,.inr (uC I.sz hb),λx c e z=> ?_,λp hp z=> ?_⟩
 .obtain⟨v,q⟩:=I.cell x c e;exact absurd (uB q.lt (by rw[z];exact hb)) (Ao _)
 .exact absurd (uB (Heap.lt_size (I.pin p hp).1) (by rw[z];exact hb)) (Ao _)
structure ziB (P:Program) (w:World) (K:u5) (tg:Expr) (J:It) (fp:List Addr) (it:Addr) (tn:Nat->Heap->Prop):Prop where
 mem:it∈fp
 obj:∀i h,tn i h->∀b∈fp,∃o,h.get? b=f7 o/\∀v,o.data≠ .cell v
 keep:∀i h h',tn i h->(∀b∈fp,∀o,h.get? b=f7 o->h'.get? b=f7 o)->tn i h'
 item:∀(X:Cx),X.prog=P->X.w=w->X.K=K->X.calm=ia->∀(i:Nat) (pins:List (Addr×Obj)) (s:Shared) (σ:St) (H:Hp) (E:Value->Shared->Prop),Inv X pins σ H s->(∀b∈fp,zeY X pins H b)->tn i s.heap->J.go i H->
  wpAny (model P w) X.A (pyNext (.ref it)) (λr s1=>∃u,r=f7 u/\
   wpAny (model P w) X.A (letOwnedTupleGo tg (.ref it) u) (λ_ s2=>∃x H',Inv X pins σ H' s2/\zW x u/\J.yld i H x H'/\tn (i+1) s2.heap/\∀b∈fp,H' b=gC) E s1) E s
 done:∀(X:Cx),X.prog=P->X.w=w->X.K=K->X.calm=ia->∀(i:Nat) (pins:List (Addr×Obj)) (s:Shared) (σ:St) (H:Hp) (E:Value->Shared->Prop),Inv X pins σ H s->(∀b∈fp,zeY X pins H b)->tn i s.heap->J.stop i H->
  wpAny (model P w) X.A (pyNext (.ref it)) (λr s1=>r=gC/\Inv X pins σ H s1) E s
 self:∀(A:Around) (i:Nat) (s:Shared) (Q:Value->Shared->Prop) (E:Value->Shared->Prop),tn i s.heap->Q (.ref it) s->wpAny (model P w) A (pyIter (.ref it)) Q E s
abbrev TI:=St->Hp->(It->Hp->Prop)->Prop
def PIE (X:Cx) (pins:List (Addr×Obj)) (σ:St) (tg:Expr) (R:It->Hp->Prop) (mX:Value) (s2:Shared):Prop:=
 ∃(it:Addr) (fp:List Addr) (tn:Nat->Heap->Prop) (J:It) (H':Hp),mX= .ref it/\Inv X pins σ H' s2/\ziB X.prog X.w X.K tg J fp it tn/\tn 0 s2.heap/\(∀b∈fp,zeY X pins H' b)/\R J H'
def PI (X:Cx) (tg iter:Expr) (wi:TI):Prop:=
 ∀(pins:List (Addr×Obj)) (s:Shared) (σ:St) (H:Hp) (R:It->Hp->Prop),Inv X pins σ H s->wi σ H R->
  wpAny (model X.prog X.w) X.A (eval iter X.env) (λv s1=>wpAny (model X.prog X.w) X.A (pyIter v) (PIE X pins σ tg R) X.xe s1) X.xe s
theorem zeZ {M:Model} {A:Around} {E:Value->Shared->Prop} {s:Shared} {tg:Expr} {it:Addr} {u:Value} {o:Obj} {n:String} {vs:Array Value} {Q:Unit->Shared->Prop} (ho:s.heap.get? it=f7 o) (hc:o.cls= .type n) (hd:o.data= .fields vs)
    (hn:["enumerate","zip","dict_itemiterator","dict_reverseitemiterator","odict_iterator","itertools.zip_longest","itertools.pairwise"].contains n=kb) (hQ:Q () s):wpAny M A (letOwnedTupleGo tg (.ref it) u) Q E s:=by
  unfold letOwnedTupleGo;cases tg<;>first
    |exact wpAny_pure hQ
    | (cases u <;> first
        |exact wpAny_pure hQ
        | (refine wpAny_bind (wpAny_load ho ?_)
           rw[hc,hd];show wpAny M A (if (["enumerate","zip","dict_itemiterator","dict_reverseitemiterator","odict_iterator","itertools.zip_longest","itertools.pairwise"].contains n&&vs[0]? ==f7 (rawInt _))=ia then _ else _) Q E s;rw[if_neg (by intro h;rw[hn,Bool.false_and] at h;cases h)]
           exact wpAny_pure hQ))
noncomputable def Itl (K:u5) (a:Addr):It:=
 ⟨λi H=>∃xs x,SqL K H a xs/\xs[i]? =f7 x,λi H x H'=>H'=H/\∀xs,SqL K H a xs->xs[i]? =f7 x,λi H=>∃xs,SqL K H a xs/\xs.length<=i⟩
noncomputable def Itt (K:u5) (a:Addr):It:=
 ⟨λi H=>∃xs x,SqT K H a xs/\xs[i]? =f7 x,λi H x H'=>H'=H/\∀xs,SqT K H a xs->xs[i]? =f7 x,λi H=>∃xs,SqT K H a xs/\xs.length<=i⟩
noncomputable def Itr (lo:Int) (n:Nat):It:=⟨λi _=>i<n,λi H x H'=>H'=H/\x= .int (lo+i),λi _=>n<=i⟩
theorem ziC {P:Program} {w:World} {K:u5} {tg:Expr} (a it:Addr):ziB P w K tg (Itl K a) [it] it (λi h=>h.IsListIter it a i) where
 mem:=by simp
 obj:=λi h st b hb=>by
  have e:b=it:=by simpa using hb
  subst e;obtain⟨o,e,c,d⟩:=st;exact⟨o,e,λv z=>by rw[d] at z;cases z⟩
 keep:=λi h h' st k=>st.at λo e=>k it (by simp) o e
 item:=by
  intro X hP hw hK hc i pins s σ H E I hf st hg;subst hP hw hK;obtain⟨xs,x,hq,hx⟩:=hg;obtain⟨ah,rv,p,hz⟩:=I.list hq;obtain⟨u,hu,ru⟩:=rv.get hx;obtain⟨f0,f1,f2,f3,f4,f5⟩:=hf it (by simp);refine wpAny_pyNext_list_item st p.isList (x:=u) (by simpa using hu) λh' st' sb=> ?_;have I1:Inv X pins σ H {s with heap:=h'}:=I.turned (t':=s.toks) (λb o hb e=>(sb.2 b hb).trans e) f0 f1 f3 f4 f5;obtain⟨o,e,c,d⟩:=id st';exact⟨u,rfl,zeZ (s:={s with heap:=h'}) e c d ∅ ⟨x,H,I1,ru,⟨rfl,λys hy=>by rw[I.list_inj hy hq];exact hx⟩,st',λb hb=>(hf b hb).1⟩⟩
 done:=by
  intro X hP hw hK hc i pins s σ H E I hf st hg;subst hP hw hK;obtain⟨xs,hq,hx⟩:=hg;obtain⟨ah,rv,p,hz⟩:=I.list hq;obtain⟨f0,f1,f2,f3,f4,f5⟩:=hf it (by simp);have hl:=rv.length;exact wpAny_pyNext_list_end (I.ok.hd hc) st p.isList (by simp;omega) λh' eb=>⟨rfl,I.turned (t':=s.toks) (λb o hb e=>eb b o hb e) f0 f1 f3 f4 f5⟩
 self:=λ_ _ _ _ _ st h=>wpAny_pyIter_listiter st h
theorem zgl {P:Program} {w:World} {K:u5} {tg:Expr} (a it:Addr):ziB P w K tg (Itt K a) [it] it (λi h=>h.IsTupleIter it a i) where
 mem:=by simp
 obj:=λi h st b hb=>by
  have e:b=it:=by simpa using hb
  subst e;obtain⟨o,e,c,d⟩:=st;exact⟨o,e,λv z=>by rw[d] at z;cases z⟩
 keep:=λi h h' st k=>st.at λo e=>k it (by simp) o e
 item:=by
  intro X hP hw hK hc i pins s σ H E I hf st hg;subst hP hw hK;obtain⟨xs,x,hq,hx⟩:=hg;obtain⟨ah,rv,p,hz⟩:=I.tuple hq;obtain⟨u,hu,ru⟩:=rv.get hx;obtain⟨f0,f1,f2,f3,f4,f5⟩:=hf it (by simp);refine wpAny_pyNext_tuple_item st (show s.heap.IsTuple a ah.toArray from p) (x:=u) (by simpa using hu) λh' st' sb=> ?_;have I1:Inv X pins σ H {s with heap:=h'}:=I.turned (t':=s.toks) (λb o hb e=>(sb.2 b hb).trans e) f0 f1 f3 f4 f5;obtain⟨o,e,c,d⟩:=id st';exact⟨u,rfl,zeZ (s:={s with heap:=h'}) e c d ∅ ⟨x,H,I1,ru,⟨rfl,λys hy=>by rw[I.tuple_inj hy hq];exact hx⟩,st',λb hb=>(hf b hb).1⟩⟩
 done:=by
  intro X hP hw hK hc i pins s σ H E I hf st hg;subst hP hw hK;obtain⟨xs,hq,hx⟩:=hg;obtain⟨ah,rv,p,hz⟩:=I.tuple hq;obtain⟨f0,f1,f2,f3,f4,f5⟩:=hf it (by simp);have hl:=rv.length;exact wpAny_pyNext_tuple_end (I.ok.hd hc) st (show s.heap.IsTuple a ah.toArray from p) (by simp;omega) λh' eb=>⟨rfl,I.turned (t':=s.toks) (λb o hb e=>eb b o hb e) f0 f1 f3 f4 f5⟩
 self:=λ_ _ _ _ _ st h=>wpAny_pyIter_tupleiter st h
theorem zgm {P:Program} {w:World} {K:u5} {tg:Expr} (it:Addr) (lo:Int) (n:Nat):ziB P w K tg (Itr lo n) [it] it (λi h=>IsRangeIter h it (lo+(i:Nat)*1) ((n:Int)-(i:Nat)) 1) where
 mem:=by simp
 obj:=λi h st b hb=>by
  have e:b=it:=by simpa using hb
  subst e
  exact⟨_,st,λv z=>by
   have z':Data.fields _=Data.cell v:=z
   cases z'⟩
 keep:=λi h h' st k=>k it (by simp) _ st
 item:=by
  intro X hP hw hK hc i pins s σ H E I hf st hg;subst hP hw hK;obtain⟨f0,f1,f2,f3,f4,f5⟩:=hf it (by simp);have W:=Walks.range (prog:=X.prog) (w:=X.w) (I.ok.hd hc) it lo 1 n;refine W.item i s _ _ hg st λv h' tk hv st' kk=> ?_;obtain⟨t,rfl⟩:=hv;have I1:Inv X pins σ H {s with heap:=h',toks:=tk}:=I.turned (λb o hb e=>kk b o (by simpa using hb) e) f0 f1 f3 f4 f5;refine⟨_,rfl,zeZ (s:={s with heap:=h',toks:=tk}) (n:="range_iterator") st' rfl rfl ∅ ⟨.int (lo+i),H,I1,⟨t,?_⟩,⟨rfl,rfl⟩,st',λb hb=>(hf b hb).1⟩⟩;rw[Dc]
 done:=by
  intro X hP hw hK hc i pins s σ H E I hf st hg;subst hP hw hK;obtain⟨f0,f1,f2,f3,f4,f5⟩:=hf it (by simp);exact wpAny_pyNext_range_end (I.ok.hd hc) st (by have:n<=i:=hg;omega) λh' eb=>⟨rfl,I.turned (t':=s.toks) (λb o hb e=>eb b o hb e) f0 f1 f3 f4 f5⟩
 self:=λ_ _ _ _ _ st h=>wpAny_pyIter_rangeiter st h
section
variable {X:Cx} {tg:Expr}
def zjG (K:u5) (tl:TE):TI:=λσ H R=>tl σ H λx H1=>∃a,x= .ref a/\(∃xs,SqL K H1 a xs)/\R (Itl K a) H1
def zn6 (K:u5) (tl:TE):TI:=λσ H R=>tl σ H λx H1=>∃a,x= .ref a/\(∃xs,SqT K H1 a xs)/\R (Itt K a) H1
theorem zlZ {l:Expr} {tl:TE} (hl:PE X l tl):PI X tg l (zjG X.K tl):=by
 intro pins s σ H R I h;refine thn (hl pins s σ H _ I h) ?_;rintro v s1 ⟨x,H1,I1,r1,q1⟩;obtain⟨a,e,⟨xs,hq⟩,q⟩:=q1;subst e;cases r1;obtain⟨ah,rv,p,hz⟩:=I1.list hq;refine wpAny_pyIter_list p.isList ?_;refine⟨s1.heap.objs.size,[s1.heap.objs.size],_,_,H1,rfl,I1.kept (t':=s1.toks) λb o e=>Heap.get?_push_of_some _ e,ziC a _,⟨_,Heap.get?_push_size _ rfl,rfl,rfl⟩,λb hb=> ?_,q⟩;have e:b=s1.heap.objs.size:=by simpa using hb
 subst e;exact I1.fpOk (ug _) (I1.hok.fresh (ug _))
theorem zn7 {l:Expr} {tl:TE} (hl:PE X l tl):PI X tg l (zn6 X.K tl):=by
 intro pins s σ H R I h;refine thn (hl pins s σ H _ I h) ?_;rintro v s1 ⟨x,H1,I1,r1,q1⟩;obtain⟨a,e,⟨xs,hq⟩,q⟩:=q1;subst e;cases r1;obtain⟨ah,rv,p,hz⟩:=I1.tuple hq;refine wpAny_pyIter_tuple (show s1.heap.IsTuple a ah.toArray from p) ?_;refine⟨s1.heap.objs.size,[s1.heap.objs.size],_,_,H1,rfl,I1.kept (t':=s1.toks) λb o e=>Heap.get?_push_of_some _ e,zgl a _,⟨_,Heap.get?_push_size _ rfl,rfl,rfl⟩,λb hb=> ?_,q⟩;have e:b=s1.heap.objs.size:=by simpa using hb
 subst e;exact I1.fpOk (ug _) (I1.hok.fresh (ug _))
theorem zjH {pins:List (Addr×Obj)} {σ:St} {H:Hp} {s:Shared} {R:It->Hp->Prop} {E:Value->Shared->Prop} {lo hi:Int} {t u v:Tok} {tk:Nat} (I:Inv X pins σ H s) (h1: -(2^62)<=lo) (h2:lo<2^62) (h3: -(2^62)<=hi) (h4:hi<2^62)
  (q:R (Itr lo (hi-lo).toNat) H):wpAny (model X.prog X.w) X.A (pyIter (.ref s.heap.objs.size)) (PIE X pins σ tg R) E {s with heap:=s.heap.push {cls:= .type "range",data:= .fields #[.int lo t,.int hi u,.int 1 v]},toks:=tk}:=by
 refine wpAny_pyIter_range (IsRange.new ..) (small_one h1 h2 h3 h4) ?_;have I1:Inv X pins σ H {s with heap:=s.heap.push {cls:= .type "range",data:= .fields #[.int lo t,.int hi u,.int 1 v]},toks:=tk}:=I.kept λb o e=>Heap.get?_push_of_some _ e
 refine⟨(s.heap.push {cls:= .type "range",data:= .fields #[.int lo t,.int hi u,.int 1 v]}).objs.size,[(s.heap.push {cls:= .type "range",data:= .fields #[.int lo t,.int hi u,.int 1 v]}).objs.size],_,_,H,rfl,
  I1.kept (t':=tk) λb o e=>Heap.get?_push_of_some _ e,zgm _ lo (hi-lo).toNat,?_,λb hb=> ?_,q⟩
 .have e1:lo+((0:Nat):Int)*1=lo:=by simp
  have e2:(((hi-lo).toNat:Nat):Int)-((0:Nat):Int)=Builtin.Range.rangeSize lo hi 1:=by rw[rangeSize_one];split<;>omega
  show IsRangeIter _ _ (lo+((0:Nat):Int)*1) ((((hi-lo).toNat:Nat):Int)-((0:Nat):Int)) 1;rw[e1,e2];exact Heap.get?_push_size _ rfl
 .have e:b=(s.heap.push {cls:= .type "range",data:= .fields #[.int lo t,.int hi u,.int 1 v]}).objs.size:=by simpa using hb
  subst e;exact I1.fpOk (ug _) (I1.hok.fresh (ug _))
def znx (ta:TA):TI:=λσ H R=>ta σ H λvs H1=>∃j:Int,vs=[.int j]/\ -(2^62)<=j/\j<2^62/\R (Itr 0 j.toNat) H1
theorem yu {a:Expr} {ta:TA} {p pos:Pos} (hg:Gl X "range") (hm:X.mg "range"=gC) (ha:PA X [a] ta) (hs:starEach [a] X.env=[(kb,eval a X.env)]:=by rfl):PI X tg (.Call (.Name "range" p) [a] [] pos) (znx ta):=by
 intro pins s σ H R I h;refine Call_ (Vj I hg hm boot_range (z8 (thn (ha pos pins s σ H _ I h) ?_) hs rfl));rintro us s1 ⟨vs,H1,I1,r1,q1⟩;obtain⟨j,e,q1,q2,q⟩:=q1;subst e;cases r1 with
 |cons r rr=>
  cases rr;obtain⟨t,rfl⟩:=r;exact call_range_1 (zjH I1 ⋯ ⋯ q1 q2 (by simpa using q))
def zpH (wi:TI) (g:TG) (tb:TS):TS:=λD σ H=>wi σ H λJ H1=>∃W:Nat->Nat->St->Hp->Prop,(∃m,W 0 m σ H1)/\∀i m σ H,W i m σ H->
 (J.stop i H/\D.nx σ H)\/(J.go i H/\∃N:St->Hp->Prop,(∀σ' H',N σ' H'->∃m',m'<m/\W (i+1) m' σ' H')/\∀x H',J.yld i H x H'->g x σ H' λσ2 H2=>tb {D with nx:=N,ct:=N,bk:=D.nx} σ2 H2)
noncomputable def zbv (fp:List Addr) (h:Heap):List (Addr×Obj):=fp.filterMap λb=>(h.get? b).map λo=>(b,o)
theorem Wg {fp:List Addr} {h:Heap} {b:Addr} {o:Obj} (hb:b∈fp) (e:h.get? b=f7 o):(b,o)∈zbv fp h:=BO.mpr ⟨b,hb,by rw[e];rfl⟩
theorem ziD {fp:List Addr} {h:Heap} {p:Addr×Obj} (hp:p∈zbv fp h):p.1∈fp/\h.get? p.1=f7 p.2:=by
 obtain⟨b,hb,e⟩:=BO.mp hp;cases q:h.get? b with
 |none=>rw[q] at e;cases e
 |some o=>
  rw[q] at e;have e':(b,o)=p:=uK e;subst e';exact⟨hb,q⟩
theorem Inv.pinned {pins:List (Addr×Obj)} {σ:St} {H:Hp} {s:Shared} {fp:List Addr} (I:Inv X pins σ H s) (hf:∀b∈fp,zeY X pins H b) (ho:∀b∈fp,∃o,s.heap.get? b=f7 o/\∀v,o.data≠ .cell v):Inv X (pins++zbv fp s.heap) σ H s:=
 I.pins_of λp hp=>(AH.mp hp).elim (λz=>I.pin p (x9 _ z)) λz=>by
  obtain⟨hb,e⟩:=ziD z;obtain⟨f0,f1,f2,_⟩:=hf p.1 hb;obtain⟨o,e',d⟩:=ho p.1 hb;rw[e] at e';cases e';exact⟨e,f0,f1,f2,d⟩
theorem Inv.unpinned {pins pl:List (Addr×Obj)} {σ:St} {H:Hp} {s:Shared} (I:Inv X (pins++pl) σ H s):Inv X pins σ H s:=I.pins_of λp hp=>I.pin p (x9 _ (CD _ hp))
theorem wR {iter:Expr} {body:List Stmt} {wi:TI} {g:TG} {tb:TS} {pos:Pos} (hp:PassesOwn (model X.prog X.w) X.A X.env X.xe) (hc:X.calm=ia) (hi:PI X tg iter wi) (hg:PG X tg g) (hb:PSs X body tb)
  (hs:∀x,foldedSetIterable iter X.env x=pure x:=by intro _;rfl):PS X (.For tg iter body [] pos) (zpH wi g tb):=by
 intro pins s σ H D I h;refine wpAny_For (thn (hi pins s σ H _ I h) λv s1 h1=>thn h1 λmX s2 h2=> ?_) hs;obtain⟨it,fp,tn,J,H2,e,I2,T,kD,f2,W,⟨m0,w0⟩,turn⟩:=h2;subst e;have stat:∀{H':Hp},(∀b∈fp,H' b=gC)->∀b∈fp,zeY X pins H' b:=λhn b hb=>⟨hn b hb,(f2 b hb).2⟩;refine codeAny_forLoop_any (λn s'=>∃i σ' H',Inv X pins σ' H' s'/\tn i s'.heap/\(∀b∈fp,H' b=gC)/\W i n σ' H') ?_ m0 ⟨0,σ,H2,I2,kD,λb hb=>(f2 b hb).1,w0⟩;rintro n s3 ⟨i,σ3,H3,I3,kC,lB,w3⟩;rcases turn i n σ3 H3 w3 with⟨stop,qn⟩|⟨go,N,hN,step⟩
 .refine wpAny_passesOwn hp (thn (T.done X rfl rfl rfl hc i pins s3 σ3 H3 X.xe I3 (stat lB) kC stop) λr s4 ⟨hr,I4⟩=> ?_);subst hr;exact wpAny_execs_nil ⟨σ3,H3,I4,qn⟩
 .refine wpAny_passesOwn hp (thn (T.item X rfl rfl rfl hc i pins s3 σ3 H3 X.xe I3 (stat lB) kC go) λr s4 ⟨u,hr,h4⟩=> ?_);subst hr;refine wpAny_passesOwn hp (thn h4 ?_);rintro _ s5 ⟨x,H5,I5,r5,y5,jE,oG⟩;have I5':=I5.pinned (stat oG) (T.obj _ _ jE);refine wpAny_passesOwn hp (thn (hg _ s5 σ3 H5 x u _ I5' r5 (step x H5 y5)) ?_);rintro _ s6 ⟨σ6,H6,I6,q6⟩;refine wpAny_passesOwn hp (thn (hb _ s6 σ6 H6 _ I6 q6) λf s7 q7=> ?_);have again:∀{σ7:St} {H7:Hp},Inv X (pins++zbv fp s5.heap) σ7 H7 s7->N σ7 H7->∃m,m<n/\∃i σ' H',Inv X pins σ' H' s7/\tn i s7.heap/\(∀b∈fp,H' b=gC)/\W i m σ' H':=λ{σ7 H7} I7 n7=>by
   obtain⟨m',hm,w7⟩:=hN σ7 H7 n7;refine⟨m',hm,i+1,σ7,H7,I7.unpinned,T.keep _ _ _ jE λb hb o e=>(I7.pin (b,o) (x9 _ (x9 _ (Wg hb e)))).1,λb hb=> ?_,w7⟩;obtain⟨o,e,d⟩:=T.obj _ _ jE b hb;exact (I7.pin (b,o) (x9 _ (x9 _ (Wg hb e)))).2.1
  cases f with
  |next=>obtain⟨σ7,H7,I7,n7⟩:=q7;exact again I7 n7
  |cont=>obtain⟨σ7,H7,I7,n7⟩:=q7;exact again I7 n7
  |brk=>obtain⟨σ7,H7,I7,q7⟩:=q7;exact⟨σ7,H7,I7.unpinned,q7⟩
  |ret v=>obtain⟨x7,σ7,H7,I7,r7,q7⟩:=q7;exact⟨x7,σ7,H7,I7.unpinned,r7,q7⟩
end
abbrev R2:=V->V->Hp->VK->Prop
def OpR (X:Cx) (f:Value->Value->Sem Value) (r:R2):Prop:=
 ∀(pins:List (Addr×Obj)) (s:Shared) (σ:St) (H:Hp) (x y:V) (v u:Value) (Q:VK),Inv X pins σ H s->zW x v->zW y u->r x y H Q->
  wpAny (model X.prog X.w) X.A (f v u) (EP X pins σ Q) X.xe s
def UnR (X:Cx) (f:Value->Sem Value) (r:V->Hp->VK->Prop):Prop:=
 ∀(pins:List (Addr×Obj)) (s:Shared) (σ:St) (H:Hp) (x:V) (v:Value) (Q:VK),Inv X pins σ H s->zW x v->r x H Q->
  wpAny (model X.prog X.w) X.A (f v) (EP X pins σ Q) X.xe s
def vx (X:Cx) (f:Value) (r:List V->Hp->VK->Prop):Prop:=
 ∀(pins:List (Addr×Obj)) (s:Shared) (σ:St) (H:Hp) (xs:List V) (us:List Value) (Q:VK),Inv X pins σ H s->zZ xs us->r xs H Q->
  wpAny (model X.prog X.w) X.A (call f us) (EP X pins σ Q) X.xe s
def tOp (r:R2) (ta tb:TE):TE:=λσ H Q=>ta σ H λx H1=>tb σ H1 λy H2=>r x y H2 Q
def tUn (r:V->Hp->VK->Prop) (ta:TE):TE:=λσ H Q=>ta σ H λx H1=>r x H1 Q
def rI (C:Int->Int->Prop) (g:Int->Int->V):R2:=λx y H Q=>∃i j,x= .int i/\y= .int j/\C i j/\Q (g i j) H
def rI0 (g:Int->Int->V):R2:=λx y H Q=>∃i j,x= .int i/\y= .int j/\Q (g i j) H
def rU (g:Int->V):V->Hp->VK->Prop:=λx H Q=>∃i,x= .int i/\Q (g i) H
section
variable {X:Cx} {a b c:Expr} {ta tb tc:TE} {pos:Pos}
theorem zn8 (ha:PE X a ta) (hb:PE X b tb) {pins:List (Addr×Obj)} {s:Shared} {σ:St} {H:Hp} {R:V->V->Hp->Prop} (I:Inv X pins σ H s)
  (h:ta σ H λx H1=>tb σ H1 λy H2=>R x y H2) {Q:Value->Shared->Prop} {f:Value->Value->Sem Value}
  (hf:∀v u s2 x y H2,Inv X pins σ H2 s2->zW x v->zW y u->R x y H2->wpAny (model X.prog X.w) X.A (f v u) Q X.xe s2):
  wpAny (model X.prog X.w) X.A (eval a X.env) (λv s₁=>wpAny (model X.prog X.w) X.A (eval b X.env) (λu s₂=>wpAny (model X.prog X.w) X.A (f v u) Q X.xe s₂) X.xe s₁) X.xe s:=by
 refine thn (ha pins s σ H _ I h) ?_;rintro v s1 ⟨x,H1,I1,r1,q1⟩;refine thn (hb pins s1 σ H1 _ I1 q1) ?_;rintro u s2 ⟨y,H2,I2,r2,q2⟩;exact hf v u s2 x y H2 I2 r1 r2 q2
theorem zX {op:Operator} {r:R2} (ho:OpR X (binaryOp op) r) (ha:PE X a ta) (hb:PE X b tb):PE X (.BinOp a op b pos) (tOp r ta tb):=by
 intro pins s σ H Q I h;exact wpAny_BinOp (zn8 ha hb I h λv u s2 x y H2 I2 rx ry q=>ho pins s2 σ H2 x y v u Q I2 rx ry q)
theorem zjI {op:UnaryOp} {r:V->Hp->VK->Prop} (ho:UnR X (unaryOp op) r) (ha:PE X a ta):PE X (.UnaryOp op a pos) (tUn r ta):=by
 intro pins s σ H Q I h;refine UnaryOp_ (thn (ha pins s σ H _ I h) ?_);rintro v s1 ⟨x,H1,I1,r1,q1⟩;exact ho pins s1 σ H1 x v Q I1 r1 q1
theorem opI {f:Value->Value->Sem Value} {C:Int->Int->Prop} {g:Int->Int->Int}
  (rule:∀(i j:Int) (t u:Tok) (s:Shared) (Q:Value->Shared->Prop) (E:Value->Shared->Prop),C i j->Q (.int (g i j) s.toks) {s with toks:=s.toks+1}->wpAny (model X.prog X.w) X.A (f (.int i t) (.int j u)) Q E s):
  OpR X f (rI C λi j=> .int (g i j)):=by
 intro pins s σ H x y v u Q I rx ry h;obtain⟨i,j,rfl,rfl,hc,q⟩:=h;obtain⟨t,rfl⟩:=rx;obtain⟨t',rfl⟩:=ry;exact rule i j t t' s _ _ hc ⟨.int (g i j),H,I.tok _,⟨_,rfl⟩,q⟩
theorem zpI {f:Value->Value->Sem Value} {g:Int->Int->Int}
  (rule:∀(i j:Int) (t u:Tok) (s:Shared) (Q:Value->Shared->Prop) (E:Value->Shared->Prop),Q (.int (g i j) s.toks) {s with toks:=s.toks+1}->wpAny (model X.prog X.w) X.A (f (.int i t) (.int j u)) Q E s):
  OpR X f (rI0 λi j=> .int (g i j)):=by
 intro pins s σ H x y v u Q I rx ry h;obtain⟨i,j,rfl,rfl,q⟩:=h;obtain⟨t,rfl⟩:=rx;obtain⟨t',rfl⟩:=ry;exact rule i j t t' s _ _ ⟨.int (g i j),H,I.tok _,⟨_,rfl⟩,q⟩
def zn9 (i j:Int):Prop:=0<j/\j<1073741824
def zoa (i j:Int):Prop:=0<=j/\j<=1000000/\i.natAbs<2^64
def zjJ (i j:Int):Prop:=(-(2^64)<i/\i<2^64)\/(-(2^64)<j/\j<2^64)
theorem zjJ.ok {i j:Int} (h:zjJ i j):IntMulOk i j:=by
 rcases h with⟨h1,h2⟩|⟨h1,h2⟩
 .exact .of_left (intBits_le_64 h1 h2)
 .exact .of_right (intBits_le_64 h1 h2)
theorem wB:OpR X (binaryOp .Add) (rI0 λi j=> .int (i+j)):=zpI λ_ _ _ _ _ _ _ q=>add_int q
theorem zgn:OpR X (binaryOp .Sub) (rI0 λi j=> .int (i-j)):=zpI λ_ _ _ _ _ _ _ q=>sub_int q
theorem zob:OpR X (binaryOp .Mult) (rI zjJ λi j=> .int (i*j)):=opI λ_ _ _ _ _ _ _ hc q=>mul_int q hc.ok
theorem zdO:OpR X (binaryOp .FloorDiv) (rI zn9 λi j=> .int (i / j)):=opI λi j _ _ _ _ _ hc q=>by
 have h1:(0:Int)<j:=hc.1;have h2:j<1073741824:=hc.2;exact floordiv_int ⋯ (by rw[Av i ⋯];exact q) (.inl (Cq ⋯))
theorem Yd:OpR X (binaryOp .Mod) (rI (λ_ j=>0<j) λi j=> .int (i % j)):=opI λi j _ _ _ _ _ hc q=>by
 have h1:(0:Int)<j:=hc;exact mod_int' ⋯ (by rw[Int.fmod_eq_emod_of_nonneg i ⋯];exact q)
theorem zgo:OpR X (binaryOp .Pow) (rI zoa λi j=> .int (i^j.toNat)):=opI λ_ _ _ _ _ _ _ hc q=>pow_int_small hc.1 hc.2.1 hc.2.2 q
theorem unI {f:Value->Sem Value} {g:Int->Int}
  (rule:∀(i:Int) (t:Tok) (s:Shared) (Q:Value->Shared->Prop) (E:Value->Shared->Prop),Q (.int (g i) s.toks) {s with toks:=s.toks+1}->wpAny (model X.prog X.w) X.A (f (.int i t)) Q E s):
  UnR X f (rU λi=> .int (g i)):=by
 intro pins s σ H x v Q I rx h;obtain⟨i,rfl,q⟩:=h;obtain⟨t,rfl⟩:=rx;exact rule i t s _ _ ⟨.int (g i),H,I.tok _,⟨_,rfl⟩,q⟩
theorem zgp:UnR X (unaryOp .USub) (rU λi=> .int (-i)):=unI λ_ _ _ _ _ q=>neg_int q
end
noncomputable def zqL:V->V->Bool
 | .non,.non=>ia| .non,.int _=>ia| .int _,.non=>ia| .non,.bl _=>ia| .bl _,.non=>ia| .non,.str _=>ia| .str _,.non=>ia
 | .int _,.int _=>ia| .bl _,.bl _=>ia| .str _,.str _=>ia| .byt _,.byt _=>ia
 | .int _,.str _=>ia| .str _,.int _=>ia| .bl _,.str _=>ia| .str _,.bl _=>ia
 |_,_=>kb
def rEq:R2:=λx y H Q=>zqL x y=ia/\Q (.bl (decide (x=y))) H
theorem zl0 {i j:Int}:decide (V.int i=V.int j)=(i==j):=by
 rw[z7];simp
theorem zoc {i j:Bool}:decide (V.bl i=V.bl j)=(i==j):=by
 rw[z7];simp
theorem zl1 {i j:Str}:decide (V.str i=V.str j)=(i==j):=by
 rw[z7];simp
theorem zl2 {i j:Array UInt8}:decide (V.byt i=V.byt j)=(i.toList==j.toList):=by
 rw[z7];cases i;cases j;simp
section
variable {X:Cx} {a b c:Expr} {ta tb tc:TE} {pos:Pos}
theorem vh {pins:List (Addr×Obj)} {σ:St} {H:Hp} {s:Shared} {Q:VK} {k k':Bool} (I:Inv X pins σ H s) (q:Q (.bl k) H) (e:k=k'):EP X pins σ Q (.bool k') s:=by
 subst e;exact⟨.bl k,H,I,rfl,q⟩
theorem xg:OpR X (compareOp .Eq) rEq:=by
 intro pins s σ H x y v u Q I rx ry h;obtain⟨hs,q⟩:=h;cases x with
 |non=>
  cases rx;cases y with
  |non=>cases ry;exact PySem.EqNone.eq_none_none (vh I q (by simp))
  |bl j=>cases ry;exact PySem.EqNone.eq_none_bool (vh I q (by simp))
  |int j=>obtain⟨t',rfl⟩:=ry;exact PySem.EqNone.eq_none_int (vh I q (by simp))
  |str j=>obtain⟨t',rfl⟩:=ry;exact PySem.EqNone.eq_none_str (vh I q (by simp))
  |_=>exact absurd (show kb=ia from hs) uS
 |bl i=>
  cases rx;cases y with
  |non=>cases ry;exact PySem.EqNone.eq_bool_none (vh I q (by simp))
  |bl j=>cases ry;exact eq_bool (vh I q zoc)
  |str j=>obtain⟨t',rfl⟩:=ry;exact Dx (vh I q (by simp))
  |_=>exact absurd (show kb=ia from hs) uS
 |int i=>
  obtain⟨t,rfl⟩:=rx;cases y with
  |non=>cases ry;exact PySem.EqNone.eq_int_none (vh I q (by simp))
  |int j=>obtain⟨t',rfl⟩:=ry;exact eq_int (vh I q zl0)
  |str j=>obtain⟨t',rfl⟩:=ry;exact DA (vh I q (by simp))
  |_=>exact absurd (show kb=ia from hs) uS
 |str i=>
  obtain⟨t,rfl⟩:=rx;cases y with
  |non=>cases ry;exact PySem.EqNone.eq_str_none (vh I q (by simp))
  |bl j=>cases ry;exact Dy (vh I q (by simp))
  |int j=>obtain⟨t',rfl⟩:=ry;exact DB (vh I q (by simp))
  |str j=>obtain⟨t',rfl⟩:=ry;exact eq_str (vh I q zl1)
  |_=>exact absurd (show kb=ia from hs) uS
 |byt i=>
  obtain⟨t,rfl⟩:=rx;cases y with
  |byt j=>obtain⟨t',rfl⟩:=ry;exact PySem.W.eq_bytes (vh I q zl2)
  |_=>exact absurd (show kb=ia from hs) uS
 |_=>cases y<;>exact absurd (show kb=ia from hs) uS
theorem Wi {op:CmpOp} {r:R2} (ho:OpR X (compareOp op) r) (ha:PE X a ta) (hb:PE X b tb) (hm:behindInMarks op b=kb):PE X (.Compare a [op] [b] pos) (tOp r ta tb):=by
 intro pins s σ H Q I h;exact wpAny_Compare1 (zn8 ha hb I h λv u s2 x y H2 I2 rx ry q=>ho pins s2 σ H2 x y v u Q I2 rx ry q) hm
def zny (t:TE):TT:=λσ H Q=>t σ H λx H'=>∃k,x= .bl k/\Q k H'
theorem yn {op:CmpOp} {r:R2} (ho:OpR X (compareOp op) r) (ha:PE X a ta) (hb:PE X b tb) (hm:behindInMarks op b=kb):PT X (.Compare a [op] [b] pos) (zny (tOp r ta tb)):=by
 intro pins s σ H Q I h
 refine wpAny_isTrue_Compare1 (thn (ha pins s σ H _ I h) λv s1 ⟨x,H1,I1,r1,q1⟩=>thn (hb pins s1 σ H1 _ I1 q1) λu s2 ⟨y,H2,I2,r2,q2⟩=>
  thn (ho pins s2 σ H2 x y v u _ I2 r1 r2 q2) λc s3 ⟨z,H3,I3,r3,k,e,q3⟩=> ?_) hm
 subst e;cases r3;exact wpAny_truthy_bool ⟨H3,I3,q3⟩
theorem Vl:(sizeLine:Nat)<2^63:=by rw[sizeLine_eq];decide
theorem UK:OpR X (binaryOp .Add) (λx y H Q=>∃i j,x= .str i/\y= .str j/\i.length+j.length<=sizeLine/\Q (.str (i++j)) H):=by
 intro pins s σ H x y v u Q I rx ry h;obtain⟨i,j,rfl,rfl,hz,q⟩:=h;obtain⟨t,rfl⟩:=rx;obtain⟨t',rfl⟩:=ry;exact add_str (λt' tk=>⟨.str (i++j),H,I.tok _,⟨_,rfl⟩,q⟩) hz
theorem Vm {x:V} {us:List Value} (r:zZ [x] us):∃u,us=[u]/\zW x u:=by
 cases r with
 |cons r1 r2=>cases r2;exact⟨_,rfl,r1⟩
theorem zhF {x y:V} {us:List Value} (r:zZ [x,y] us):∃u w',us=[u,w']/\zW x u/\zW y w':=by
 cases r with
 |cons r1 r2=>
  cases r2 with
  |cons r3 r4=>cases r4;exact⟨_,_,rfl,r1,r3⟩
theorem ze0:vx X (.builtin "abs") (λxs H Q=>∃i,xs=[.int i]/\Q (.int (if i<0 then -i else i)) H):=by
 intro pins s σ H xs us Q I r h;obtain⟨i,rfl,q⟩:=h;obtain⟨u,rfl,t,rfl⟩:=Vm r;exact call_abs_int λu tk=>⟨.int (if i<0 then -i else i),H,I.tok _,⟨_,rfl⟩,q⟩
theorem ziE (hc:X.calm=ia):vx X (.builtin "max") (λxs H Q=>∃i j,xs=[.int i,.int j]/\Q (.int (if j>i then j else i)) H):=by
 intro pins s σ H xs us Q I r h;obtain⟨i,j,rfl,q⟩:=h;obtain⟨u,w',rfl,⟨t,rfl⟩,⟨t',rfl⟩⟩:=zhF r;refine max_two_ints (I.ok.hd hc) λh' tk k=>⟨_,H,I.kept k,?_,q⟩;by_cases hj:j>i
 .rw[if_pos hj,if_pos hj];exact⟨_,rfl⟩
 .rw[if_neg hj,if_neg hj];exact⟨_,rfl⟩
theorem ziF (hc:X.calm=ia):vx X (.builtin "min") (λxs H Q=>∃i j,xs=[.int i,.int j]/\Q (.int (if j<i then j else i)) H):=by
 intro pins s σ H xs us Q I r h;obtain⟨i,j,rfl,q⟩:=h;obtain⟨u,w',rfl,⟨t,rfl⟩,⟨t',rfl⟩⟩:=zhF r;refine min_two_ints (I.ok.hd hc) λh' tk k=>⟨_,H,I.kept k,?_,q⟩;by_cases hj:j<i
 .rw[if_pos hj,if_pos hj];exact⟨_,rfl⟩
 .rw[if_neg hj,if_neg hj];exact⟨_,rfl⟩
theorem zcY:vx X (.type "int") (λxs H Q=>(∃i,xs=[.int i]/\Q (.int i) H)\/∃k,xs=[.bl k]/\Q (.int (if k then 1 else 0)) H):=by
 intro pins s σ H xs us Q I r h;rcases h with⟨i,rfl,q⟩|⟨k,rfl,q⟩
 .obtain⟨u,rfl,t,rfl⟩:=Vm r;exact call_int_int ⟨.int i,H,I,⟨_,rfl⟩,q⟩
 .obtain⟨u,rfl,r1⟩:=Vm r;cases r1;exact call_int_bool ⟨.int (if k then 1 else 0),H,I.tok _,⟨_,rfl⟩,q⟩
end
structure zgq (h:Heap) (x dx C:Addr) (mA:Str->Option Value):Prop where
 obj:h.get? x=f7 (Ak C dx)
 ns:h.Ns1 dx mA
 ne:dx≠x
theorem ziG {h:Heap} {dx:Addr} {mA:Str->Option Value} (n:h.Ns1 dx mA):∃od,h.get? dx=f7 od/\∀name,BK name od=f7 (mA name):=by
 obtain⟨o,es,ep,ho,hd,hk,_,hm⟩:=n;refine⟨o,ho,λname=> ?_⟩;have e:=hm name;unfold nsFind findBy at e;rw[<-Array.find?_toList] at e;unfold BK;rw[hd];dsimp only;split
 .rename_i y q;rw[q] at e;exact congrArg f7 e
 .rename_i q;rw[q] at e;have a:es.toList.any (·.refKey)=kb:=by
   rw[D2];intro y hy;obtain⟨z,t,nZ⟩:=hk y (Array.mem_toList_iff.mp hy);simp[DictEntry.refKey,nZ]
  have a':¬es.toList.any (·.refKey)=ia:=by rw[a];exact uS
  rw[if_neg a'];exact congrArg f7 e
theorem zgq.look {h:Heap} {x dx C:Addr} {mA:Str->Option Value} (I:zgq h x dx C mA):∃od,BL h x (Ak C dx) C (f7 od)/\∀name,BK name od=f7 (mA name):=
 let ⟨od,ho,hl⟩:=ziG I.ns
 ⟨od,⟨I.obj,rfl,rfl,ho⟩,hl⟩
section
variable {prog:Program} {w:World} {A:Around} {E:Value->Shared->Prop} {s:Shared} {K:u5} {x dx C f:Addr} {mA:Str->Option Value} {name:Str} {v:Value}
theorem zl3 {expr:Bool} {Q:Value->Shared->Prop} (X:K.In s.heap) (I:zgq s.heap x dx C mA) (hg:AY K C name=ia) (hh:Bm K C=ia)
  (ha:uk K (.ref C) name=f7 gC) (hv:mA name=f7 v) (qY:De v=ia) (h:Q v {s with toks:=s.toks+1}):
  wpAny (model prog w) A (getAttr (.ref x) name expr) Q E s:=by
 obtain⟨od,J,hl⟩:=I.look;exact PySem.W.get_value X J (BF hg).1 (PySem.W.findObj_own hh ha rfl (by rw[hl,hv])) qY h
theorem zjK {pl:Sem Bool} {Q:Value×List Value->Shared->Prop} (X:K.In s.heap) (I:zgq s.heap x dx C mA) (hg:AY K C name=ia)
  (hf:uk K (.ref C) name=f7 (f7 (.ref f))) (ht:By K (.ref f)=ia) (hv:mA name=gC) (h:Q (.ref f,[.ref x]) s):
  wpAny (model prog w) A (getMethod (.ref x) name pl) Q E s:=by
 obtain⟨od,J,hl⟩:=I.look;exact PySem.W.method_fn X J (BF hg).1 (BF hg).2 hf (beq_iff_eq.mp ht) (by show (BK name od).map (·.isSome)=f7 kb;rw[hl,hv];rfl) h
theorem zl4 {ns:List Str} {Q:Unit->Shared->Prop} (X:K.In s.heap) (I:zgq s.heap x dx C mA)
  (hs:uk K (.ref C) "__setattr__"=f7 (f7 (.builtin "object.__setattr__"))) (hp:BU K C=ia) (ht:Cd K C name=f7 gC) (hh:Bm K C=ia)
  (hw:CU mA ns) (hsz:ns.length<=sizeLine)
  (h:∀h',zgq h' x dx C (λy=>if y=name then f7 v else mA y)->Heap.SameBut dx s.heap h'->Q () {s with heap:=h',toks:=s.toks+2}):
  wpAny (model prog w) A (setAttr (.ref x) name v) Q E s:=by
 obtain⟨od,J,hl⟩:=I.look;refine PySem.W.set_plain X J hs (PySem.W.osa_open (s:={s with toks:=s.toks+1}) (r:=gC) X J hp ht λb=> ?_);obtain⟨cd,hc,ky⟩:=PySem.W.any_some hh;have hx:s.heap.get? x=f7 ⟨.ref C,f7 dx,.plain,#[]⟩:=I.obj;refine wpAny_bind (wpAny_pure (wpAny_bind (wpAny_bind (wpAny_loadPart hx (wpAny_bind (DF (s:={s with toks:=s.toks+1}) (PySem.W.looks_clsIn X hc) ?_))))));rw[ky];refine wpAny_pure (a:=f7 dx) (wpAny_bind (wpAny_pure (wpAny_bind ?_)));refine wpAny_nsSet1 (s:={s with toks:=s.toks+1}) I.ns λh' fq jN=> ?_;obtain⟨oD,tU,tW,rA,sk,su⟩:=fq.count (PySem.Within.cons name v hw);refine wpAny_bind (wpAny_lookBehind rA (by rw[sk];exact pastItsLine_dict (uC su (by rw[ux];omega))) ?_);exact wpAny_pure (h _ ⟨(jN.2 _ (A8 I.ne)).trans I.obj,fq,I.ne⟩ jN)
theorem zjL {R:Result->Shared->Prop} {vs:List Value} {kw:List (Str×Value)} (X:K.In s.heap) (hm:Cg K C=ia)
  (hi:uk K (.ref C) "__init__"=f7 (f7 (.ref f))) (hf:uR K (.ref f)=f7 (.type "function"))
  (h:codeAny (model prog w) (A.under (.builtin "type.__call__" ⟨.ref C::vs,kw⟩)) (.call (.ref f) ⟨.ref (s.heap.objs.size+1)::vs,kw⟩) (PySem.W.InitBack (s.heap.objs.size+1) R)
   {s with heap:=(s.heap.push A3).push (Ak C s.heap.objs.size)}):
  codeAny (model prog w) A (.call (.ref C) ⟨vs,kw⟩) R s:=by
 obtain⟨hh,g,d,t,os⟩:=s;exact PySem.W.make_core (PySem.W.makes_of X hm) (Bz X hi) (λself=>PySem.W.bind_fn X self hf) (.inl rfl) h
end
noncomputable def Wj (f:Str) (v:V):List (Str×V)->List (Str×V)
 |[]=>[(f,v)]
 |(g,x)::r=>if g=f then (g,v)::r else (g,x)::Wj f v r
theorem zaN (f g:Str) (v:V):∀fs:List (Str×V),(Wj f v fs).lookup g=if g=f then f7 v else fs.lookup g
 |[]=>by
  show Ar g [(f,v)]=_;by_cases h:g=f
  .have hb:(g==f)=ia:=beq_iff_eq.mpr h;simp only[Ar,hb,if_pos h]
  .have hb:(g==f)=kb:=beq_eq_false_iff_ne.mpr h;simp only[Ar,hb,if_neg h]
 |(k,x)::r=>by
  have ih:=zaN f g v r;rw[show Wj f v ((k,x)::r)=(if k=f then (k,v)::r else (k,x)::Wj f v r) from rfl];by_cases hk:k=f
  .rw[if_pos hk];by_cases h:g=k
   .have hb:(g==k)=ia:=beq_iff_eq.mpr h;simp only[Ar,hb,if_pos (h.trans hk)]
   .have hb:(g==k)=kb:=beq_eq_false_iff_ne.mpr h;simp only[Ar,hb,if_neg (λe:g=f=>h (e.trans hk.symm))]
  .rw[if_neg hk];by_cases h:g=k
   .have hb:(g==k)=ia:=beq_iff_eq.mpr h;simp only[Ar,hb,if_neg (λe:g=f=>hk (h.symm.trans e))]
   .have hb:(g==k)=kb:=beq_eq_false_iff_ne.mpr h;simp only[Ar,hb];exact ih
theorem zas (f:Str) (v:V):∀fs:List (Str×V),f∈(Wj f v fs).map (·.1)/\∀g,g∈fs.map (·.1)->g∈(Wj f v fs).map (·.1)
 |[]=>⟨by simp[Wj],λg h=>by simp at h⟩
 |(k,x)::r=>by
  obtain⟨i1,i2⟩:=zas f v r;rw[show Wj f v ((k,x)::r)=(if k=f then (k,v)::r else (k,x)::Wj f v r) from rfl];by_cases hk:k=f
  .rw[if_pos hk];subst hk;exact⟨by simp,λg h=>by simpa using h⟩
  .rw[if_neg hk];refine⟨?_,λg h=> ?_⟩
   .rw[uE];exact uj _ i1
   .rw[uE] at h ⊢;rcases uy.mp h with e|e
    .exact uy.mpr (.inl e)
    .exact uj _ (i2 g e)
theorem zaO (f:Str) (v:V):∀fs:List (Str×V),(Wj f v fs).length<=fs.length+1
 |[]=>by simp[Wj]
 |(k,x)::r=>by
  have ih:=zaO f v r;rw[show Wj f v ((k,x)::r)=(if k=f then (k,v)::r else (k,x)::Wj f v r) from rfl];by_cases hk:k=f
  .rw[if_pos hk,ux,ux];omega
  .rw[if_neg hk,ux,ux];omega
theorem Wf.some_of {v:V} {o:Option Value} (r:Wf (f7 v) o):∃u,o=f7 u/\zW v u:=by
 cases o with
 |none=>exact (show False from r).elim
 |some u=>exact⟨u,rfl,r⟩
theorem Wf.none_of {o:Option Value} (r:Wf gC o):o=gC:=by
 cases o with
 |none=>rfl
 |some u=>exact (show False from r).elim
theorem ziH {v:V} {u:Value} (r:zW v u):De u=ia:=by
 cases v with
 |non=>cases (show u=Value.none from r);rfl
 |bl b=>cases (show u=Value.bool b from r);rfl
 |int i=>obtain⟨t,e⟩:=(show ∃t,u=Value.int i t from r);cases e;rfl
 |str x=>obtain⟨t,e⟩:=(show ∃t,u=Value.str x t from r);cases e;rfl
 |byt b=>obtain⟨t,e⟩:=(show ∃t,u=Value.bytes b t from r);cases e;rfl
 |flt b=>obtain⟨t,e⟩:=(show ∃t,u=Value.float b t from r);cases e;rfl
 |ref a=>cases (show u=Value.ref a from r);rfl
 |ty n=>cases (show u=Value.type n from r);rfl
section
variable {P:Program} {w:World} {H H':Hp} {h h':Heap} {a C dx:Addr} {fs fs':List (Str×V)}
theorem zbe (hok:HOk P w H h) (e:H a=f7 (.ins C dx fs)):∃mA,zgq h a dx C mA/\(∀f,Wf (fs.lookup f) (mA f))/\CU mA (fs.map (·.1))/\fs.length<=1000/\H dx=f7 (.own a):=by
 obtain⟨d,z,ne,ob,mA,n,r,q⟩:=(show yN P w H h a (.ins C dx fs) from hok a _ e);exact⟨mA,⟨ob,n,ne⟩,r,q,z,d⟩
end
structure Cls (K:u5) (C:Addr):Prop where
 pg:AY K C Str.empty=ia
 hd:Bm K C=ia
 po:BU K C=ia
 sa:uk K (.ref C) "__setattr__"=f7 (f7 (.builtin "object.__setattr__"))
theorem Cls.get {K:u5} {C:Addr} (c:Cls K C) (f:Str):AY K C f=ia:=c.pg
def Ye (K:u5) (C:Addr) (f:Str):Prop:=uk K (.ref C) f=f7 gC
theorem Ye.taker {K:u5} {C:Addr} {f:Str} (n:Ye K C f):Cd K C f=f7 gC:=by
 unfold Cd;rw[show uk K (.ref C) f=f7 gC from n];rfl
structure Con (K:u5) (C:Addr) (f:Str) (v:V) (u:Value):Prop where
 at_:uk K (.ref C) f=f7 (f7 u)
 rel:zW v u
 get:Bn K u "__get__"=f7 gC
 cp:PySem.W.copiedNames.contains f=kb
structure zod (K:u5) (C:Addr) (m:Str) (f:Addr):Prop where
 at_:uk K (.ref C) m=f7 (f7 (.ref f))
 fn:By K (.ref f)=ia
 kp:Ag K (.ref f)=ia
section
variable {X:Cx} {pins:List (Addr×Obj)} {σ:St} {H:Hp} {s:Shared} {a C dx:Addr} {fs:List (Str×V)} {f:Str} {v:V} {A:Around} {E:Value->Shared->Prop}
theorem zgr {b:Bool} {Q:Value->Shared->Prop} (I:Inv X pins σ H s) (e:H a=f7 (.ins C dx fs)) (c:Cls X.K C) (n:Ye X.K C f) (l:fs.lookup f=f7 v)
  (h:∀u s',Inv X pins σ H s'->zW v u->Q u s'):wpAny (model X.prog X.w) A (getAttr (.ref a) f b) Q E s:=by
 obtain⟨mA,O,r,_,_,_⟩:=zbe I.hok e;obtain⟨u,hu,ru⟩:=Wf.some_of (v:=v) (o:=mA f) (by rw[<-l];exact r f);exact zl3 I.kIn O (c.get f) c.hd n hu (ziH ru) (h u _ (I.tok _) ru)
theorem zgs {m:Str} {g:Addr} {pl:Sem Bool} {Q:Value×List Value->Shared->Prop} (I:Inv X pins σ H s) (e:H a=f7 (.ins C dx fs)) (c:Cls X.K C) (k:zod X.K C m g) (l:fs.lookup m=gC)
  (h:Q (.ref g,[.ref a]) s):wpAny (model X.prog X.w) A (getMethod (.ref a) m pl) Q E s:=by
 obtain⟨mA,O,r,_,_,_⟩:=zbe I.hok e;have hn:mA m=gC:=Wf.none_of (by rw[<-l];exact r m);exact zjK I.kIn O (c.get m) k.at_ k.fn hn h
theorem zgt {y:V} {u:Value} {Q:Unit->Shared->Prop} (I:Inv X pins σ H s) (e:H a=f7 (.ins C dx fs)) (c:Cls X.K C) (n:Ye X.K C f) (hl:fs.length<1000) (ry:zW y u)
  (h:∀s',Inv X pins σ (upd H a (.ins C dx (Wj f y fs))) s'->Q () s'):wpAny (model X.prog X.w) A (setAttr (.ref a) f u) Q E s:=by
 obtain⟨mA,O,r,wi,_,ho⟩:=zbe I.hok e;have hz:(fs.map (·.1)).length<=sizeLine:=by rw[uw,sizeLine_eq];omega
 refine zl4 I.kIn O c.sa c.po n.taker c.hd wi hz λh' O' sb=>h _ ?_;have hd:∃o,h'.get? dx=f7 o:=let ⟨o,_,_,e',_⟩:=O'.ns;⟨o,e'⟩;refine I.write (x:=a) (e:=dx) (by rw[e];exact A5) (.inr ho) (λb q hb z=>(sb.2 b hb).trans z) hd ?_;refine⟨by rw[zB O.ne];exact ho,?_,O.ne,O'.obj,_,O'.ns,λg=> ?_,λg hg=> ?_⟩
 .have:=zaO f y fs;omega
 .show Wf ((Wj f y fs).lookup g) (if g=f then f7 u else mA g);rw[zaN];by_cases q:g=f
  .rw[if_pos q,if_pos q];exact ry
  .rw[if_neg q,if_neg q];exact r g
 .by_cases q:g=f
  .rw[q];exact (zas f y fs).1
  .refine (zas f y fs).2 g (wi g λz=>hg ?_);show (if g=f then f7 u else mA g)=gC;rw[if_neg q];exact z
theorem Inv.made (I:Inv X pins σ H s):Inv X pins σ (upd (upd H s.heap.objs.size (.own (s.heap.objs.size+1))) (s.heap.objs.size+1) (.ins C s.heap.objs.size []))
  {s with heap:=(s.heap.push A3).push (Ak C s.heap.objs.size)}:=by
 have e1:(s.heap.push A3).get? s.heap.objs.size=f7 A3:=Heap.get?_push_size s.heap rfl;have e2:((s.heap.push A3).push (Ak C s.heap.objs.size)).get? (s.heap.objs.size+1)=f7 (Ak C s.heap.objs.size):=by
  have:=Heap.get?_push_size (s.heap.push A3) (o:=Ak C s.heap.objs.size) rfl;rwa [Heap.size_push] at this
 have e3:(s.heap.push A3).Ns s.heap.objs.size (λ_=>gC):=⟨A3,#[],_,e1,rfl,(λe he=>absurd he (by simp)),λ_=>rfl⟩;have I1:=I.laid (a:=s.heap.objs.size) (o:= .own (s.heap.objs.size+1)) (h':=s.heap.push A3) (t':=s.toks) (λb u q=>Heap.get?_push_of_some _ q) (ug _) ⟨_,e1⟩;refine I1.laid (a:=s.heap.objs.size+1) (o:= .ins C s.heap.objs.size []) (t':=s.toks) (λb u q=>Heap.get?_push_of_some _ q) (Az (Heap.size_push _ _)) ?_;have ne:s.heap.objs.size≠s.heap.objs.size+1:=uF (Aq _);refine⟨by rw[zB ne,zJ],B7 _,ne,e2,λ_=>gC,(Heap.Ns1.of_empty e3).at λo q=>Heap.get?_push_of_some _ q,λ_=>A5,λy hy=>absurd rfl hy⟩
theorem zl5 {prog:Program} {w:World} {env:Env} {e:Expr} {f:Str} {pos:Pos} {s:Shared} {Q:Value->Shared->Prop} (hb:attributeBase e f env (eval e env)=eval e env)
  (h:wpAny (model prog w) A (eval e env) (λo s₁=>wpAny (model prog w) A (getAttr o f ia) Q E s₁) E s):wpAny (model prog w) A (eval (.Attribute e f pos) env) Q E s:=
 Attribute_any_ h (by rw[arm_eval_Attribute,hb])
end
def zpJ (K:u5) (ta:TE) (f:Str):TE:=λσ H Q=>ta σ H λx H1=>∃a C dx fs v,x= .ref a/\H1 a=f7 (.ins C dx fs)/\Cls K C/\Ye K C f/\fs.lookup f=f7 v/\Q v H1
def zpK (K:u5) (ta tv:TE) (f:Str):TS:=λD σ H=>tv σ H λy H1=>ta σ H1 λx H2=>∃a C dx fs,x= .ref a/\H2 a=f7 (.ins C dx fs)/\Cls K C/\Ye K C f/\fs.length<1000/\
 D.nx σ (upd H2 a (.ins C dx (Wj f y fs)))
section
variable {X:Cx} {o e value:Expr} {f:Str} {pos pos' kA:Pos} {ta tv:TE}
theorem xm (he:PE X e ta) (hb:attributeBase e f X.env (eval e X.env)=eval e X.env):PE X (.Attribute e f pos) (zpJ X.K ta f):=by
 intro pins s σ H Q I h;refine zl5 hb (thn (he pins s σ H _ I h) ?_);rintro u s1 ⟨x,H1,I1,rx,a,C,dx,fs,v,ex,ea,c,n,l,q⟩;subst ex;obtain rfl:u=Value.ref a:=rx;exact zgr I1 ea c n l λu' s2 I2 ru=>⟨v,H1,I2,ru,q⟩
theorem zgu (ha:PE X o ta) (hv:PE X value tv) (hs:swapsWith value (f7 (.Attribute o f pos')) pos.line X.env=pure kb):PS X (.Assign [.Attribute o f pos'] value pos) (zpK X.K ta tv f):=by
 intro pins s σ H D I h;refine plainObj_wpAny_Assign_Attribute (thn (hv pins s σ H _ I h) ?_) hs;rintro u s1 ⟨y,H1,I1,ry,q⟩;refine thn (ha pins s1 σ H1 _ I1 q) ?_;rintro ov s2 ⟨x,H2,I2,rx,a,C,dx,fs,ex,ea,c,n,l,q2⟩;subst ex;obtain rfl:ov=Value.ref a:=rx;exact zgt I2 ea c n l ry λs3 I3=>⟨σ,_,I3,q2⟩
end
section
variable {X:Cx} {pins:List (Addr×Obj)} {σ:St} {H:Hp} {s:Shared} {A:Around} {E:Value->Shared->Prop} {Q:Value->Shared->Prop} {c:Value} {b:Bool}
inductive zaY (K:u5) (H:Hp):V->Value->Prop where
 |non:zaY K H .non (.type "NoneType")
 |bl (x:Bool):zaY K H (.bl x) (.type "bool")
 |int (i:Int):zaY K H (.int i) (.type "int")
 |str (x:Str):zaY K H (.str x) (.type "str")
 |flt (x:UInt64):zaY K H (.flt x) (.type "float")
 |lst {a:Addr} {xs:List V} (e:H a=f7 (.lst xs)):zaY K H (.ref a) (.type "list")
 |frz {a:Addr} {o:Obj} {xs:List V} (e:H a=f7 (.frz o (.lst xs))):zaY K H (.ref a) (.type "list")
 |tup {a:Addr} {xs:List V} (e:H a=f7 (.tup xs)):zaY K H (.ref a) (.type "tuple")
 |dK {a:Addr} {ae:List (Key×V)} (e:H a=f7 (.dK ae)):zaY K H (.ref a) (.type "dict")
 |dT {a:Addr} {ae:List (List Key×V)} (e:H a=f7 (.dT ae)):zaY K H (.ref a) (.type "dict")
 |ins {a C dx:Addr} {fs:List (Str×V)} (e:H a=f7 (.ins C dx fs)) (cl:Cls K C) (ha:uk K (.ref C) "__class__"=f7 (f7 (.builtin "object.__class__")))
   (hn:Bn K (.builtin "object.__class__") "__get__"=f7 (f7 (.builtin "getset_descriptor.__get__"))) (htk:Ci K (.builtin "object.__class__")=f7 ia)
   (hm:ub K C (.type "object")=f7 ia):zaY K H (.ref a) (.ref C)
end
structure xS (k:Nat) (A:Around):Prop where
 hd:A.handled=gC
 dp:A.depth+3*k+5<recursionLimit
 un:A.units+16*k+200<cLine
 gd:A.guards=f7 []
theorem xS.mono {j k:Nat} {A:Around} (r:xS k A) (h:j<=k):xS j A:=⟨r.hd,by have:=r.dp;omega,by have:=r.un;omega,r.gd⟩
theorem xS.deeper {k:Nat} {A:Around} (r:xS (k+1) A) (env:Env):xS k (A.deeper env):=
 ⟨r.hd,by have:=r.dp;show A.depth+1+3*k+5<_;omega,by have:=r.un;show A.units+3+16*k+200<_;omega,r.gd⟩
theorem zgv {A:Around} {C:Addr} {us:List Value} {kw:List (Str×Value)}:(A.under (.builtin "type.__call__" ⟨.ref C::us,kw⟩)).depth=A.depth+1:=by
 first|rfl|simp[Around.under,Code.weight,Code.isCreation,Code.isGuard,Code.isCaller,Code.frames,Code.isFrame,guardIds]
theorem zgw {A:Around} {C:Addr} {us:List Value} {kw:List (Str×Value)}:(A.under (.builtin "type.__call__" ⟨.ref C::us,kw⟩)).units=A.units+1:=by
 first|rfl|simp[Around.under,Code.cUnits,Code.frames,Code.isFrame]
theorem xS.make {k:Nat} {A:Around} (r:xS (k+1) A) (C:Addr) (us:List Value) (kw:List (Str×Value)):xS k (A.under (.builtin "type.__call__" ⟨.ref C::us,kw⟩)):=
 ⟨r.hd,by have:=r.dp;rw[zgv];omega,by have:=r.un;rw[zgw];omega,r.gd⟩
theorem xS.depth {k:Nat} {A:Around} (r:xS k A):A.depth<recursionLimit:=by have:=r.dp;omega
theorem xS.units {k:Nat} {A:Around} (r:xS k A):A.units+64<cLine:=by have:=r.un;omega
def zdP:TA:=λ_ H Q=>Q [] H
def YN (ta:TE) (tr:TA):TA:=λσ H Q=>ta σ H λx H1=>tr σ H1 λxs H2=>Q (x::xs) H2
section
variable {X:Cx} {e:Expr} {es:List Expr} {te:TE} {t:TA} {pos:Pos}
theorem zb:PA X [] zdP:=λ_ _ _ _ H Q I h=>Calls.spliced_nil ⟨[],H,I,.nil,h⟩
theorem zx (ha:PE X e te) (hr:PA X es t) (hs:starEach (e::es) X.env=(kb,eval e X.env)::starEach es X.env:=by rfl):PA X (e::es) (YN te t):=by
 intro pos pins s σ H Q I h;rw[hs];show wpAny _ _ (spliced ((kb,eval e X.env)::backTo pos (starEach es X.env))) _ _ s;refine Calls.spliced_cons (thn (ha pins s σ H _ I h) ?_);rintro u s1 ⟨x,H1,I1,r1,q1⟩;refine thn (hr pos pins s1 σ H1 _ I1 q1) ?_;rintro us s2 ⟨xs,H2,I2,r2,q2⟩;exact⟨x::xs,H2,I2,.cons r1 r2,q2⟩
def zoe (t:TA):TE:=λσ H Q=>t σ H λxs H1=>xs.length<=sizeLine/\∀p,H1 p=gC->Q (.ref p) (upd H1 p (.tup xs))
def zpL (t:TA):TE:=λσ H Q=>t σ H λxs H1=>xs.length<=sizeLine/\∀p,H1 p=gC->Q (.ref p) (upd H1 p (.lst xs))
theorem zof {x1} (h:PA X es t):PE X (.Tuple es x1 pos) (zoe t):=by
 intro pins s σ H Q I hq;refine wpAny_Tuple_spliced (thn (h pos pins s σ H _ I hq) λus s1 ⟨xs,H1,I1,r,z,q⟩=>⟨by rw[<-r.length];exact z,?_⟩);have hf:H1 s1.heap.objs.size=gC:=I1.hok.fresh (ug _);refine⟨.ref s1.heap.objs.size,upd H1 s1.heap.objs.size (.tup xs),I1.laid (t':=s1.toks) (λb u e=>Heap.get?_push_of_some _ e) (ug _) ?_,rfl,q _ hf⟩;exact⟨z,us,r,⟨_,Heap.get?_push_size _ rfl,rfl,_,rfl,rfl⟩⟩
theorem Wk (h:PA X es t):PE X (.List es pos) (zpL t):=by
 intro pins s σ H Q I hq;refine wpAny_List_spliced (thn (h pos pins s σ H _ I hq) λus s1 ⟨xs,H1,I1,r,z,q⟩=>⟨by rw[<-r.length];exact z,?_⟩);have hf:H1 s1.heap.objs.size=gC:=I1.hok.fresh (ug _);refine⟨.ref s1.heap.objs.size,upd H1 s1.heap.objs.size (.lst xs),I1.laid (t':=s1.toks) (λb u e=>Heap.get?_push_of_some _ e) (ug _) ?_,rfl,q _ hf⟩;exact⟨z,us,0,r,Heap.get?_push_size _ rfl⟩
end
abbrev Sp:=List V->Hp->VK->XK->Prop
abbrev CXT:=List Env->Hp->Shared->XK->Value->Shared->Prop
structure zcy (P:Program) (w:World) (K:u5) (mg:Str->Option Value) (base:Heap) (A:Around) (outer:List Env) (s:Shared) (H:Hp):Prop where
 frames:A.frames=f7 outer
 mod:Mod P K mg base
 bs:∀b o,base.get? b=f7 o->s.heap.get? b=f7 o/\H b=gC
 bsz:base.objs.size<=s.heap.objs.size
 funs:s.heap.FunFrames base outer
 frf:∀b∈frs outer,H b=gC
 hok:HOk P w H s.heap
 bare:AllBare s.gens
def CE (outer:List Env) (P:Program) (w:World) (H:Hp) (s:Shared) (Q:VK) (u:Value) (s':Shared):Prop:=
 ∃v H',s'.os=s.os/\AllBare s'.gens/\Un (frs outer) [] H H' s.heap s'.heap/\HOk P w H' s'.heap/\zW v u/\Q v H'
def CR (CX:CXT) (outer:List Env) (P:Program) (w:World) (H:Hp) (s:Shared) (Q:VK) (E:XK) (r:Result) (s':Shared):Prop:=
 match r with
 | .ok (.ret u)=>CE outer P w H s Q u s'
 | .ok _=>False
 | .error e=>CX outer H s E e s'
structure ZP (P:Program) (w:World) (K:u5) (mg:Str->Option Value) (base:Heap) (CX:CXT) (k:Nat) (f:Addr) (fd:FuncData) (ps:List Str) (sp:Sp):Prop where
 len:∀vs H Q E,sp vs H Q E->vs.length=ps.length
 run:∀(A:Around) (outer:List Env) (s:Shared) (H:Hp) (args:Args) (us:List Value) (vs:List V) (Q:VK) (E:XK),xS k A->zcy P w K mg base A outer s H->BindsTo s fd args (ps.zip us)->zZ vs us->sp vs H Q E->
  codeAny (model P w) A (.call (.ref f) args) (CR CX outer P w H s Q E) s
theorem ZP.imp {P:Program} {w:World} {K:u5} {mg:Str->Option Value} {base:Heap} {CX:CXT} {k:Nat} {f:Addr} {fd:FuncData} {ps:List Str} {sp sp':Sp} (F:ZP P w K mg base CX k f fd ps sp)
  (h:∀vs H Q E,sp' vs H Q E->sp vs H Q E):ZP P w K mg base CX k f fd ps sp':=
 ⟨λvs H Q E q=>F.len vs H Q E (h _ _ _ _ q),λA outer s H args us vs Q E hr he hb hv hs=>F.run A outer s H args us vs Q E hr he hb hv (h _ _ _ _ hs)⟩
theorem zcy.make {P:Program} {w:World} {K:u5} {mg:Str->Option Value} {base:Heap} {A:Around} {outer:List Env} {s:Shared} {H:Hp} (e:zcy P w K mg base A outer s H) (C:Addr) (us:List Value) (kw:List (Str×Value)):
  zcy P w K mg base (A.under (.builtin "type.__call__" ⟨.ref C::us,kw⟩)) outer s H:=⟨by first|exact e.frames|(simpa [Around.under,Code.envs,Code.isFrame,pushEnvs] using e.frames),e.mod,e.bs,e.bsz,e.funs,e.frf,e.hok,e.bare⟩
section
variable {X:Cx} {pins:List (Addr×Obj)} {σ:St} {H:Hp} {s s':Shared}
theorem Inv.env0 (I:Inv X pins σ H s):zcy X.prog X.w X.K X.mg X.base X.A X.stack s H:=
 ⟨I.ok.frames,I.ok.mod,I.bs,uC I.ok.bsz I.sz,I.stack,I.stkFree,I.hok,I.bare⟩
theorem Inv.after {Q:VK} {u:Value} (I:Inv X pins σ H s) (h:CE X.stack X.prog X.w H s Q u s'):EP X pins σ Q u s':=by
 obtain⟨v,H',os,bare,un,hok,r,q⟩:=h;obtain⟨hh,g,d,t,os'⟩:=s';obtain rfl:os'=s.os:=os;exact⟨v,H',I.call (h':=hh) (g':=g) (d':=d) (t':=t) (ch:=[]) un hok bare (λb z=>absurd z (by simp)),r,q⟩
end
def zjM (sp:Sp) (eh:List V) (E:XK) (t:TA):TE:=λσ H Q=>t σ H λvs H1=>sp (vs++eh) H1 Q E
def zjN (C:Addr) (m:Str) (sp:Sp) (eh:List V) (E:XK) (ta:TE) (t:TA):TE:=λσ H Q=>ta σ H λx H1=>∃a dx fs,x= .ref a/\H1 a=f7 (.ins C dx fs)/\fs.lookup m=gC/\
 t σ H1 λvs H2=>sp (x::(vs++eh)) H2 Q E
def znz (C:Addr) (sp:Sp) (eh:List V) (E:XK) (t:TA):TE:=λσ H Q=>t σ H λvs H1=>∀x dx,H1 x=gC->H1 dx=gC->dx≠x->
 sp (.ref x::(vs++eh)) (upd (upd H1 dx (.own x)) x (.ins C dx [])) (λv H2=>v= .non/\Q (.ref x) H2) E
def Vn (K:u5) (fd:FuncData) (ps:List Str) (ds:List Value):Prop:=
 ∀(s:Shared) (us:List Value),K.In s.heap->(us++ds).length=ps.length->BindsTo s fd ⟨us,[]⟩ (ps.zip (us++ds))
theorem Vn.all {K:u5} {fd:FuncData} {ps:List Str} (h:∀us:List Value,us.length=ps.length->bindArgs fd ⟨us,[]⟩=pure (ps.zip us)):Vn K fd ps []:=λs us _ hl=>by
 rw[y0] at hl ⊢;exact .of_eq (h us hl)
def UL (CX:CXT) (X:Cx) (E:XK):Prop:=∀(pins:List (Addr×Obj)) (σ:St) (H:Hp) (s:Shared) (e:Value) (s':Shared),Inv X pins σ H s->CX X.stack H s E e s'->X.xe e s'
section
variable {X:Cx} {CX:CXT} {k:Nat} {f C:Addr} {fd:FuncData} {ps:List Str} {sp:Sp} {eh:List V} {ds:List Value} {E:XK} {x m:Str} {p pos apos:Pos} {e o:Expr} {es:List Expr} {ta:TE} {t:TA}
theorem zjO {pins:List (Addr×Obj)} {σ:St} {H:Hp} {s:Shared} {Q:VK} {us:List Value} {vs:List V} (F:ZP X.prog X.w X.K X.mg X.base CX k f fd ps sp) (hr:xS k X.A) (hb:Vn X.K fd ps ds) (hd:zZ eh ds) (hx:UL CX X E)
  (I:Inv X pins σ H s) (r:zZ vs us) (h:sp (vs++eh) H Q E):wpAny (model X.prog X.w) X.A (call (.ref f) us) (EP X pins σ Q) X.xe s:=by
 have r2:zZ (vs++eh) (us++ds):=r.append hd;have hl:(us++ds).length=ps.length:=by rw[<-r2.length];exact F.len _ _ _ _ h
 refine wpAny_call (codeAny_mono (F.run X.A X.stack s H ⟨us,[]⟩ (us++ds) (vs++eh) Q E hr I.env0 (hb s us I.kIn hl) r2 h) λr s' hq=> ?_);cases r with
 |error e=>exact hx pins σ H s e s' I hq
 |ok fl=>
  cases fl with
  |ret u=>exact I.after hq
  |next=>exact uW hq
  |brk=>exact uW hq
  |cont=>exact uW hq
theorem zl6 (F:ZP X.prog X.w X.K X.mg X.base CX k f fd ps sp) (hr:xS k X.A) (hg:Gl X x) (hm:X.mg x=f7 (.ref f)) (hk:Ag X.K (.ref f)=ia) (hb:Vn X.K fd ps ds) (hd:zZ eh ds) (hx:UL CX X E)
  (ha:PA X (e::es) t) (jb:(x==("__debug__":Str))=kb:=by decide) (he:starEach (e::es) X.env=(kb,eval e X.env)::starEach es X.env:=by rfl) (eY:(backTo pos (starEach es X.env)).any (·.1)=kb:=by rfl):
  PE X (.Call (.Name x p) (e::es) [] pos) (zjM sp eh E t):=by
 intro pins s σ H Q I h;refine wpAny_Call_Name_kw (Ui I hg hm ?_ jb);refine Bc (h₀:=X.base) I.ok.mod.kin hk (thn (ha pos pins s σ H _ I h) ?_) he eY;rintro us s1 ⟨vs,H1,I1,r,q⟩;refine⟨I1.kIn,?_⟩;exact zjO F hr hb hd hx I1 r q
theorem zQ {pl:Sem Bool} (he:PE X o ta) (c:Cls X.K C) (hm:zod X.K C m f) (F:ZP X.prog X.w X.K X.mg X.base CX k f fd ps sp) (hr:xS k X.A) (hb:Vn X.K fd ps ds) (hd:zZ eh ds) (hx:UL CX X E) (ha:PA X (e::es) t)
  (fm:starEach (e::es) X.env=(kb,eval e X.env)::starEach es X.env:=by rfl) (eY:(backTo pos (starEach es X.env)).any (·.1)=kb:=by rfl)
  (ht:eval (.Call (.Attribute o m apos) (e::es) [] pos) X.env=(do
   let ov <-eval o X.env
   standAt apos.atName
   let (f,first) <-holding [ov] (getMethod ov m pl)
   callWith pos f first (backTo pos (starEach (e::es) X.env)) (backToKw pos (keywordEach [] X.env))):=by rfl):
  PE X (.Call (.Attribute o m apos) (e::es) [] pos) (zjN C m sp eh E ta t):=by
 intro pins s σ H Q I h;refine PySem.W.methodCall_KW (pl:=pl) (thn (he pins s σ H _ I h) ?_) ht;rintro u s1 ⟨x,H1,I1,rx,a,dx,fs,ex,ea,l,q⟩;subst ex;obtain rfl:u=Value.ref a:=rx;refine zgs I1 ea c hm l ?_;refine Bc (first:=[.ref a]) (h₀:=X.base) I.ok.mod.kin hm.kp (thn (ha pos pins s1 σ H1 _ I1 q) ?_) fm eY;rintro us s2 ⟨vs,H2,I2,r,q2⟩;refine⟨I2.kIn,?_⟩;exact zjO (us:= .ref a::us) (vs:= .ref a::vs) F hr hb hd hx I2 (.cons rfl r) q2
structure Mk (K:u5) (C f:Addr):Prop where
 makes:Cg K C=ia
 init:uk K (.ref C) "__init__"=f7 (f7 (.ref f))
 fn:By K (.ref f)=ia
 kp:Ag K (.ref C)=ia
theorem zjP {pins:List (Addr×Obj)} {σ:St} {H:Hp} {s:Shared} {Q:VK} {us:List Value} {vs:List V} (M:Mk X.K C f) (F:ZP X.prog X.w X.K X.mg X.base CX k f fd ps sp) (hr:xS (k+1) X.A) (hb:Vn X.K fd ps ds) (hd:zZ eh ds)
  (hx:UL CX X E) (I:Inv X pins σ H s) (r:zZ vs us)
  (h:∀x dx,H x=gC->H dx=gC->dx≠x->sp (.ref x::(vs++eh)) (upd (upd H dx (.own x)) x (.ins C dx [])) (λv H2=>v= .non/\Q (.ref x) H2) E):
  wpAny (model X.prog X.w) X.A (call (.ref C) us) (EP X pins σ Q) X.xe s:=by
 have hq:=h (s.heap.objs.size+1) s.heap.objs.size (I.hok.fresh (Br _)) (I.hok.fresh (ug _)) (uF (Aq _));have I2:=Inv.made (C:=C) I;have r2:zZ (V.ref (s.heap.objs.size+1)::(vs++eh)) (Value.ref (s.heap.objs.size+1)::(us++ds)):= .cons rfl (r.append hd);have hl:(Value.ref (s.heap.objs.size+1)::us++ds).length=ps.length:=by
  have e:=r2.length;rw[F.len _ _ _ _ hq] at e;exact e.symm
 refine wpAny_call (zjL (f:=f) I.kIn M.makes M.init (beq_iff_eq.mp M.fn) (codeAny_mono (F.run _ X.stack _ _ ⟨Value.ref (s.heap.objs.size+1)::us,[]⟩ (Value.ref (s.heap.objs.size+1)::(us++ds)) _ _ E (hr.make C us [])
  (I2.env0.make C us []) (hb _ (Value.ref (s.heap.objs.size+1)::us) I2.kIn hl) r2 hq) λr s' kS=> ?_))
 cases r with
 |error e=>exact hx pins σ _ _ e s' I2 kS
 |ok fl=>
  cases fl with
  |ret u=>
   obtain⟨v,H',I3,rv,ev,q3⟩:=I2.after kS;subst ev;exact⟨rv,⟨V.ref (s.heap.objs.size+1),H',I3,rfl,q3⟩⟩
  |next=>exact uW kS
  |brk=>exact uW kS
  |cont=>exact uW kS
theorem zl7 (M:Mk X.K C f) (F:ZP X.prog X.w X.K X.mg X.base CX k f fd ps sp) (hr:xS (k+1) X.A) (hg:Gl X x) (hm:X.mg x=f7 (.ref C)) (hb:Vn X.K fd ps ds) (hd:zZ eh ds) (hx:UL CX X E)
  (ha:PA X (e::es) t) (jb:(x==("__debug__":Str))=kb:=by decide) (he:starEach (e::es) X.env=(kb,eval e X.env)::starEach es X.env:=by rfl) (eY:(backTo pos (starEach es X.env)).any (·.1)=kb:=by rfl):
  PE X (.Call (.Name x p) (e::es) [] pos) (znz C sp eh E t):=by
 intro pins s σ H Q I h;refine wpAny_Call_Name_kw (Ui I hg hm ?_ jb);refine Bc (h₀:=X.base) I.ok.mod.kin M.kp (thn (ha pos pins s σ H _ I h) ?_) he eY;rintro us s1 ⟨vs,H1,I1,r,q⟩;refine⟨I1.kIn,?_⟩;exact zjP M F hr hb hd hx I1 r q
end
section
variable {X:Cx} {CX:CXT} {k:Nat} {f C:Addr} {fd:FuncData} {ps ks:List Str} {sp:Sp} {E:XK} {x m:Str} {p pos apos qw:Pos} {e o:Expr} {es:List Expr} {tj:List Keyword} {te ta:TE} {t tk:TA} {nm:Option Str}
structure zqM (K:u5) (fd:FuncData) (ps ks:List Str) (g:List Value->List Value->List Value) (gV:List V->List V->List V):Prop where
 to:∀(s:Shared) (us ws:List Value),K.In s.heap->(g us ws).length=ps.length->BindsTo s fd ⟨us,ks.zip ws⟩ (ps.zip (g us ws))
 rel:∀{vs:List V} {us:List Value} {zs:List V} {ws:List Value},zZ vs us->zZ zs ws->zZ (gV vs zs) (g us ws)
variable {g:List Value->List Value->List Value} {gV:List V->List V->List V}
end
structure zr (N P:List Str) (sc:Scope):Prop where
 kind:sc.kind= .function
 co:sc.isCoroutine=kb
 gen:sc.isGenerator=kb
 nd:N.Nodup
 pre:N.take P.length=P
 par:∀x∈P,sc.names.lookup x=f7 .local\/sc.names.lookup x=f7 .cell
 nofree:∀y∈sc.names,y.2≠ .free
theorem zcZ {kindOf:Str->Option NameKind} {x:Str}:∀{binds:List (Str×Value)} {m:Str->Option Value},(∀v,(x,v)∉binds)->bindL kindOf binds m x=m x
 |[],_,_=>rfl
 |(n,v)::r,m,h=>by
  unfold bindL;rw[zcZ λw hw=>h w (uj _ hw)];split
  .have:x≠n:=by rintro rfl;exact h v uv
   simp[this]
  .rfl
theorem zc0 {kindOf:Str->Option NameKind} {x:Str}:∀{binds:List (Str×Value)} {m:Str->Option Value},(∀v,(x,v)∉binds)->bindC kindOf binds m x=m x
 |[],_,_=>rfl
 |(n,v)::r,m,h=>by
  unfold bindC;rw[zc0 λw hw=>h w (uj _ hw)];split
  .rfl
  .have:x≠n:=by rintro rfl;exact h v uv
   simp[this]
theorem zc1 {kindOf:Str->Option NameKind} {x:Str} {v:Value}:∀{P:List Str} {vs:List Value} {i:Nat} {m:Str->Option Value},P.Nodup->P[i]? =f7 x->vs[i]? =f7 v->kindOf x=f7 .local->
  bindL kindOf (P.zip vs) m x=f7 v
 |[],_,_,_,_,h,_,_=>by simp at h
 |_::_,[],_,_,_,_,h,_=>by simp at h
 |p::P,w::vs,0,m,nd,h1,h2,hk=>by
  simp at h1 h2;subst h1;subst h2;show bindL kindOf ((p,w)::P.zip vs) m p=_;unfold bindL;rw[zcZ λv hv=>(Al.mp nd).1 (AI hv).1,if_pos hk];simp
 |p::P,w::vs,i+1,m,nd,h1,h2,hk=>by
  show bindL kindOf ((p,w)::P.zip vs) m x=_;unfold bindL;exact zc1 (i:=i) (Al.mp nd).2 (by simpa using h1) (by simpa using h2) hk
theorem zc2 {kindOf:Str->Option NameKind} {x:Str} {v:Value}:∀{P:List Str} {vs:List Value} {i:Nat} {m:Str->Option Value},P.Nodup->P[i]? =f7 x->vs[i]? =f7 v->kindOf x≠f7 .local->
  bindC kindOf (P.zip vs) m x=f7 v
 |[],_,_,_,_,h,_,_=>by simp at h
 |_::_,[],_,_,_,_,h,_=>by simp at h
 |p::P,w::vs,0,m,nd,h1,h2,hk=>by
  simp at h1 h2;subst h1;subst h2;show bindC kindOf ((p,w)::P.zip vs) m p=_;unfold bindC;rw[zc0 λv hv=>(Al.mp nd).1 (AI hv).1,if_neg hk];simp
 |p::P,w::vs,i+1,m,nd,h1,h2,hk=>by
  show bindC kindOf ((p,w)::P.zip vs) m x=_;unfold bindC;exact zc2 (i:=i) (Al.mp nd).2 (by simpa using h1) (by simpa using h2) hk
noncomputable def ZI (N:List Str) (vs:List V):St:=vs.map f7++uJ (N.length-vs.length) gC
noncomputable def Xk (CX:CXT) (P:Program) (w:World) (K:u5) (mg:Str->Option Value) (base:Heap) (N:List Str) (qual:Str) (scope:Scope) (f:Addr) (cd:Value) (A:Around) (outer:List Env) (s:Shared) (H:Hp) (E:XK):Cx where
 prog:=P
 w:=w
 K:=K
 mg:=mg
 base:=base
 A:=A.deeper (envOfC qual scope s.heap.objs.size f cd)
 N:=N
 s₀:=s
 H₀:=H
 env:=envOfC qual scope s.heap.objs.size f cd
 outer:=outer
 stack:=envOfC qual scope s.heap.objs.size f cd::outer
 ex:=[]
 calm:=ia
 fn:=λ_=>ia
 zn:=λ_=>kb
 pn:=[]
 xe:=λe s'=>wpAny (model P w) (A.deeper (envOfC qual scope s.heap.objs.size f cd)) (leaving (envOfC qual scope s.heap.objs.size f cd) e) (λ_ s''=>CX outer H s E e s'') (λe' s''=>CX outer H s E e' s'') s'
theorem ze1 {sc:Scope} {n:Nat} {x:Str} (h:sc.names.lookup x=f7 .cell):∃c,(cellsFrom n sc.names []).lookup x=f7 c:=by
 have q:=AQ sc.names n [] (.inl h);exact y7.mp q
theorem zat {CX:CXT} {P:Program} {w:World} {K:u5} {mg:Str->Option Value} {base:Heap} {N ps:List Str} {qual:Str} {scope:Scope} {f:Addr} {cd:Value} {A:Around} {outer:List Env} {s s1:Shared} {H:Hp} {E:XK} {us:List Value} {vs:List V}
  (S:zr N ps scope) (hd:A.handled=gC) (e0:zcy P w K mg base A outer s H) (hl:vs.length=ps.length) (r:zZ vs us)
  (x:InCallC s s.heap.objs.size (bindL (envOfC qual scope s.heap.objs.size f cd).kindOf (ps.zip us) λ_=>gC) (cellsFrom (s.heap.objs.size+1) scope.names []) (bindC (envOfC qual scope s.heap.objs.size f cd).kindOf (ps.zip us) λ_=>gC) s1):
  Inv (Xk CX P w K mg base N qual scope f cd A outer s H E) [] (ZI N vs) H s1:=by
 have eY:ps.length<=N.length:=by have:=congrArg Cr S.pre;rw[A6] at this;omega
 obtain⟨h1,tk,rfl,hk⟩:=x.done;have iX:∀b:Addr,b∉(Xk CX P w K mg base N qual scope f cd A outer s H E).ex:=λb z=>absurd (show b∈([]:List Addr) from z) (by simp)
 refine⟨⟨e0.mod,S.kind,rfl,rfl,ug _,λy z c h1 h2=> ?_,λy hy=> ?_,λy c _ h=> ?_,λ_=>hd,Around.frames_deeper e0.frames,.inr ⟨rfl,rfl⟩,λb z=>absurd z (iX b),e0.bs,e0.bsz,λb _ _=>iX b,λb z=>absurd z (iX b),e0.funs,e0.frf⟩,
  rfl,e0.bare,Un.kept hk,⟨_,x.toInCall.ns,λi y v h1 h2 h3=> ?_⟩,λy c h=>⟨_,x.cell y c h⟩,e0.hok.fresh (ug _),λy c h=> ?_,λp hp=>absurd (show p∈([]:List (Addr×Obj)) from hp) (by simp),e0.hok.kept hk,?_⟩
 .exact name_of_addr x.apart (w5 h1) (w5 h2)
 .have hy:scope.names.lookup y=f7 .cell\/scope.names.lookup y=f7 .free:=hy;rcases hy with hy|hy
  .exact ze1 hy
  .exact absurd rfl (S.nofree _ (w5 hy))
 .exact v8 (x.above y c (w5 h))
 .have hi:i<vs.length:=by
   unfold ZI at h2;by_cases hi:i<vs.length
   .exact hi
   .rw[ur (by simpa using hi)] at h2;rw[AF] at h2;split at h2<;>cases h2
  have ha:vs[i]? =f7 v:=by
   unfold ZI at h2;rw[uc (by simpa using hi),uf] at h2;cases e:vs[i]? with
   |none=>rw[e] at h2;cases h2
   |some a=>rw[e] at h2;cases h2;rfl
  obtain⟨u,hu,rv⟩:=r.get ha;have hp:ps[i]? =f7 y:=by
   rw[<-S.pre,List.getElem?_take_of_lt ⋯];exact h1
  have oR:ps.Nodup:=by rw[<-S.pre];exact S.nd.sublist (List.take_sublist _ _)
  refine⟨u,rv,?_⟩;rcases S.par y (ud hp) with k|k
  .exact .inl ⟨k,zc1 oR hp hu k⟩
  .obtain⟨c,e⟩:=ze1 (n:=s.heap.objs.size+1) k;refine .inr ⟨.inl k,c,e,?_⟩;have q:=x.cell y c e;rw[zc2 oR hp hu (by show scope.names.lookup y≠_;rw[k];decide)] at q;exact q
 .exact .inl (e0.hok.fresh (v8 (x.above y c (w5 h))))
 .unfold ZI;show _=N.length;rw[uD,uw,Cy];omega
theorem zpM {CX:CXT} {P:Program} {w:World} {K:u5} {mg:Str->Option Value} {base:Heap} {k:Nat} {f:Addr} {name qual:Str} {params:Arguments} {body:List Stmt} {scope:Scope} {dV kV doc pm bT ct oc:Value} {an od:Option Addr}
  {gi:Array (Option Value)} {N ps:List Str} {sp:Sp} (lk:K.lookup f=f7 ⟨oc,od,.func (As name qual params body scope dV kV doc pm an bT ct),gi⟩) (dS:Bg K bT qual=ia) (S:zr N ps scope)
  (len:∀vs H Q E,sp vs H Q E->vs.length=ps.length)
  (dI:∀(A:Around) (outer:List Env) (s:Shared) (H:Hp) (vs:List V) (Q:VK) (E:XK),xS k (A.deeper (envOfC qual scope s.heap.objs.size f bT))->sp vs H Q E->
   ∃t,PSs (Xk CX P w K mg base N qual scope f bT A outer s H E) body t/\t {nx:=λ_ H'=>Q .non H',rt:=Q} (ZI N vs) H):
  ZP P w K mg base CX (k+1) f (As name qual params body scope dV kV doc pm an bT ct) ps sp:=by
 refine⟨len,λA outer s H args us vs Q E hr e0 hb r i6=> ?_⟩;have hl:=len _ _ _ _ i6;have KX:K.In s.heap:=e0.mod.kin.keeps λb o e=>(e0.bs b o e).1;have lim:s.heap.NoLimit:=e0.mod.nolimit.keeps λb o e=>(e0.bs b o e).1;have fQ:∀y∈ps.zip us,scope.names.lookup y.1=f7 .local\/(scope.names.lookup y.1=f7 .cell/\((cellsFrom (s.heap.objs.size+1) scope.names []).lookup y.1).isSome=ia):=λ⟨n,v⟩ hy=>by
  rcases S.par n (AI hy).1 with q|q
  .exact .inl q
  .exact .inr ⟨q,AQ _ _ _ (.inl q)⟩
 refine codeAny_call_function hr.depth (KX _ _ lk) rfl S.co S.gen rfl (BP KX dS) (hb _ _ _ _ ?_);refine wpAny_newFunctionEnv_cells S.kind fQ λenv he s1 x=> ?_;subst he;refine⟨lim.keeps x.toInCall.keep,codeAny_func ?_⟩;obtain⟨t,ht,hq⟩:=dI A outer s H vs Q E (hr.deeper _) i6;have I:Inv (Xk CX P w K mg base N qual scope f bT A outer s H E) [] (ZI N vs) H s1:=zat S hr.hd e0 hl r x;refine wpAny_mono (ht [] s1 (ZI N vs) H _ I hq) (λfl s' hs=> ?_) λe s' hs=>hs;have fin:∀{σ':St} {H':Hp} {v:V} {u:Value},Inv (Xk CX P w K mg base N qual scope f bT A outer s H E) [] σ' H' s'->zW v u->Q v H'->CE outer P w H s Q u s':=
  λ{σ' H' v u} J rv q=>⟨v,H',J.os,J.bare,J.base,J.hok,rv,q⟩
 cases fl with
 |ret u=>
  obtain⟨v,σ',H',J,rv,q⟩:=hs;exact fin J rv q
 |next=>
  obtain⟨σ',H',J,q⟩:=hs;exact fin (v:=V.non) (u:=Value.none) J rfl q
 |brk=>
  obtain⟨_,_,_,q⟩:=hs;exact uW q
 |cont=>
  obtain⟨_,_,_,q⟩:=hs;exact uW q
section
variable {X:Cx} {x:Str} {p pos:Pos} {e:Expr} {es:List Expr} {t:TA} {id T:String} {r:List V->Hp->VK->Prop}
def tCB (r:List V->Hp->VK->Prop) (t:TA):TE:=λσ H Q=>t σ H λvs H1=>r vs H1 Q
theorem zA (hc:vx X (.builtin id) r) (hg:Gl X x) (hm:X.mg x=gC) (hv:bootBuiltins x=f7 (.builtin id)) (ha:PA X (e::es) t) (hn:x≠"__name__":=by decide) (jb:(x==("__debug__":Str))=kb:=by decide)
  (he:starEach (e::es) X.env=(kb,eval e X.env)::starEach es X.env:=by rfl) (eY:(backTo pos (starEach es X.env)).any (·.1)=kb:=by rfl):PE X (.Call (.Name x p) (e::es) [] pos) (tCB r t):=by
 intro pins s σ H Q I h;refine wpAny_Call_Name_kw (Vj I hg hm hv ?_ hn jb);refine PyProof.Rows.callWith_builtin1 (thn (ha pos pins s σ H _ I h) ?_) he eY;rintro us s1 ⟨vs,H1,I1,r1,q1⟩;exact hc pins s1 σ H1 vs us Q I1 r1 q1
theorem wM (hc:vx X (.type T) r) (hg:Gl X x) (hm:X.mg x=gC) (hv:bootBuiltins x=f7 (.type T)) (ha:PA X (e::es) t) (hn:x≠"__name__":=by decide) (jb:(x==("__debug__":Str))=kb:=by decide)
  (he:starEach (e::es) X.env=(kb,eval e X.env)::starEach es X.env:=by rfl) (eY:(backTo pos (starEach es X.env)).any (·.1)=kb:=by rfl):PE X (.Call (.Name x p) (e::es) [] pos) (tCB r t):=by
 intro pins s σ H Q I h;refine wpAny_Call_Name_kw (Vj I hg hm hv ?_ hn jb);refine z8 (thn (ha pos pins s σ H _ I h) ?_) he eY;rintro us s1 ⟨vs,H1,I1,r1,q1⟩;exact hc pins s1 σ H1 vs us Q I1 r1 q1
end
end L2
namespace HT
open PySem PyProof.Rows
section
open PySem.SeqAt
open PySem.AutoSeq1 (wpAny_loadPart')
open PySem.MeetsSeq PySem.MeetsSeq2 PySem.MeetsSeq3
end
section
variable {prog:Program} {w:World} {A:Around} {E:Value->Shared->Prop} {s:Shared}
theorem zl8 {t b:Addr} {vs ws:List Value} {Q:Value->Shared->Prop} (ht:IsTup s.heap t vs.toArray) (hb:IsTup s.heap b ws.toArray) (hv:vs≠[])
  (h1:ws=[]->Q (.ref t) s) (h2:ws≠[]->Q (.ref s.heap.objs.size) {s with heap:=s.heap.push {cls:= .type "tuple",data:= .seq (vs++ws).toArray}})
  (hsz:vs.length+ws.length<=sizeLine):wpAny (model prog w) A (binaryOp .Add (.ref t) (.ref b)) Q E s:=by
 obtain⟨⟨cls,dd,data,sl⟩,ho,hc,n,hd⟩:=id ht;obtain⟨⟨oI,mC,data2,kj⟩,jR,jc,n2,hd2⟩:=id hb;simp only at hc hd jc hd2;subst hc hd jc hd2;have e:vs.toArray++ws.toArray=(vs++ws).toArray:=by simp
 by_cases hw:ws=[]
 .exact concat_meets ⟨_,ho,rfl⟩ ⟨_,jR,rfl⟩ noFill_tuple_add seq_tuple_add Bs Bk (Bd _ _)
   (tuple_addW1 t b vs.toArray ws.toArray n n2 dd mC sl kj (by simpa using hv) (by simp[hw])) ⟨ho,jR,h1 hw⟩
 .refine concat_meets ⟨_,ho,rfl⟩ ⟨_,jR,rfl⟩ noFill_tuple_add seq_tuple_add Bs Bk (Bd _ _)
   (tuple_addW2 t b vs.toArray ws.toArray n n2 dd mC sl kj (by simpa using hv) (by simpa using hw) (by rw[uo,uo];exact hsz)) ⟨ho,jR,?_⟩
  rw[e];exact h2 hw
noncomputable def sIx (n d:Nat):Option Int->Nat
 |none=>d
 |some v=>if v<0 then (v+(n:Int)).toNat else min v.toNat n
theorem zhG (n d k:Nat):sIx n d (f7 (k:Int))=min k n:=by
 show (if (k:Int)<0 then ((k:Int)+(n:Int)).toNat else min (k:Int).toNat n)=min k n;rw[if_neg ⋯,uM]
theorem zog (n d:Nat) (hd:d<=n) (o:Option Int):sIx n d o<=n:=by
 cases o with
 |none=>exact hd
 |some v=>
  show (if v<0 then (v+(n:Int)).toNat else min v.toNat n)<=n;by_cases hv:v<0
  .rw[if_pos hv];omega
  .rw[if_neg hv];exact Nat.min_le_right _ _
theorem zhH (v:Int) (n d:Nat):(if v<0 then max (v+(n:Int)) 0 else min v (n:Int))=((sIx n d (f7 v):Nat):Int):=by
 show (if v<0 then max (v+(n:Int)) 0 else min v (n:Int))=(((if v<0 then (v+(n:Int)).toNat else min v.toNat n):Nat):Int);by_cases hv:v<0
 .simp only[if_pos hv];omega
 .simp only[if_neg hv];omega
theorem zgx (lo hi:Option Int) (n:Nat):Builtin.Slice.sliceAdjust lo hi 1 (n:Int)=(((sIx n 0 lo:Nat):Int),((sIx n n hi:Nat):Int)):=by
 have h1:¬((1:Int)<0):=by omega
 unfold Builtin.Slice.sliceAdjust;simp only[h1,if_false];refine Prod.ext ?_ ?_
 .cases lo with
  |none=>rfl
  |some v=>exact zhH v n 0
 .cases hi with
  |none=>rfl
  |some v=>exact zhH v n n
theorem zgy (i j:Nat):Builtin.Slice.slicePlaces (i:Int) (j:Int) 1=j-i:=by
 unfold Builtin.Slice.slicePlaces;have h1:(1:Int)>0:=by omega
 simp only[h1,if_true,C4];split<;>omega
theorem zbw {v:Value} {o:Option Int} {Q:Option Int->Shared->Prop} (p:IsPart v o) (h:Q o s):wpAny (model prog w) A (Builtin.Slice.slicePartIndex v) Q E s:=by
 cases p with
 |none=>exact slicePart_none h
 |int i t=>exact slicePart_int h
theorem XO {sl:Addr} {vl vu:Value} {lo hi:Option Int} {n:Nat} {Q:Int×Int×Nat->Shared->Prop} (hs:s.heap.IsSliceOf sl vl vu .none) (pl:IsPart vl lo) (pu:IsPart vu hi)
  (h:Q (((sIx n 0 lo:Nat):Int),1,sIx n n hi-sIx n 0 lo) s):wpAny (model prog w) A (Builtin.Slice.sliceApplied (.ref sl) (pure (n:Int))) Q E s:=by
 obtain⟨os,jP,gJ,fe⟩:=id hs;unfold Builtin.Slice.sliceApplied Builtin.Slice.sliceFields;refine wpAny_bind (wpAny_bind (wpAny_field jP fe (x:=vl) rfl (wpAny_bind (wpAny_field jP fe (x:=vu) rfl (wpAny_bind (wpAny_field jP fe (x:= .none) rfl (wpAny_pure ?_)))))));refine wpAny_bind (slicePart_none ?_);show wpAny _ _ (if ((1:Int)==0)=ia then _ else _) _ _ s;rw[if_neg ∅];refine wpAny_bind (zbw pl (wpAny_bind (zbw pu (wpAny_bind (wpAny_pure ?_)))));show wpAny _ _ (match Builtin.Slice.sliceAdjust lo hi 1 (n:Int) with|(lo,hi)=>pure (lo,(1:Int),Builtin.Slice.slicePlaces lo hi 1)) _ _ s;rw[zgx lo hi n];show wpAny _ _ (pure (((sIx n 0 lo:Nat):Int),(1:Int),Builtin.Slice.slicePlaces ((sIx n 0 lo:Nat):Int) ((sIx n n hi:Nat):Int) 1)) _ _ s;rw[zgy];exact wpAny_pure h
theorem zjQ (xs:Array Value) (i k:Nat):((v7 k).filterMap λ(m:Nat)=>xs[((i:Int)+(m:Int)*1).toNat]?).toArray=((xs.toList.drop i).take k).toArray:=by
 have e:(λ(m:Nat)=>xs[((i:Int)+(m:Int)*1).toNat]?)=λm=>xs[i+m]? :=by
  funext m;have:((i:Int)+(m:Int)*1).toNat=i+m:=by omega
  rw[this]
 rw[e];have:=pick_run xs i k;rw[List.filterMap_map] at this;have e2:((λx=>xs[x]?) ∘ λx=>i+x)=λm=>xs[i+m]? :=rfl;rw[e2] at this;rw[this]
theorem Te {t sl:Addr} {items:Array Value} {vl vu:Value} {lo hi:Option Int} {Q:Value->Shared->Prop} (ht:IsTup s.heap t items) (hs:s.heap.IsSliceOf sl vl vu .none) (pl:IsPart vl lo) (pu:IsPart vu hi)
  (hw:¬(sIx items.size 0 lo=0/\sIx items.size items.size hi=items.size))
  (h:Q (.ref s.heap.objs.size) {s with heap:=s.heap.push {cls:= .type "tuple",data:= .seq ((items.toList.drop (sIx items.size 0 lo)).take (sIx items.size items.size hi-sIx items.size 0 lo)).toArray}})
  (hsz:items.size<=sizeLine):wpAny (model prog w) A (getItem (.ref t) (.ref sl)) Q E s:=by
 have gF:sizeOk (.seq ((items.toList.drop (sIx items.size 0 lo)).take (sIx items.size items.size hi-sIx items.size 0 lo)).toArray):=by
  show ((items.toList.drop (sIx items.size 0 lo)).take (sIx items.size items.size hi-sIx items.size 0 lo)).toArray.size<=sizeLine;rw[uo,A6,AZ,B9];omega
 have hj:sIx items.size items.size hi<=items.size:=zog _ _ (ug _) hi;obtain⟨os,jP,gJ,fe⟩:=id hs;have oz:s.TypeIs (.ref sl) "slice":=⟨os,jP,gJ⟩;unfold getItem
 try with_reducible refine wpAny_holding ?_
 first|refine wpAny_bind (wpAny_pure ?_)|skip
 refine wpAny_bind (wpAny_sequenceKey ht.typeIs ∅ ?_)
 refine wpAny_bind (wpAny_callSpecial?_slot (name:=Str.ofString "__getitem__") ht.typeIs z0
  (wpAny_call_entry z0 ht.typeIs entry_tuple_getitem ?_ (args_tuple_getitem _ _)))
 show wpAny _ _ (Builtin.Tuple.tupleItemsOf (.ref t)>>=_) _ _ s;refine wpAny_bind (tupleItemsOf_ ht ?_);refine wpAny_bind (wpAny_typeOf oz ?_);rw[if_pos ∅];refine wpAny_bind (XO hs pl pu ?_);have nR:¬((((sIx items.size 0 lo:Nat):Int)==0&&(1:Int)==1&&(sIx items.size items.size hi-sIx items.size 0 lo)==items.size)=ia):=by
  intro q;rw[uX,uX] at q;have q1:((sIx items.size 0 lo:Nat):Int)=0:=eq_of_beq q.1.1;have q2:sIx items.size items.size hi-sIx items.size 0 lo=items.size:=eq_of_beq q.2;exact hw ⟨⋯,⋯⟩
 show wpAny _ _ (if (((sIx items.size 0 lo:Nat):Int)==0&&(1:Int)==1&&(sIx items.size items.size hi-sIx items.size 0 lo)==items.size)=ia then _ else _) _ _ s;rw[if_neg nR,zjQ]
 first
  |exact wpAny_bind (m:=Builtin.Tuple.tupleExact _) (wpAny_newObj_type (wpAny_pure ⟨_,rfl,wpAny_pure h⟩) gF)
  |exact wpAny_bind (m:=Builtin.Tuple.tupleExact _) (wpAny_newObj_type (wpAny_bind (wpAny_pure (wpAny_pure ⟨_,rfl,wpAny_pure h⟩))) gF)
  |exact wpAny_bind (wpAny_bind (m:=Builtin.Tuple.tupleExact _) (wpAny_newObj_type (wpAny_pure (wpAny_pure ⟨_,rfl,wpAny_pure h⟩)) gF))
  |exact wpAny_bind (wpAny_bind (m:=Builtin.Tuple.tupleExact _) (wpAny_newObj_type (wpAny_pure ⟨_,rfl,wpAny_pure h⟩) gF))
end
end HT
namespace L2
open PySem PySem.Spec PyProof.Rows
abbrev TO:=St->Hp->(Option Int->Hp->Prop)->Prop
def PO (X:Cx) (e:Option Expr) (t:TO):Prop:=
 ∀(pins:List (Addr×Obj)) (s:Shared) (σ:St) (H:Hp) (Q:Option Int->Hp->Prop),Inv X pins σ H s->t σ H Q->
  wpAny (model X.prog X.w) X.A (evalPart e X.env) (λu s'=>∃o H',Inv X pins σ H' s'/\IsPart u o/\Q o H') X.xe s
def zhI:TO:=λ_ H Q=>Q gC H
def znA (t:TE):TO:=λσ H Q=>t σ H λx H1=>∃i,x= .int i/\Q (f7 i) H1
section
variable {X:Cx} {e:Expr} {te:TE} {lo hi:Option Expr} {tl th:TO} {pos p2:Pos}
theorem Tf:PO X gC zhI:=by
 intro pins s σ H Q I h;rw[evalPart_none];exact wpAny_pure ⟨gC,H,I,.none,h⟩
theorem Wl (h:PE X e te):PO X (f7 e) (znA te):=by
 intro pins s σ H Q I hw;rw[evalPart_some];refine thn (h pins s σ H _ I hw) ?_;rintro u s1 ⟨x,H1,I1,r1,q1⟩;obtain⟨i,rfl,q⟩:=q1;obtain⟨t,rfl⟩:=r1;exact⟨f7 i,H1,I1,.int i t,q⟩
def SlR (X:Cx) (r:V->Option Int->Option Int->Hp->VK->Prop):Prop:=
 ∀(pins:List (Addr×Obj)) (s:Shared) (σ:St) (H:Hp) (x:V) (v vl vu:Value) (lo hi:Option Int) (sl:Addr) (Q:VK),Inv X pins σ H s->zW x v->s.heap.IsSliceOf sl vl vu .none->IsPart vl lo->IsPart vu hi->r x lo hi H Q->
  ∃T id,typeLookup (.type T) "__getitem__"=pure (f7 (.builtin id))/\s.TypeIs v T/\wpAny (model X.prog X.w) X.A (getItem v (.ref sl)) (EP X pins σ Q) X.xe s
def tSl (r:V->Option Int->Option Int->Hp->VK->Prop) (te:TE) (tl th:TO):TE:=λσ H Q=>te σ H λx H1=>tl σ H1 λl H2=>th σ H2 λu H3=>r x l u H3 Q
theorem XQ {r:V->Option Int->Option Int->Hp->VK->Prop} (hr:SlR X r) (he:PE X e te) (hl:PO X lo tl) (hu:PO X hi th):PE X (.Subscript e (.Slice lo hi gC p2) pos) (tSl r te tl th):=by
 intro pins s σ H Q I h;refine Subscript_ (thn (he pins s σ H _ I h) ?_);rintro v s1 ⟨x,H1,I1,r1,q1⟩;refine wpAny_Slice (thn (hl pins s1 σ H1 _ I1 q1) ?_);rintro vl s2 ⟨l,H2,I2,pl,q2⟩;refine thn (hu pins s2 σ H2 _ I2 q2) ?_;rintro vu s3 ⟨u,H3,I3,pu,q3⟩;rw[evalPart_none];refine wpAny_pure ?_;have I4:Inv X pins σ H3 {s3 with heap:=s3.heap.push {cls:= .type "slice",data:= .fields #[vl,vu,.none]}}:=I3.kept (t':=s3.toks) λb ob q=>Heap.get?_push_of_some _ q;obtain⟨T,id,hT,ht,hg⟩:=hr pins {s3 with heap:=s3.heap.push {cls:= .type "slice",data:= .fields #[vl,vu,.none]}} σ H3 x v vl vu l u s3.heap.objs.size Q I4 r1 (Heap.IsSliceOf.new ..) pl pu q3;show wpAny (model X.prog X.w) X.A (subscriptTail e (.Slice lo hi gC p2) v (.ref s3.heap.objs.size)) (EP X pins σ Q) X.xe {s3 with heap:=s3.heap.push {cls:= .type "slice",data:= .fields #[vl,vu,.none]}};exact tail_any (ops:=[.ref s3.heap.objs.size,v]) ht hT hg (by with_unfolding_all rfl)
noncomputable def zcz (xs:List V) (lo hi:Option Int):List V:=(xs.drop (HT.sIx xs.length 0 lo)).take (HT.sIx xs.length xs.length hi-HT.sIx xs.length 0 lo)
theorem zaP (xs:List V) (lo hi:Option Int):(zcz xs lo hi).length<=xs.length:=by
 unfold zcz;rw[A6,AZ];omega
def zqN (K:u5):V->Option Int->Option Int->Hp->VK->Prop:=λx lo hi H Q=>∃a xs,x= .ref a/\SqT K H a xs/\
 ¬(HT.sIx xs.length 0 lo=0/\HT.sIx xs.length xs.length hi=xs.length)/\∀p,H p=gC->Q (.ref p) (upd H p (.tup (zcz xs lo hi)))
theorem zoh:SlR X (zqN X.K):=by
 intro pins s σ H x v vl vu lo hi sl Q I rx hs pl pu h;obtain⟨a,xs,rfl,hx,hw,q⟩:=h;cases rx;obtain⟨ah,r,ht,hz⟩:=I.tuple hx;have hlen:ah.toArray.size=xs.length:=by rw[uo];exact r.length.symm
 refine⟨"tuple",_,z0.lookup,ht.typeIs,?_⟩;refine HT.Te ht hs pl pu (by rw[hlen];exact hw) ?_ (by rw[hlen];exact hz);rw[hlen];refine⟨.ref s.heap.objs.size,_,I.laid (t':=s.toks) (o:= .tup (zcz xs lo hi)) (λb ob q=>Heap.get?_push_of_some _ q) (ug _) ?_,rfl,q _ (I.hok.fresh (ug _))⟩;exact⟨uC (zaP xs lo hi) hz,_,(r.drop (HT.sIx xs.length 0 lo)).take (HT.sIx xs.length xs.length hi-HT.sIx xs.length 0 lo),Vi.new _ _⟩
def zpN (K:u5):R2:=λx y H Q=>∃a b xs ys,x= .ref a/\y= .ref b/\SqT K H a xs/\SqT K H b ys/\xs≠[]/\xs.length+ys.length<=sizeLine/\
 (ys=[]->Q (.ref a) H)/\(ys≠[]->∀p,H p=gC->Q (.ref p) (upd H p (.tup (xs++ys))))
theorem zZ.nil_iff {xs:List V} {us:List Value} (r:zZ xs us):us=[]↔xs=[]:=by
 cases r with
 |nil=>simp
 |cons _ _=>simp
theorem zl9:OpR X (binaryOp .Add) (zpN X.K):=by
 intro pins s σ H x y v u Q I rx ry h;obtain⟨a,b,xs,ys,rfl,rfl,ha,hb,hx,hz,q1,q2⟩:=h;cases rx;cases ry;obtain⟨ah,r1,p1,_⟩:=I.tuple ha;obtain⟨c9,r2,p2,_⟩:=I.tuple hb;refine HT.zl8 p1 p2 (λz=>hx (r1.nil_iff.mp z)) (λz=>⟨.ref a,H,I,rfl,q1 (r2.nil_iff.mp z)⟩) (λz=> ?_) (by rw[<-r1.length,<-r2.length];exact hz);refine⟨.ref s.heap.objs.size,_,I.laid (t':=s.toks) (o:= .tup (xs++ys)) (λb ob q=>Heap.get?_push_of_some _ q) (ug _) ?_,rfl,q2 (λw=>z (r2.nil_iff.mpr w)) _ (I.hok.fresh (ug _))⟩;exact⟨by rw[uD];exact hz,_,r1.append r2,Vi.new _ _⟩
end
noncomputable def ixN (n:Nat) (i:Int):Option Nat:=if 0<=i then (if i<n then f7 i.toNat else gC) else if -(n:Int)<=i then f7 (i+n).toNat else gC
noncomputable def atI {α:Type} (xs:List α) (i:Int):Option α:=(ixN xs.length i).bind λj=>xs[j]?
theorem zhJ {n:Nat} {i:Int} {j:Nat} (h:ixN n i=f7 j):seqIndex? i n=f7 j/\j<n/\ -(n:Int)<=i/\i<n:=by
 unfold ixN at h;by_cases h0:0<=i
 .rw[if_pos h0] at h;by_cases h1:i<n
  .rw[if_pos h1] at h;have e:i.toNat=j:=uK h;exact⟨by rw[seqIndex_of h0 h1,e],⋯,⋯,h1⟩
  .rw[if_neg h1] at h;cases h
 .rw[if_neg h0] at h;by_cases h1: -(n:Int)<=i
  .rw[if_pos h1] at h;have e:(i+n).toNat=j:=uK h;exact⟨by rw[seqIndex_neg ⋯ h1,e],⋯,h1,⋯⟩
  .rw[if_neg h1] at h;cases h
theorem zdQ {α:Type} {xs:List α} {i:Int} {v:α} (h:atI xs i=f7 v):∃j,seqIndex? i xs.length=f7 j/\xs[j]? =f7 v/\j<xs.length/\ -(xs.length:Int)<=i/\i<xs.length:=by
 unfold atI at h;cases e:ixN xs.length i with
 |none=>rw[e] at h;cases h
 |some j=>
  rw[e] at h;obtain⟨h1,h2,h3,h4⟩:=zhJ e;exact⟨j,h1,h,h2,h3,h4⟩
def zma (b:Expr):Prop:=∀o i,subscripted b kb o i=operate [o,i] (getItem o i)
def IxR (X:Cx) (r:R2):Prop:=
 ∀(value slice:Expr) (pins:List (Addr×Obj)) (s:Shared) (σ:St) (H:Hp) (x y:V) (v u:Value) (Q:VK),Inv X pins σ H s->zW x v->zW y u->r x y H Q->
  subscripted slice kb v u=operate [v,u] (getItem v u)->wpAny (model X.prog X.w) X.A (subscriptTail value slice v u) (EP X pins σ Q) X.xe s
def MtR (X:Cx) (id:String) (r:V->List V->Hp->VK->Prop):Prop:=
 ∀(pins:List (Addr×Obj)) (s:Shared) (σ:St) (H:Hp) (x:V) (xs:List V) (v:Value) (us:List Value) (Q:VK),Inv X pins σ H s->zW x v->zZ xs us->r x xs H Q->
  wpAny (model X.prog X.w) X.A (call (.builtin id) (v::us)) (EP X pins σ Q) X.xe s
section
variable {X:Cx} {a b:Expr} {ta tb:TE} {pos:Pos}
theorem IxR.or {r r':R2} (h:IxR X r) (h':IxR X r'):IxR X (λx y H Q=>r x y H Q\/r' x y H Q):=by
 intro value slice pins s σ H x y v u Q I rx ry q hs;rcases q with q|q
 .exact h value slice pins s σ H x y v u Q I rx ry q hs
 .exact h' value slice pins s σ H x y v u Q I rx ry q hs
theorem zpO {r:R2} (hr:IxR X r) (ha:PE X a ta) (hb:PE X b tb) (hs:zma b):PE X (.Subscript a b pos) (tOp r ta tb):=by
 intro pins s σ H Q I h;exact Subscript_ (zn8 ha hb I h λv u s2 x y H2 I2 rx ry q=>hr a b pins s2 σ H2 x y v u Q I2 rx ry q (hs _ _))
def zmb (K:u5):R2:=λx y H Q=>∃p xs i v,x= .ref p/\y= .int i/\SqL K H p xs/\atI xs i=f7 v/\Q v H
def zmc (K:u5):R2:=λx y H Q=>∃p xs i v,x= .ref p/\y= .int i/\SqT K H p xs/\atI xs i=f7 v/\Q v H
def zoi:R2:=λx y H Q=>∃z i c,x= .str z/\y= .int i/\z.length<=sizeLine/\atI z.cps.toList i=f7 c/\Q (.str ⟨#[c]⟩) H
theorem zhK:IxR X (zmb X.K):=by
 intro value slice pins s σ H x y v u Q I rx ry h hs;obtain⟨p,xs,i,z,rfl,rfl,hq,he,q⟩:=h;cases rx;obtain⟨t,rfl⟩:=ry;obtain⟨ah,r,pl,hz⟩:=I.list hq;obtain⟨j,h1,h2,h3,h4,h5⟩:=zdQ he;obtain⟨w,ew,rw'⟩:=r.get h2;have hl:=r.length;have hn:=Vl;have fin:EP X pins σ Q w s:=⟨z,H,I,rw',q⟩;by_cases h0:0<=i
 .have hj:i.toNat=j:=by
   rw[seqIndex_of h0 h5] at h1;exact uK h1
  exact item_listR pl.isList h0 ⋯ (by rw[hj];simpa using ew) fin hs
 .have hj:(i+(ah.toArray.size:Int)).toNat=j:=by
   rw[seqIndex_neg ⋯ h4] at h1;rw[uo,<-hl];exact uK h1
  exact subscriptTail_builtinR (x:=w) pl.isList.typeIs slot_list_getitem.lookup
   (wpAny_getItem_list_neg (Q:=λr s'=>r=w/\EP X pins σ Q r s') pl.isList ⋯ (by rw[uo]<;>omega) ⋯ (by rw[hj];simpa using ew) ⟨rfl,fin⟩) hs
theorem zjR:IxR X (zmc X.K):=by
 intro value slice pins s σ H x y v u Q I rx ry h hs;obtain⟨p,xs,i,z,rfl,rfl,hq,he,q⟩:=h;cases rx;obtain⟨t,rfl⟩:=ry;obtain⟨ah,r,pl,hz⟩:=I.tuple hq;obtain⟨j,h1,h2,h3,h4,h5⟩:=zdQ he;obtain⟨w,ew,rw'⟩:=r.get h2;have hl:=r.length;have hn:=Vl;have fin:EP X pins σ Q w s:=⟨z,H,I,rw',q⟩;exact subscriptTail_builtinR (x:=w) pl.typeIs slot_tuple_getitem.lookup
  (getItem_tuple (j:=j) (Q:=λr s'=>r=w/\EP X pins σ Q r s') pl ⋯ ⋯ (by rw[uo,<-hl];exact h1) (by simpa using ew) ⟨rfl,fin⟩) hs
theorem zdR:IxR X zoi:=by
 intro value slice pins s σ H x y v u Q I rx ry h hs;obtain⟨z,i,c,rfl,rfl,hz,he,q⟩:=h;obtain⟨t,rfl⟩:=rx;obtain⟨t',rfl⟩:=ry;obtain⟨j,h1,h2,h3,h4,h5⟩:=zdQ he;have hl:z.cps.toList.length=z.length:=by simp[Str.length]
 rw[hl] at h1 h4 h5;have hn:=Vl
 exact tail_any (typeIs_str s z t) slot_str_getitem.lookup (getItem_str (c:=c) (by
  have e1:decide (i< -(2^63:Int))=kb:=decide_eq_false ⋯;have e2:decide (i≥2^63)=kb:=decide_eq_false ⋯
  rw[e1,e2,Bool.or_false]) (by rw[h1];simpa using h2) ⟨.str ⟨#[c]⟩,H,I.tok _,⟨_,rfl⟩,q⟩) hs
def rIx (K:u5):R2:=λx y H Q=>zmb K x y H Q\/zmc K x y H Q\/zoi x y H Q
theorem zoj:IxR X (rIx X.K):=zhK.or (zjR.or zdR)
theorem zgz (ah:List Value) (n j:Nat) (u:Value):Obj.mapSeq (·.setIfInBounds j u) {cls:= .type "list",data:= .seq ah.toArray n}={cls:= .type "list",data:= .seq (ah.set j u).toArray n}:=by
 simp[Obj.mapSeq]
theorem Inv.lst {pins:List (Addr×Obj)} {σ:St} {H:Hp} {s:Shared} {p:Addr} {xs:List V} (I:Inv X pins σ H s) (h:H p=f7 (.lst xs)):
  ∃(ah:List Value) (n:Nat),zZ xs ah/\s.heap.get? p=f7 {cls:= .type "list",data:= .seq ah.toArray n}/\xs.length<=sizeLine:=by
 obtain⟨z,ah,n,r,e⟩:=I.hok p _ h;exact⟨ah,n,r,e,z⟩
theorem Inv.lstUpd {pins:List (Addr×Obj)} {σ:St} {H:Hp} {s:Shared} {p:Addr} {xs ys:List V} {ah its':List Value} {n n':Nat} {f:Obj->Obj} (I:Inv X pins σ H s) (h:H p=f7 (.lst xs))
  (ho:s.heap.get? p=f7 {cls:= .type "list",data:= .seq ah.toArray n}) (hf:f {cls:= .type "list",data:= .seq ah.toArray n}={cls:= .type "list",data:= .seq its'.toArray n'}) (r:zZ ys its') (hz:ys.length<=sizeLine) (t:Nat):
  Inv X pins σ (upd H p (.lst ys)) {s with heap:=s.heap.update p f,toks:=t}:=by
 have e:(s.heap.update p f).get? p=f7 {cls:= .type "list",data:= .seq its'.toArray n'}:=by
  rw[Heap.get?_update_self f ho (by rw[hf]<;>rfl),hf]
 refine I.write (x:=p) (e:=p) (by rw[h];trivial) (.inl rfl) (λb u hb q=>(Heap.get?_update_other _ _ (A8 hb)).trans q) ⟨_,e⟩ ?_;exact⟨hz,its',n',r,e⟩
def znB:V->V->V->Hp->(Hp->Prop)->Prop:=λo i v H Q=>∃p xs k j,o= .ref p/\i= .int k/\H p=f7 (.lst xs)/\ixN xs.length k=f7 j/\Q (upd H p (.lst (xs.set j v)))
theorem zbx:zpF X znB:=by
 intro pins s σ H o i v ov iv u Q I ro ri rv h;obtain⟨p,xs,k,j,rfl,rfl,hp,hj,q⟩:=h;cases ro;obtain⟨t,rfl⟩:=ri;obtain⟨ah,n,r,ho,hz⟩:=I.lst hp;obtain⟨h1,h2,h3,h4⟩:=zhJ hj;have hl:=r.length;have hn:=Vl;have I':Inv X pins σ (upd H p (.lst (xs.set j v))) {s with heap:=s.heap.update p (Obj.mapSeq (·.setIfInBounds j u))}:=
  I.lstUpd hp ho (zgz ah n j u) (r.set rv j) (by rw[AJ];exact hz) s.toks
 by_cases h0:0<=k
 .have hk:k.toNat=j:=by
   rw[seqIndex_of h0 h4] at h1;exact uK h1
  exact PySem.W.ki_setAt ho h0 ⋯ (by rw[uo,<-hl];exact h4) (by rw[hk];exact⟨_,I',q⟩)
 .have hk:(k+(ah.toArray.size:Int)).toNat=j:=by
   rw[seqIndex_neg ⋯ h3] at h1;rw[uo,<-hl];exact uK h1
  exact PySem.W.ki_setBack ho ⋯ (by rw[uo,<-hl];exact h3) ⋯ (by rw[hk];exact⟨_,I',q⟩)
theorem zdS (lo hi:Option Int) (n:Nat):(sliceBounds lo hi gC n).1=((HT.sIx n 0 lo:Nat):Int)/\(sliceBounds lo hi gC n).2.1=((HT.sIx n n hi:Nat):Int)/\(sliceBounds lo hi gC n).2.2=1:=by
 refine⟨?_,?_,rfl⟩
 .cases lo with
  |none=>simp[sliceBounds,HT.sIx]
  |some i=>
   simp only[sliceBounds,HT.sIx,Df,show (1:Int)>0 by decide,if_true];by_cases h:i<0
   .simp only[h,if_true]<;>omega
   .simp only[h,if_false]<;>omega
 .cases hi with
  |none=>simp[sliceBounds,HT.sIx]
  |some i=>
   simp only[sliceBounds,HT.sIx,Df,show (1:Int)>0 by decide,if_true];by_cases h:i<0
   .simp only[h,if_true]<;>omega
   .simp only[h,if_false]<;>omega
theorem zcA (ah:List Value) (lo hi:Option Int):slicePick ah.toArray lo hi gC=((ah.drop (HT.sIx ah.length 0 lo)).take (HT.sIx ah.length ah.length hi-HT.sIx ah.length 0 lo)).toArray:=by
 obtain⟨h1,h2,h3⟩:=zdS lo hi ah.toArray.size;unfold slicePick;rw[h1,h2,h3];simp only[sliceRange_one,pick_run,uo]<;>rfl
def zjS (K:u5):V->Option Int->Option Int->Hp->VK->Prop:=λx lo hi H Q=>∃a xs,x= .ref a/\SqL K H a xs/\∀p,H p=gC->Q (.ref p) (upd H p (.lst (zcz xs lo hi)))
theorem zmd:SlR X (zjS X.K):=by
 intro pins s σ H x v vl vu lo hi sl Q I rx hs pl pu h;obtain⟨a,xs,rfl,hx,q⟩:=h;cases rx;obtain⟨ah,r,ht,hz⟩:=I.list hx;have hlen:=r.length;refine⟨"list",_,slot_list_getitem.lookup,ht.isList.typeIs,?_⟩;refine wpAny_getItem_list_slice ht.isList hs pl pu .none (by simp) ?_ (by rw[uo]<;>omega);rw[zcA,<-hlen];refine⟨.ref s.heap.objs.size,_,I.laid (t':=s.toks) (o:= .lst (zcz xs lo hi)) (λb ob q=>Heap.get?_push_of_some _ q) (ug _) ?_,rfl,q _ (I.hok.fresh (ug _))⟩;exact⟨uC (zaP xs lo hi) hz,_,0,(r.drop (HT.sIx xs.length 0 lo)).take (HT.sIx xs.length xs.length hi-HT.sIx xs.length 0 lo),Heap.get?_push_size _ rfl⟩
noncomputable def YO:V->Bool
 | .non=>ia
 | .bl _=>ia
 | .int _=>ia
 | .str _=>ia
 |_=>kb
noncomputable def eqV:V->V->Bool
 | .non,.non=>ia
 | .bl a,.bl b=>a==b
 | .bl a,.int b=>(if a then 1 else 0)==b
 | .int a,.bl b=>a==(if b then 1 else 0)
 | .int a,.int b=>a==b
 | .str a,.str b=>a==b
 |_,_=>kb
theorem zok {A:Around} {s:Shared} {y x:V} {u v:Value} (ry:zW y u) (rx:zW x v) (fy:YO y=ia) (fx:YO x=ia):SeqAt.EqAt A s u v (eqV y x):=by
 cases y with
 |non=>
  cases ry;cases x with
  |non=>cases rx;exact SeqAt.EqAt.same _
  |bl b=>cases rx;exact SeqAt.EqAt.none_bool b
  |int b=>obtain⟨t,rfl⟩:=rx;exact SeqAt.EqAt.none_int b t
  |str b=>obtain⟨t,rfl⟩:=rx;exact SeqAt.EqAt.none_str b t
  |_=>exact absurd (show kb=ia from fx) uS
 |bl a=>
  cases ry;cases x with
  |non=>cases rx;exact SeqAt.EqAt.bool_none a
  |bl b=>cases rx;exact SeqAt.EqAt.bool_bool a b
  |int b=>obtain⟨t,rfl⟩:=rx;exact SeqAt.EqAt.bool_int a b t
  |str b=>obtain⟨t,rfl⟩:=rx;exact SeqAt.EqAt.bool_str a b t
  |_=>exact absurd (show kb=ia from fx) uS
 |int a=>
  obtain⟨t',rfl⟩:=ry;cases x with
  |non=>cases rx;exact SeqAt.EqAt.int_none a t'
  |bl b=>cases rx;exact SeqAt.EqAt.int_bool a t' b
  |int b=>obtain⟨t,rfl⟩:=rx;exact SeqAt.EqAt.int_int a t' b t
  |str b=>obtain⟨t,rfl⟩:=rx;exact SeqAt.EqAt.int_str a t' b t
  |_=>exact absurd (show kb=ia from fx) uS
 |str a=>
  obtain⟨t',rfl⟩:=ry;cases x with
  |non=>cases rx;exact SeqAt.EqAt.str_none a t'
  |bl b=>cases rx;exact SeqAt.EqAt.str_bool a t' b
  |int b=>obtain⟨t,rfl⟩:=rx;exact SeqAt.EqAt.str_int a t' b t
  |str b=>obtain⟨t,rfl⟩:=rx;exact SeqAt.EqAt.str_str a t' b t
  |_=>exact absurd (show kb=ia from fx) uS
 |_=>exact absurd (show kb=ia from fy) uS
noncomputable def eqU (x:V) (u:Value):Bool:=match u with
 | .none=>eqV .non x
 | .bool b=>eqV (.bl b) x
 | .int i _=>eqV (.int i) x
 | .str z _=>eqV (.str z) x
 |_=>kb
theorem zgA {x y:V} {u:Value} (r:zW y u) (f:YO y=ia):eqU x u=eqV y x:=by
 cases y with
 |non=>cases r;rfl
 |bl b=>cases r;rfl
 |int i=>obtain⟨t,rfl⟩:=r;rfl
 |str z=>obtain⟨t,rfl⟩:=r;rfl
 |_=>exact absurd (show kb=ia from f) uS
theorem zdT {x:V}:∀{xs:List V} {us:List Value},zZ xs us->xs.all YO=ia->us.any (eqU x)=xs.any λy=>eqV y x
 |_,_,.nil,_=>rfl
 |y::xs,u::us,.cons r t,f=>by
  rw[B5,uX] at f;rw[Ap,Ap,zgA r f.1,zdT t f.2]
theorem Tg {A:Around} {s:Shared} {x:V} {v:Value} (rx:zW x v) (fx:YO x=ia):∀{xs:List V} {us:List Value},zZ xs us->xs.all YO=ia->∀u∈us,SeqAt.EqAt A s u v (eqU x u)
 |_,_,.nil,_=>λu hu=>by cases hu
 |y::xs,u::us,.cons r t,f=>λu' hu=>by
  rw[B5,uX] at f;rcases uy.mp hu with rfl|hu
  .rw[zgA r f.1];exact zok r rx f.1 fx
  .exact Tg rx fx t f.2 u' hu
noncomputable def inV (x:V) (xs:List V):Bool:=xs.any λy=>eqV y x
def rIn (K:u5) (neg:Bool):R2:=λx y H Q=>∃p xs,y= .ref p/\(SqL K H p xs\/SqT K H p xs)/\YO x=ia/\xs.all YO=ia/\Q (.bl (if neg then !inV x xs else inV x xs)) H
theorem zdU:OpR X (compareOp .NotIn) (rIn X.K ia):=by
 intro pins s σ H x y v u Q I rx ry h;obtain⟨p,xs,rfl,hq,fx,fs,q⟩:=h;cases ry;rcases hq with hq|hq
 .obtain⟨ah,r,pl,hz⟩:=I.list hq;refine SeqAt.notIn_listAt (eqU x) pl.isList (λw hw=>Tg rx fx r fs w (by simpa using hw)) ⟨.bl _,H,I,rfl,?_⟩;rw[show ah.toArray.any (eqU x)=ah.any (eqU x) by simp,zdT r fs];exact q
 .obtain⟨ah,r,pl,hz⟩:=I.tuple hq;refine SeqAt.notIn_tupleAt (eqU x) pl (λw hw=>Tg rx fx r fs w (by simpa using hw)) ⟨.bl _,H,I,rfl,?_⟩;rw[show ah.toArray.any (eqU x)=ah.any (eqU x) by simp,zdT r fs];exact q
theorem zdV:vx X (.builtin "len") (λxs H Q=>∃p ys,xs=[.ref p]/\(SqL X.K H p ys\/SqT X.K H p ys)/\Q (.int ys.length) H):=by
 intro pins s σ H xs us Q I r h;obtain⟨p,ys,rfl,hq,q⟩:=h;obtain⟨u,rfl,rx⟩:=Vm r;cases rx;have hn:=Vl;rcases hq with hq|hq
 .obtain⟨ah,r',pl,hz⟩:=I.list hq;have hlen:=r'.length;exact Calls.call_len_list pl.isList (by simp only[uo]<;>omega) ⟨.int ys.length,H,I.tok _,⟨s.toks+1,by rw[uo,hlen]⟩,q⟩
 .obtain⟨ah,r',pl,hz⟩:=I.tuple hq;have hlen:=r'.length;exact len_tuple pl (by simp only[uo]<;>omega) ⟨.int ys.length,H,I.tok _,⟨s.toks+1,by rw[uo,hlen]⟩,q⟩
theorem zdW:vx X (.type "list") (λxs H Q=>∃p ys,xs=[.ref p]/\(SqL X.K H p ys\/SqT X.K H p ys)/\∀l,H l=gC->Q (.ref l) (upd H l (.lst ys))):=by
 intro pins s σ H xs us Q I r h;obtain⟨p,ys,rfl,hq,q⟩:=h;obtain⟨u,rfl,rx⟩:=Vm r;cases rx;have fin:∀(ah:List Value),zZ ys ah->ys.length<=sizeLine->∀(h':Heap) (c':Nat),(∀b o',s.heap.get? b=f7 o'->h'.get? b=f7 o')->
   h'.get? s.heap.objs.size=f7 {cls:= .type "list",dict:=gC,data:= .seq ah.toArray c',slots:= #[]}->EP X pins σ Q (.ref s.heap.objs.size) {s with heap:=h'}:=λah r' hz h' c' kp e=>
  ⟨.ref s.heap.objs.size,_,I.laid (t':=s.toks) kp (ug _) (show yN X.prog X.w _ h' _ (.lst ys) from ⟨hz,ah,c',r',e⟩),rfl,q _ (I.hok.fresh (ug _))⟩
 rcases hq with hq|hq
 .obtain⟨ah,r',pl,hz⟩:=I.list hq;have hlen:=r'.length;obtain⟨o,ho,hc,n,hd⟩:=pl.isList;exact call_list_seq p (.inl rfl) ho hc hd (λh' c' kp e=>fin ah r' hz h' c' kp e) (by simp only[uo]<;>omega)
 .obtain⟨ah,r',pl,hz⟩:=I.tuple hq;have hlen:=r'.length;obtain⟨o,ho,hc,n,hd⟩:=pl;exact call_list_seq p (.inr rfl) ho hc hd (λh' c' kp e=>fin ah r' hz h' c' kp e) (by simp only[uo]<;>omega)
theorem zcB:vx X (.type "tuple") (λxs H Q=>∃p ys,xs=[.ref p]/\((SqL X.K H p ys/\∀l,H l=gC->Q (.ref l) (upd H l (.tup ys)))\/(SqT X.K H p ys/\Q (.ref p) H))):=by
 intro pins s σ H xs us Q I r h;obtain⟨p,ys,rfl,h⟩:=h;obtain⟨u,rfl,rx⟩:=Vm r;cases rx;rcases h with⟨hq,q⟩|⟨hq,q⟩
 .obtain⟨ah,r',pl,hz⟩:=I.list hq;have hlen:=r'.length;refine call_tuple_list pl.isList (λh' kp=> ?_) (by simp only[uo]<;>omega);have I1:Inv X pins σ H {s with heap:=h'}:=I.kept (t':=s.toks) kp;have I2:Inv X pins σ (upd H h'.objs.size (.tup ys)) {s with heap:=h'.push {cls:= .type "tuple",data:= .seq ah.toArray}}:=
   I1.laid (t':=s.toks) (λb o e=>Heap.get?_push_of_some _ e) (ug _) (show yN X.prog X.w _ _ _ (.tup ys) from ⟨hz,ah,r',Vi.new _ _⟩)
  exact⟨.ref h'.objs.size,_,I2,rfl,q _ (I1.hok.fresh (ug _))⟩
 .obtain⟨ah,r',pl,hz⟩:=I.tuple hq;exact call_tuple_same pl ⟨.ref p,H,I,rfl,q⟩
def tyV (K:u5) (T:String) (x:V) (H:Hp):Prop:=match x with
 | .str _=>T="str"
 | .int _=>T="int"
 | .ref p=>(T="list"/\∃xs,SqL K H p xs)\/(T="tuple"/\∃o,K.lookup p=f7 o/\o.cls= .type "tuple"/\o.dict=gC)\/
   (T="dict"/\((∃ae,Rd H p (.dK ae))\/∃ae,H p=f7 (.dT ae)))\/(T="set"/\∃S n,H p=f7 (.set S n))
 |_=>False
theorem zjT {pins:List (Addr×Obj)} {σ:St} {H:Hp} {s:Shared} {T:String} {x:V} {v:Value} (I:Inv X pins σ H s) (r:zW x v) (ty:tyV X.K T x H):
  s.TypeIs v T/\∀a,v= .ref a->∃ob,s.heap.get? a=f7 ob/\ob.dict=gC:=by
 cases x with
 |str z=>
  obtain⟨t,rfl⟩:=r;cases (show T="str" from ty);exact⟨typeIs_str s z t,λ_ e=>nomatch e⟩
 |int i=>
  obtain⟨t,rfl⟩:=r;cases (show T="int" from ty);exact⟨typeIs_int s i t,λ_ e=>nomatch e⟩
 |ref p=>
  cases r;rcases ty with⟨rfl,xs,hq⟩|⟨rfl,o,hk,hc,hd⟩|⟨rfl,hk⟩|⟨rfl,S,n,hk⟩
  .obtain⟨ah,_,pl,_⟩:=I.list hq;refine⟨pl.isList.typeIs,λa e=> ?_⟩;cases e;obtain⟨o,n,e,c,hd,_⟩:=pl;exact⟨o,e,hd⟩
  .refine⟨⟨o,I.kIn p o hk,hc⟩,λa e=> ?_⟩;cases e;exact⟨o,I.kIn _ o hk,hd⟩
  .have z:∃o,s.heap.get? p=f7 o/\o.ExactDict:=by
    rcases hk with⟨ae,hk⟩|⟨ae,hk⟩
    .obtain⟨_,_,_,_,o,_,_,e,ex,_⟩:=hk.ok I.hok;exact⟨o,e,ex⟩
    .obtain⟨_,_,_,_,o,_,_,e,ex,_⟩:=I.hok p _ hk;exact⟨o,e,ex⟩
   obtain⟨o,e,ex⟩:=z;refine⟨⟨o,e,ex.1⟩,λa e2=> ?_⟩;cases e2;exact⟨o,e,ex.2.1⟩
  .obtain⟨o,_,_,_,e,ex,_⟩:=I.hok p _ hk;refine⟨⟨o,e,ex.1⟩,λa e2=> ?_⟩;cases e2;exact⟨o,e,ex.2.1⟩
 |_=>exact uW ty
def zpP (K:u5) (T:String) (r:V->List V->Hp->VK->Prop) (to:TE):TE:=λσ H Q=>to σ H λx H1=>tyV K T x H1/\r x [] H1 Q
def tBM (K:u5) (T:String) (r:V->List V->Hp->VK->Prop) (to:TE) (t:TA):TE:=λσ H Q=>to σ H λx H1=>tyV K T x H1/\t σ H1 λxs H2=>r x xs H2 Q
variable {o e:Expr} {es:List Expr} {to:TE} {t:TA} {name:Str} {apos cj:Pos} {T id:String} {r:V->List V->Hp->VK->Prop}
theorem zol (pa:PlainAttrs T) (slot:Slot T name id) (nC:typeOf (.builtin id)=pure (.type "method_descriptor")) (hm:MtR X id r) (ho:PE X o to)
  (iH:attributeBase o name X.env (eval o X.env)=eval o X.env:=by rfl) (hline:(apos.endLine==cj.line)=ia:=by rfl):PE X (.Call (.Attribute o name apos) [] [] cj) (zpP X.K T r to):=by
 intro pins s σ H Q I h;refine wpAny_Call_method0_late iH hline (thn (ho pins s σ H _ I h) ?_);rintro v s1 ⟨x,H1,I1,r1,ty,q1⟩;obtain⟨h1,h2⟩:=zjT I1 r1 ty;exact⟨T,id,pa,slot,nC,h1,h2,Calls.callWith_builtin rfl (PySem.evalArgs_none (hm pins s1 σ H1 x [] v [] Q I1 r1 .nil q1))⟩
theorem zc3 (pa:PlainAttrs T) (slot:Slot T name id) (nC:typeOf (.builtin id)=pure (.type "method_descriptor")) (hm:MtR X id r) (ho:PE X o to) (ha:PA X (e::es) t)
  (iH:attributeBase o name X.env (eval o X.env)=eval o X.env:=by rfl)
  (oh:((backTo cj (starEach (e::es) X.env)).all (λx=> !x.1)&&(backToKw cj (keywordEach [] X.env)).all (λx=>x.1.isSome)
   &&decide ((e::es).length+([]:List Keyword).length+(if ([]:List Keyword).isEmpty then 0 else 1)<30))=ia:=by rfl)
  (hline:(apos.endLine==cj.line)=ia:=by rfl) (hs:starEach (e::es) X.env=(kb,eval e X.env)::starEach es X.env:=by rfl) (jO:(backTo cj (starEach es X.env)).any (·.1)=kb:=by rfl):
  PE X (.Call (.Attribute o name apos) (e::es) [] cj) (tBM X.K T r to t):=by
 intro pins s σ H Q I h;refine wpAny_Call_method_late iH oh hline rfl (thn (ho pins s σ H _ I h) ?_);rintro v s1 ⟨x,H1,I1,r1,ty,q1⟩;obtain⟨h1,h2⟩:=zjT I1 r1 ty;refine⟨T,id,pa,slot,nC,h1,h2,?_⟩;have hA:=ha cj pins s1 σ H1 _ I1 q1;rw[hs] at hA ⊢;refine Calls.callWith_builtin (by show (kb||(backTo cj (starEach es X.env)).any (·.1))=kb;rw[jO]<;>rfl) (Calls.evalArgs_plain ?_);refine thn hA ?_;rintro us s2 ⟨vs,H2,I2,r2,q2⟩;exact hm pins s2 σ H2 x vs v us Q I2 r1 r2 q2
end
def MtM (X:Cx) (id:String) (r:V->List V->Hp->VK->Prop):Prop:=
 ∀(pins:List (Addr×Obj)) (s:Shared) (σ:St) (H:Hp) (x:V) (xs:List V) (v:Value) (us:List Value) (Q:VK),Inv X pins σ H s->zW x v->zZ xs us->r x xs H Q->
  wpAny (model X.prog X.w) X.A (call (.builtin id) (v::us)) (EP X pins σ Q) X.xe s
theorem zZ.one {x:V} {us:List Value} (h:zZ [x] us):∃u,us=[u]/\zW x u:=by
 cases h with
 |cons r t=>cases t;exact⟨_,rfl,r⟩
theorem zZ.zero:∀{us:List Value},zZ [] us->us=[]
 |_,.nil=>rfl
theorem zZ.dropLast {xs:List V} {us:List Value} (h:zZ xs us):zZ xs.dropLast us.dropLast:=by
 induction h with
 |nil=>exact .nil
 |cons r t ih=>
  cases t with
  |nil=>exact .nil
  |cons q t'=>exact .cons r ih
theorem zZ.reverse {xs:List V} {us:List Value} (h:zZ xs us):zZ xs.reverse us.reverse:=by
 induction h with
 |nil=>exact .nil
 |cons r t ih=>rw[Bo,Bo];exact zZ.append ih (.cons r .nil)
theorem zgB {α:Type} (l:List α):l.eraseIdx (l.length-1)=l.dropLast:=by
 induction l with
 |nil=>rfl
 |cons a r ih=>
  cases r with
  |nil=>rfl
  |cons b r=>
   have e:(a::b::r).length-1=((b::r).length-1)+1:=by
    have h1:(a::b::r).length=r.length+2:=rfl;have h2:(b::r).length=r.length+1:=rfl;omega
   rw[e,List.eraseIdx_cons_succ,ih]
   all_goals rfl
section
variable {X:Cx} {pins:List (Addr×Obj)} {σ:St} {H:Hp} {s:Shared} {l b:Addr} {xs ys zs:List V}
theorem Inv.lset {ah its':List Value} {n:Nat} {f:Array Value->Array Value} {t':Nat} (I:Inv X pins σ H s) (hH:H l=f7 (.lst xs))
  (e:s.heap.get? l=f7 {cls:= .type "list",data:= .seq ah.toArray n}) (hf:f ah.toArray=its'.toArray) (hv:zZ ys its') (hz:ys.length<=sizeLine):
  Inv X pins σ (upd H l (.lst ys)) {s with heap:=s.heap.update l (Obj.mapSeq f),toks:=t'}:=by
 have q:=PySem.IsL.update e f;rw[hf] at q;refine I.write (x:=l) (e:=l) (by rw[hH];exact trivial) (.inl rfl) (λb' u hb hu=>(Heap.get?_update_other s.heap (Obj.mapSeq f) (A8 hb)).trans hu) ⟨_,q⟩ ?_;exact⟨hz,its',_,hv,q⟩
theorem Inv.lstM (I:Inv X pins σ H s) (hH:H l=f7 (.lst xs)):xs.length<=sizeLine/\∃(ah:List Value) (n:Nat),zZ xs ah/\xs.length=ah.length/\s.heap.get? l=f7 {cls:= .type "list",data:= .seq ah.toArray n}:=by
 obtain⟨z,ah,n,r,e⟩:=I.hok l _ hH;exact⟨z,ah,n,r,r.length,e⟩
theorem zjU {n:Nat} (h:n<=sizeLine):Builtin.List.listTooLong n=kb:=by
 unfold Builtin.List.listTooLong;exact decide_eq_false ⋯
end
section
variable {X:Cx}
def zhL:V->List V->Hp->VK->Prop:=λx vs H Q=>∃l xs y,x= .ref l/\vs=[y]/\H l=f7 (.lst xs)/\xs.length<sizeLine/\Q .non (upd H l (.lst (xs++[y])))
theorem Uj:MtM X "list.append" zhL:=by
 intro pins s σ H x vs v us Q I rx rv h;obtain⟨l,xs,y,rfl,rfl,hH,hz,q⟩:=h;cases rx;obtain⟨u,rfl,ru⟩:=rv.one;obtain⟨z,ah,n,r,hl,e⟩:=I.lstM hH;refine call_meets F.slot_list_append ⟨_,e,rfl⟩ F.entry_list_append (F.args_list_append_2 _ _) (PySem.list_append l ah.toArray n u (by rw[uo];omega)) ⟨e,?_⟩;refine⟨.non,_,I.lset (its':=ah++[u]) hH e (by simp) (r.append (.cons ru .nil)) ?_,rfl,q⟩;rw[uD,List.length_singleton];omega
def zpQ:V->List V->Hp->VK->Prop:=λx vs H Q=>∃l xs y,x= .ref l/\vs=[]/\H l=f7 (.lst xs)/\xs[xs.length-1]? =f7 y/\Q y (upd H l (.lst xs.dropLast))
theorem zom:MtM X "list.pop" zpQ:=by
 intro pins s σ H x vs v us Q I rx rv h;obtain⟨l,xs,y,rfl,rfl,hH,hy,q⟩:=h;cases rx;have qZ:=rv.zero;subst qZ;obtain⟨z,ah,n,r,hl,e⟩:=I.lstM hH;obtain⟨u,hu,ru⟩:=r.get hy;have qS:ah.toArray[ah.toArray.size-1]? =f7 u:=by
  show ah.toArray[ah.length-1]? =f7 u;rw[<-AU,<-hl];exact hu
 refine call_meets F.slot_list_pop ⟨_,e,rfl⟩ F.entry_list_pop (F.args_list_pop_1 _) (MeetsSeq.list_pop_last l ah.toArray n u qS (by rw[uo];omega)) ⟨e,?_⟩;refine⟨y,_,I.lset (its':=ah.dropLast) hH e ?_ r.dropLast ?_,ru,q⟩
 .show ah.toArray.eraseIdxIfInBounds (ah.toArray.size-1)=ah.dropLast.toArray;rw[uo,List.eraseIdxIfInBounds_toArray,zgB]
 .rw[CF];omega
end
section
variable {prog:Program} {w:World} {A:Around} {E:Value->Shared->Prop} {s:Shared}
end
section
variable {X:Cx}
end
section
variable {κ:Type} [DecidableEq κ]
noncomputable def Vd (ae:List (κ×V)) (k:κ):Option V:=(ae.find? λkv=>decide (kv.1=k)).map (·.2)
noncomputable def zau (ae:List (κ×V)) (k:κ) (v:V):List (κ×V):=
 if (ae.any λkv=>decide (kv.1=k))=ia then ae.map (λkv=>if kv.1=k then (kv.1,v) else kv) else ae++[(k,v)]
theorem zby {p:κ×V} {r:List (κ×V)} {k:κ} (e:p.1=k):Vd (p::r) k=f7 p.2:=by simp[Vd,uL,e]
theorem zbz {p:κ×V} {r:List (κ×V)} {k:κ} (e:¬p.1=k):Vd (p::r) k=Vd r k:=by simp[Vd,uL,e]
theorem ze2 (k:κ):∀ae:List (κ×V),(ae.any λkv=>decide (kv.1=k))=(Vd ae k).isSome
 |[]=>rfl
 |p::r=>by
  rw[Ap];by_cases e:p.1=k
  .simp only[zby e,decide_eq_true e,Bool.true_or,Option.isSome_some]
  .rw[zbz e,decide_eq_false e,Bool.false_or];exact ze2 k r
theorem zaQ (ae:List (κ×V)) (k:κ) (v:V):(zau ae k v).length<=ae.length+1:=by
 unfold zau;split
 .rw[uw];omega
 .rw[uD,ux,A9];omega
theorem Wf.isSome_eq {o:Option V} {u:Option Value} (r:Wf o u):o.isSome=u.isSome:=by
 cases o with
 |none=>cases u with
  |none=>rfl
  |some _=>exact (show False from r).elim
 |some _=>cases u with
  |none=>exact (show False from r).elim
  |some _=>rfl
theorem KV.val {ae:List (κ×V)} {vs:List (κ×Value)} (r:KV ae vs) (k:κ):Wf (Vd ae k) (valueAt vs k):=by
 unfold KV at r
 induction r with
 |nil=>exact A5
 | @cons p q ps qs h t ih=>
  obtain⟨h1,h2⟩:=h;by_cases e:p.1=k
  .have e':q.1=k:=h1.symm.trans e;have b:valueAt (q::qs) k=f7 q.2:=by simp[valueAt,uL,e']
   rw[zby e,b];exact h2
  .have e':¬q.1=k:=λz=>e (h1.trans z);have b:valueAt (q::qs) k=valueAt qs k:=by simp[valueAt,uL,e']
   rw[zbz e,b];exact ih
theorem KV.any {ae:List (κ×V)} {vs:List (κ×Value)} (r:KV ae vs) (k:κ):(ae.any λkv=>decide (kv.1=k))=vs.any λkv=>decide (kv.1=k):=by
 unfold KV at r
 induction r with
 |nil=>rfl
 |cons h t ih=>rw[Ap,Ap,ih,h.1]
theorem KV.repl {ae:List (κ×V)} {vs:List (κ×Value)} (r:KV ae vs) (k:κ) {y:V} {u:Value} (ry:zW y u):
  KV (ae.map λkv=>if kv.1=k then (kv.1,y) else kv) (vs.map λkv=>if kv.1=k then (kv.1,u) else kv):=by
 unfold KV at r ⊢
 induction r with
 |nil=>exact .nil
 | @cons p q ps qs h t ih=>
  rw[uE,uE];refine .cons ?_ ih;obtain⟨h1,h2⟩:=h;by_cases e:p.1=k
  .rw[if_pos e,if_pos (h1.symm.trans e)];exact⟨h1,ry⟩
  .rw[if_neg e,if_neg (λz=>e (h1.trans z))];exact⟨h1,h2⟩
theorem KV.put {ae:List (κ×V)} {vs:List (κ×Value)} (r:KV ae vs) (k:κ) {y:V} {u:Value} (ry:zW y u):KV (zau ae k y) (stored vs k u):=by
 unfold zau stored;rw[r.any k];by_cases e:(vs.any λkv=>decide (kv.1=k))=ia
 .rw[if_pos e,if_pos e];exact r.repl k ry
 .rw[if_neg e,if_neg e];exact Paired.snoc r ⟨rfl,ry⟩
theorem KV.length {ae:List (κ×V)} {vs:List (κ×Value)} (r:KV ae vs):ae.length=vs.length:=Paired.length r
end
theorem zhM {P:Program} {w:World} {k:Key} {u:Value} (r:zW (kV k) u):(wL P w).is k u=ia:=by
 cases k with
 |inl i=>obtain⟨t,e⟩:=(show ∃t,u=Value.int i t from r);subst e;exact zeT P w i t
 |inr x=>obtain⟨t,e⟩:=(show ∃t,u=Value.str x t from r);subst e;exact zeU P w x t
theorem zc4 {P:Program} {w:World}:∀{ks:List Key} {us:List Value},zZ (ks.map kV) us->ItemsAre (wL P w) ks us
 |[],_,r=>by rw[CW] at r;cases r;exact .nil
 |k::ks,_,r=>by
  rw[uE] at r;cases r with
  |cons h t=>exact .cons (zhM h) (zc4 t)
noncomputable abbrev KT (H:Hp):List (List Key×V)->List (List Key×Addr×Value)->Prop:=Paired λp q=>p.1=q.1/\H q.2.1=f7 (.tup (p.1.map kV))/\zW p.2 q.2.2
theorem KT.val {H:Hp} {ae:List (List Key×V)} {xs:List (List Key×Addr×Value)} (r:KT H ae xs) (k:List Key):Wf (Vd ae k) ((atKey xs k).map (·.2)):=by
 induction r with
 |nil=>exact A5
 | @cons p q ps qs h t ih=>
  obtain⟨h1,_,h2⟩:=h;by_cases e:p.1=k
  .have e':q.1=k:=h1.symm.trans e;have b:atKey (q::qs) k=f7 q.2:=by simp[atKey,uL,e']
   rw[zby e,b];exact h2
  .have e':¬q.1=k:=λz=>e (h1.trans z);have b:atKey (q::qs) k=atKey qs k:=by simp[atKey,uL,e']
   rw[zbz e,b];exact ih
theorem KT.repl {H:Hp} {ae:List (List Key×V)} {xs:List (List Key×Addr×Value)} (r:KT H ae xs) (k:List Key) {y:V} {u:Value} (ry:zW y u):
  KT H (ae.map λkv=>if kv.1=k then (kv.1,y) else kv) (xs.map (putAt k u)):=by
 induction r with
 |nil=>exact .nil
 | @cons p q ps qs h t ih=>
  rw[uE,uE];refine .cons ?_ ih;obtain⟨h1,h2,h3⟩:=h;unfold putAt;by_cases e:p.1=k
  .rw[if_pos e,if_pos (h1.symm.trans e)];exact⟨h1,h2,ry⟩
  .rw[if_neg e,if_neg (λz=>e (h1.trans z))];exact⟨h1,h2,h3⟩
theorem KT.put {H:Hp} {ae:List (List Key×V)} {xs:List (List Key×Addr×Value)} (r:KT H ae xs) (k:List Key) {b:Addr} {y:V} {u:Value} (hb:H b=f7 (.tup (k.map kV))) (ry:zW y u):
  KT H (zau ae k y) (storedH xs k b u):=by
 have e:(ae.any λkv=>decide (kv.1=k))=(atKey xs k).isSome:=by
  rw[ze2,(r.val k).isSome_eq,Bp]
 unfold zau storedH;rw[e];by_cases q:(atKey xs k).isSome=ia
 .rw[if_pos q,if_pos q];exact r.repl k ry
 .rw[if_neg q,if_neg q];exact Paired.snoc r ⟨rfl,hb,ry⟩
theorem KT.keeps {H H':Hp} {ae:List (List Key×V)} {xs:List (List Key×Addr×Value)} (r:KT H ae xs) (ht:∀b ys,H b=f7 (.tup ys)->H' b=f7 (.tup ys)):KT H' ae xs:=
 Paired.mapP r λ_ _ z=>⟨z.1,ht _ _ z.2.1,z.2.2⟩
section
variable {P:Program} {w:World} {H:Hp} {h:Heap} {a:Addr}
theorem znC {u:HO} (ok:HOk P w H h) (e:Rd H a u):yN P w H h a u:=e.ok ok
theorem zhN {ae:List (Key×V)} (ok:HOk P w H h) (e:Rd H a (.dK ae)):ae.length<=sizeLine/\(a==sysModules)=kb/\∃vs,KV ae vs/\h.DictOf (wL P w) a vs:=
 show yN P w H h a (.dK ae) from znC ok e
theorem znD {ae:List (Key×V)} (ok:HOk P w H h) (e:H a=f7 (.dK ae)):ae.length<=sizeLine/\(a==sysModules)=kb/\∃vs,KV ae vs/\h.DictOf (wL P w) a vs:=zhN ok (.inl e)
theorem zdX {ks:List Key} (ok:HOk P w H h) (e:H a=f7 (.tup (ks.map kV))):(tupleKind (wL P w)).is h ks a:=by
 obtain⟨_,ah,r,o,h1,h2,n,h3⟩:=(show yN P w H h a (.tup (ks.map kV)) from ok a _ e);exact⟨o,ah.toArray,n,h1,h2,h3.1,by simpa using zc4 r⟩
theorem zhO {ae:List (List Key×V)} (ok:HOk P w H h) (e:Rd H a (.dT ae)):ae.length<=sizeLine/\(a==sysModules)=kb/\
  ∃xs,KT H ae xs/\h.DictOfH (tupleKind (wL P w)) a xs:=by
 obtain⟨z,y,xs,r,o,es,ep,h1,h2,h3,h4,h5⟩:=(show yN P w H h a (.dT ae) from znC ok e);refine⟨z,y,xs,r,o,es,ep,h1,h2,h3,h4,λx hx=> ?_,h5⟩;have all:∀{l:List (List Key×V)} {m:List (List Key×Addr×Value)},KT H l m->∀x∈m,(tupleKind (wL P w)).is h x.1 x.2.1:=by
  intro l m q
  induction q with
  |nil=>intro x hx;exact nomatch hx
  | @cons p q ps qs hq t ih=>
   intro x hx;rcases uy.mp hx with e|hx
   .subst e;exact zdX ok (by rw[<-hq.1];exact hq.2.1)
   .exact ih x hx
 exact all r x hx
theorem zpR {ae:List (List Key×V)} (ok:HOk P w H h) (e:H a=f7 (.dT ae)):ae.length<=sizeLine/\(a==sysModules)=kb/\
  ∃xs,KT H ae xs/\h.DictOfH (tupleKind (wL P w)) a xs:=zhO ok (.inl e)
end
def zav (H:Hp) (a:Addr) (y:V) (r:Option V):Prop:=
 (∃ae k,Rd H a (.dK ae)/\y=kV k/\r=Vd ae k)\/∃ae k b,Rd H a (.dT ae)/\y= .ref b/\H b=f7 (.tup (k.map kV))/\r=Vd ae k
def zgC (H:Hp) (a:Addr) (y v:V) (H':Hp):Prop:=
 (∃ae k,H a=f7 (.dK ae)/\y=kV k/\ae.length<sizeLine/\H'=upd H a (.dK (zau ae k v)))\/
 ∃ae k b,H a=f7 (.dT ae)/\y= .ref b/\H b=f7 (.tup (k.map kV))/\ae.length<sizeLine/\H'=upd H a (.dT (zau ae k v))
theorem zav.k {H:Hp} {a:Addr} {ae:List (Key×V)} {k:Key} (e:H a=f7 (.dK ae)):zav H a (kV k) (Vd ae k):= .inl ⟨ae,k,.inl e,rfl,rfl⟩
theorem zgC.k {H:Hp} {a:Addr} {ae:List (Key×V)} {k:Key} {v:V} (e:H a=f7 (.dK ae)) (hl:ae.length<sizeLine):zgC H a (kV k) v (upd H a (.dK (zau ae k v))):= .inl ⟨ae,k,e,rfl,hl,rfl⟩
section
variable {X:Cx} {pins:List (Addr×Obj)} {σ:St} {H:Hp} {s:Shared} {a:Addr} {y v:V} {u r:Value} {o:Option V} {A:Around} {E:Value->Shared->Prop}
theorem Inv.big (I:Inv X pins σ H s):sysModules<s.heap.objs.size:=by
 have h:mainGlobals<s.heap.objs.size:=(I.mod.glob.keeps I.bk).lt;exact Nat.lt_trans ∅ h
theorem zc5 {Q:Value->Shared->Prop} (hu:A.units+1<cLine) (I:Inv X pins σ H s) (g:zav H a y (f7 v)) (ry:zW y u) (h:∀w' s',Inv X pins σ H s'->zW v w'->Q w' s'):
  wpAny (model X.prog X.w) A (getItem (.ref a) u) Q E s:=by
 rcases g with⟨ae,k,e,ey,l⟩|⟨ae,k,b,e,ey,eb,l⟩
 .subst ey;obtain⟨z,hd,vs,rel,dd⟩:=zhN I.hok e;obtain⟨w',hw,rw'⟩:=Wf.some_of (v:=v) (o:=valueAt vs k) (by rw[l];exact rel.val k);exact wpAny_getItem_of (zhM ry) dd.mapOf hw (h w' _ (I.tok _) rw')
 .subst ey;cases (show u=Value.ref b from ry);obtain⟨z,hd,xs,rel,dd⟩:=zhO I.hok e;obtain⟨w',hw,rw'⟩:=Wf.some_of (v:=v) (o:=(atKey xs k).map (·.2)) (by rw[l];exact rel.val k);obtain⟨p,hp,nM⟩:=uI.mp hw;refine wpAny_getItem_heap (tupleKind_room_in1 hu) (zdX I.hok eb) dd hp ?_;rw[nM];exact h w' _ (I.tok _) rw'
theorem zhP {Q:Value->Shared->Prop} (hu:A.units+1<cLine) (I:Inv X pins σ H s) (g:zav H a y o) (ry:zW y u) (h:∀s',Inv X pins σ H s'->Q (.bool (!o.isSome)) s'):
  wpAny (model X.prog X.w) A (compareOp .NotIn u (.ref a)) Q E s:=by
 rcases g with⟨ae,k,e,ey,l⟩|⟨ae,k,b,e,ey,eb,l⟩
 .subst ey;obtain⟨z,hd,vs,rel,dd⟩:=zhN I.hok e;refine wpAny_notIn_of (zhM ry) hd dd.mapOf ?_;rw[<-(rel.val k).isSome_eq,<-l];exact h _ (I.tok _)
 .subst ey;cases (show u=Value.ref b from ry);obtain⟨z,hd,xs,rel,dd⟩:=zhO I.hok e;refine wpAny_notIn_heap (tupleKind_room_in1 hu) (zdX I.hok eb) hd dd ?_;have q:=(rel.val k).isSome_eq;rw[Bp] at q;rw[<-q,<-l];exact h _ (I.tok _)
theorem zbf {h':Heap} {t':Nat} {ob:HO} (I:Inv X pins σ H s) (mu:Mut (H a)) (hs:Heap.SameBut a s.heap h') (he:∃q,h'.get? a=f7 q) (new:yN X.prog X.w (upd H a ob) h' a ob):
  Inv X pins σ (upd H a ob) {s with heap:=h',toks:=t'}:=
 I.write (x:=a) (e:=a) mu (.inl rfl) (λb q hb z=>(hs.2 b hb).trans z) he new
theorem zon {P:Program} {w:World} {H':Hp} {h':Heap} {ae:List (Key×V)} {vs:List (Key×Value)} (z:ae.length<=sizeLine) (hd:(a==sysModules)=kb) (rel:KV ae vs) (dd:h'.DictOf (wL P w) a vs):
  yN P w H' h' a (.dK ae):=⟨z,hd,vs,rel,dd⟩
theorem zc6 {H':Hp} {Q:Unit->Shared->Prop} (hu:A.units+1<cLine) (I:Inv X pins σ H s) (g:zgC H a y v H') (ry:zW y u) (rv:zW v r) (h:∀s',Inv X pins σ H' s'->Q () s'):
  wpAny (model X.prog X.w) A (setItem (.ref a) u r) Q E s:=by
 rcases g with⟨ae,k,e,ey,l,eH⟩|⟨ae,k,b,e,ey,eb,l,eH⟩
 .subst ey eH;obtain⟨z,hd,vs,rel,dd⟩:=znD I.hok e;have hz:vs.length<=sizeLine:=by rw[<-rel.length];exact z
  have hl:(zau ae k v).length<=sizeLine:=by have:=zaQ ae k v;omega
  refine wpAny_setItem_pairs (hsz:=hz) (zhM ry) dd λh' dd' hs=>h _ ?_;have he:∃q,h'.get? a=f7 q:=let ⟨q,_,_,hq,_⟩:=dd';⟨q,hq⟩;exact zbf I (by rw[e];exact A5) hs he (zon hl hd (rel.put k rv) dd')
 .subst ey eH;cases (show u=Value.ref b from ry);obtain⟨z,hd,xs,rel,dd⟩:=zpR I.hok e;have hz:xs.length<=sizeLine:=by rw[<-Paired.length rel];exact z
  have hl:(zau ae k v).length<=sizeLine:=by have:=zaQ ae k v;omega
  refine wpAny_setItem_heap (hsz:=hz) (tupleKind_room_in1 hu) (zdX I.hok eb) dd λh' dd' hs=>h _ ?_;obtain⟨q,es,ep,hq,h2,h3,h4,_,h5⟩:=dd';refine zbf I (by rw[e];exact A5) hs ⟨q,hq⟩ ⟨hl,hd,_,(rel.put k eb rv).keeps λc ys ec=> ?_,q,es,ep,hq,h2,h3,h4,h5⟩;rw[zB (zpv ec e (λz=>nomatch z))];exact ec
end
section
variable {X:Cx} {pins:List (Addr×Obj)} {σ:St} {H:Hp} {s:Shared} {a:Addr} {ae:List (Key×V)} {k:Key} {u:Value} {A:Around} {E:Value->Shared->Prop}
end
def zoo (i:Expr):Prop:=∀ov iv,subscripted i kb ov iv=operate [ov,iv] (getItem ov iv)
theorem zhQ {prog:Program} {w:World} {A:Around} {E:Value->Shared->Prop} {s:Shared} {env:Env} {value slice:Expr} {pos:Pos} {T id:String} {Q:Value->Shared->Prop}
  (hl:typeLookup (.type T) "__getitem__"=pure (f7 (.builtin id))) (hs:zoo slice)
  (h:wpAny (model prog w) A (eval value env) (λo s₁=>wpAny (model prog w) A (eval slice env) (λi s₂=>s₂.TypeIs o T/\wpAny (model prog w) A (getItem o i) Q E s₂) E s₁) E s):
  wpAny (model prog w) A (eval (.Subscript value slice pos) env) Q E s:=by
 refine Subscript_ (wpAny_mono h (λo s₁ h₁=>wpAny_mono h₁ (λi s₂ h₂=> ?_) λ_ _ x=>x) λ_ _ x=>x);obtain⟨hT,h₂⟩:=h₂;unfold subscriptTail;refine wpAny_bind ?_;rw[getitemInPython_of_ne hT.not_modules];refine wpAny_bind (wpAny_specialOf hT hl ?_);have fin:wpAny (model prog w) A (subscripted slice kb o i) (λr s₃=>wpAny (model prog w) A (letTemporaryGo value o r>>=λ_=>pure r) Q E s₃) E s₂:=by
  rw[hs o i];exact wpAny_operating (wpAny_mono h₂ (λr s₃ h₃=>wpAny_bind (wpAny_letTemporaryGo (wpAny_pure h₃))) λ_ _ x=>x)
 first
  |exact wpAny_pure (wpAny_bind fin)
  |exact wpAny_bind (wpAny_pure (wpAny_bind fin))
  |exact wpAny_bind fin
theorem zaR {X:Cx} {pins:List (Addr×Obj)} {σ:St} {H:Hp} {s:Shared} {a:Addr} {y:V} {o:Option V} (I:Inv X pins σ H s) (g:zav H a y o):s.TypeIs (.ref a) "dict":=by
 rcases g with⟨ae,k,e,_,_⟩|⟨ae,k,b,e,_,_,_⟩
 .obtain⟨_,_,vs,_,dd⟩:=zhN I.hok e;exact dd.typeIs
 .obtain⟨_,_,xs,_,dd⟩:=zhO I.hok e;exact dd.typeIs
def znE (td ty:TE):TE:=λσ H Q=>td σ H λx H1=>ty σ H1 λy H2=>∃a v,x= .ref a/\zav H2 a y (f7 v)/\Q v H2
def zhR (ty td:TE):TE:=λσ H Q=>ty σ H λy H1=>td σ H1 λx H2=>∃a o,x= .ref a/\zav H2 a y o/\Q (.bl (!o.isSome)) H2
def znF (td ty tv:TE):TS:=λD σ H=>tv σ H λv H1=>td σ H1 λx H2=>ty σ H2 λy H3=>∃a H4,x= .ref a/\zgC H3 a y v H4/\D.nx σ H4
section
variable {X:Cx} {o i e value:Expr} {pos pos' kA:Pos} {td ty tv:TE}
theorem zme (hu:X.A.units+1<cLine) (ho:PE X o td) (hi:PE X i ty) (hs:zoo i):PE X (.Subscript o i pos) (znE td ty):=by
 intro pins s σ H Q I h;refine zhQ BX.lookup hs (thn (ho pins s σ H _ I h) ?_);rintro u s1 ⟨x,H1,I1,rx,q1⟩;refine thn (hi pins s1 σ H1 _ I1 q1) ?_;rintro iv s2 ⟨y,H2,I2,ry,a,v,ex,g,q2⟩;subst ex;obtain rfl:u=Value.ref a:=rx;exact⟨zaR I2 g,zc5 hu I2 g ry λw' s3 I3 rw'=>⟨v,H2,I3,rw',q2⟩⟩
theorem ziI (hu:X.A.units+1<cLine) (hi:PE X i ty) (ho:PE X o td):PC X .NotIn i o (zhR ty td):=by
 intro pins s σ H Q I h;refine thn (hi pins s σ H _ I h) ?_;rintro iv s1 ⟨y,H1,I1,ry,q1⟩;refine thn (ho pins s1 σ H1 _ I1 q1) ?_;rintro u s2 ⟨x,H2,I2,rx,a,ov,ex,g,q2⟩;subst ex;obtain rfl:u=Value.ref a:=rx;exact zhP hu I2 g ry λs3 I3=>⟨.bl (!ov.isSome),H2,I3,rfl,q2⟩
theorem zmf (hu:X.A.units+1<cLine) (ho:PE X o td) (hi:PE X i ty) (hv:PE X value tv) (hs:swapsWith value (f7 (.Subscript o i pos')) pos.line X.env=pure kb):
  PS X (.Assign [.Subscript o i pos'] value pos) (znF td ty tv):=by
 intro pins s σ H D I h;refine wpAny_Assign_Subscript (thn (hv pins s σ H _ I h) ?_) hs;rintro r s1 ⟨v,H1,I1,rv,q1⟩;refine thn (ho pins s1 σ H1 _ I1 q1) ?_;rintro u s2 ⟨x,H2,I2,rx,q2⟩;refine thn (hi pins s2 σ H2 _ I2 q2) ?_;rintro iv s3 ⟨y,H3,I3,ry,a,H4,ex,g,q3⟩;subst ex;obtain rfl:u=Value.ref a:=rx;exact zc6 hu I3 g ry rv λs4 I4=>⟨σ,H4,I4,q3⟩
end
theorem zjV {P:Program} {w:World} {H:Hp} (h:Heap) (hb:sysModules<h.objs.size):yN P w H (h.push {cls:= .type "dict",data:= .dict #[]}) h.objs.size (.dK []):=
 ⟨B7 _,beq_eq_false_iff_ne.mpr (A8 (uF hb)),[],.nil,Heap.DictOf.new h⟩
def zjW:TE:=λ_ H Q=>∀p,H p=gC->Q (.ref p) (upd H p (.dK []))
section
variable {X:Cx} {pos:Pos}
theorem Th:PE X (.Dict [] [] pos) zjW:=λpins s σ H Q I h=>
 wpAny_Dict_empty ⟨.ref s.heap.objs.size,_,I.laid (a:=s.heap.objs.size) (o:= .dK []) (t':=s.toks) (λ_ _ q=>Heap.get?_push_of_some _ q) (ug _) (zjV s.heap I.big),rfl,h _ (I.hok.fresh (ug _))⟩
end
noncomputable abbrev VV:List (V×V)->List (Value×Value)->Prop:=Paired λp q=>zW p.1 q.1/\zW p.2 q.2
structure M1 (X:Cx) (o:Expr) (m:Str) (apos:Pos) (e:Expr) (cj:Pos):Prop where
 base:attributeBase o m X.env (eval o X.env)=eval o X.env
 few:((backTo cj (starEach [e] X.env)).all (λx=> !x.1)&&(backToKw cj (keywordEach [] X.env)).all (λx=>x.1.isSome)
  &&decide (([e]:List Expr).length+([]:List Keyword).length+(if ([]:List Keyword).isEmpty then 0 else 1)<30))=ia
 line:(apos.endLine==cj.line)=ia
 trees:backTo cj (starEach [e] X.env)=[(kb,eval e X.env)]
structure M2 (X:Cx) (o:Expr) (m:Str) (apos:Pos) (e f:Expr) (cj:Pos):Prop where
 base:attributeBase o m X.env (eval o X.env)=eval o X.env
 few:((backTo cj (starEach [e,f] X.env)).all (λx=> !x.1)&&(backToKw cj (keywordEach [] X.env)).all (λx=>x.1.isSome)
  &&decide (([e,f]:List Expr).length+([]:List Keyword).length+(if ([]:List Keyword).isEmpty then 0 else 1)<30))=ia
 line:(apos.endLine==cj.line)=ia
 trees:backTo cj (starEach [e,f] X.env)=[(kb,eval e X.env),(kb,eval f X.env)]
section
variable {X:Cx} {pins:List (Addr×Obj)} {σ:St} {H:Hp} {s:Shared} {a:Addr} {y d:V} {u r:Value} {o:Option V} {A:Around} {E:Value->Shared->Prop}
end
section
variable {X:Cx} {o e f:Expr} {apos cj:Pos} {td ty tx:TE}
end
section
variable {X:Cx} {pins:List (Addr×Obj)} {σ:St} {H:Hp} {s:Shared} {a:Addr} {ae:List (Key×V)} {A:Around} {E:Value->Shared->Prop}
end
section
variable {X:Cx} {pins:List (Addr×Obj)} {σ:St} {H:Hp} {s:Shared} {a:Addr} {y:V} {u:Value} {A:Around} {E:Value->Shared->Prop}
end
end L2
namespace Att
open PySem PySem.W PySem.Calls PyProof.Rows
theorem zaZ {P:Params} {h:Heap}:∀(ns:List Int) (vs:List Value),WellAll P h vs (ns.map WData.int)->IntsAre vs ns:=by
 intro ns
 induction ns with
 |nil=>
  intro vs w;rw[CW] at w;cases w;exact .nil
 |cons n ns ih=>
  intro vs w;rw[uE] at w;cases w with
  |cons a b=>
   cases a;exact .cons _ _ (ih _ b)
theorem ziJ {l:OpenLaw} {n:Nat} (hn:l.most=f7 n) {P:Params} {h:Heap} {args:List WData} {vals:List Value}
  (j7:l.row.toRowW.claim.pre args=ia) (nA:WellAll P h vals args):
  ∃a vs ns,vals=[Value.ref a]/\args=[WData.list (ns.map WData.int)]/\h.get? a=f7 {cls:= .type "list",data:= .seq vs.toArray}/\IntsAre vs ns/\ns.length<=n:=by
 have rl:WShape.hasAll [] args [.list .int]=ia:=(pre_splitW j7).1;have hc:l.pre.holds [] {args:=args}=ia:=(pre_splitW j7).2;obtain⟨d,r,rfl,h1,h2⟩:=hasAllW_cons rl;obtain rfl:=hasAllW_nil h2;obtain⟨xs,rfl,h3⟩:=hasW_list h1;obtain⟨ns,rfl⟩:=items_int h3;have hlen:ns.length<=n:=by
  unfold OpenLaw.pre at hc;have h4:(WTm.not (.lt (.lit (.int (n:Int))) (.len (.arg 0)))).holds [] {args:=[.list (ns.map .int)]}=ia:=by
   have h4:=(holds_andW hc).1;rw[hn] at h4;exact h4
  have h5:=condW_of h4 (w_not (w_lt w_lit (w_len_list (w_arg rfl))));rw[uw] at h5;refine Nat.le_of_not_lt λq=> ?_;have q':(n:Int)<((ns.length:Nat):Int):=by omega
  first
   |(rw[decide_eq_true q'] at h5;exact absurd h5 ∅)
   |(simp at h5;omega)
 cases nA with
 |cons w1 w2=>
  cases w2;cases w1 with
  |list ho hV=>exact⟨_,_,ns,rfl,rfl,ho,zaZ ns _ hV,hlen⟩
theorem ziK (l:OpenLaw) (args:List WData):l.row.toRowW.claim.post args (.bool ia) args=ia:=
 postW_of (r:=l.row.toRowW) (X:=(ia==ia))
  (show WShape.has [] (.bool ia) .bool=ia by first|rfl|decide|simp[WShape.has,WShape.arms,WShape.armsAll])
  (show (WTm.eq .res (.lit (.bool ia))).value [] {args:=args,res:=f7 (.bool ia),after:=args}=f7 (.bool (ia==ia)) from w_eq_bool (w_res rfl) w_lit) rfl
theorem ze3 {l:OpenLaw} {n:Nat} {q:Program} {loose:List Str} {XP:(Str->Option Value)->Heap->Prop} {YP:World->Heap->Prop} {d:DefRec}
  (hn:l.most=f7 n) (lq:d.params.defaults=[])
  (call:∀(w:World) (s₀ s₁:Shared) (mg mb:Str->Option Value) (fa:Addr) (o:Obj) (pm cd doc:Value) (a:Addr) (vs:List Value) (ns:List Int),
   Ground q loose [] XP w s₀ mg mb s₁.heap->YP w s₁.heap->
   s₁.heap.get? fa=f7 o->o.data= .func (docDef d.name d.params d.body d.scope pm cd doc)->s₁.heap.CodeRec cd d.name->mg d.name=f7 (.ref fa)->
   s₁.heap.get? a=f7 {cls:= .type "list",data:= .seq vs.toArray}->IntsAre vs ns->ns.length<=n->s₁.gens= #[]->
   codeAny (model l.prog w) callerA (.call (.ref fa) ⟨[.ref a],[]⟩) (λr s'=>r= .ok (.ret (.bool ia))/\OldK s₁.heap s'.heap/\s'.os=s₁.os/\AllBare s'.gens) s₁):
  WalkO q loose XP YP l.row.toRowW d [] (λf vs=>Dj f vs):=by
 intro w s₀ s₁ mg mb G Y fa o pm cd doc dV kV ho hd dS hD jS hg args vals as j7 rN pz nA tJ;obtain rfl:dV= .none:=Dflts.none hD lq;obtain rfl:kV= .none:=Dflts.noKw hD;obtain⟨a,vs,ns,rfl,rfl,jQ,hints,hlen⟩:=ziJ hn j7 nA;refine enter_call (codeAny_mono (call w s₀ s₁ mg mb fa o pm cd doc a vs ns G Y ho (fd_plain hd) dS jS jQ hints hlen hg) λr s' hq=> ?_);obtain⟨rfl,h2,h3,h4⟩:=hq;exact⟨.inl ⟨.bool ia,.bool ia,[],rfl,λ_=>rfl,.bool ia,ziK l _,λ_=>⟨DG,λ_ hm=>(nomatch hm)⟩⟩,h2,h3,h4⟩
section
variable {prog:Program} {w:World} {A:Around} {E:Value->Shared->Prop} {s:Shared} {K:Frag}
end
end Att
namespace L2
open PySem PySem.Spec PyProof.Rows
theorem zc7:∀{vs:List Value} {ns:List Int},IntsAre vs ns->zZ (ns.map V.int) vs
 |_,_,.nil=> .nil
 |_,_,.cons n t h=> .cons ⟨t,rfl⟩ (zc7 h)
noncomputable abbrev KOf {K:u5} {h:Heap} (_:K.In h):u5:=K
end L2
namespace L2
open PySem PySem.Spec PyProof.Rows
noncomputable def yU (s:Stmt) (j:Nat):Stmt:=match s with
 | .ClassDef _ _ _ body _ _ _ _ _ _ _=>body.getD j (.Pass ⟨0,0,0,0⟩)
 |_=> .Pass ⟨0,0,0,0⟩
noncomputable def Wm (s:Stmt):Arguments:=match s with
 | .FunctionDef _ a _ _ _ _ _ _ _ _=>a
 |_=>{posonlyargs:=[],args:=[],vararg:=gC,kwonlyargs:=[],kw_defaults:=[],kwarg:=gC,defaults:=[]}
noncomputable def wZ (s:Stmt):List Stmt:=match s with
 | .FunctionDef _ _ b _ _ _ _ _ _ _=>b
 |_=>[]
noncomputable def ze (s:Stmt):Scope:=match s with
 | .FunctionDef _ _ _ _ _ _ sc _ _ _=>sc
 |_=>{kind:= .function,names:=[],isGenerator:=kb,isCoroutine:=kb}
noncomputable abbrev CX0:CXT:=λ_ _ _ _ _ _=>False
noncomputable abbrev E0:XK:=λ_ _ _=>False
structure Fun (K:u5) (x qual:Str) (st:Stmt) (f:Addr) (fd:FuncData):Prop where
 ex:∃(oc:Value) (od:Option Addr) (kV doc pm:Value) (an:Option Addr) (bT ct:Value) (gi:Array (Option Value)),
  fd=As x qual (Wm st) (wZ st) (ze st) .none kV doc pm an bT ct/\K.lookup f=f7 ⟨oc,od,.func fd,gi⟩/\Bg K bT qual=ia
 kp:Ag K (.ref f)=ia
section
variable {P:Program} {w:World} {K:u5} {mg:Str->Option Value} {base:Heap}
theorem Fun.binds {x qual:Str} {st:Stmt} {f:Addr} {fd:FuncData} {ps:List Str} (F:Fun K x qual st f fd)
  (h:∀(kV doc pm:Value) (an:Option Addr) (bT ct:Value) (us:List Value),us.length=ps.length->bindArgs (As x qual (Wm st) (wZ st) (ze st) .none kV doc pm an bT ct) ⟨us,[]⟩=pure (ps.zip us)):Vn K fd ps []:=by
 obtain⟨oc,od,kV,doc,pm,an,bT,ct,gi,rfl,lk,dS⟩:=F.ex;exact .all (h kV doc pm an bT ct)
theorem zjX {x qual:Str} {st:Stmt} {f:Addr} {oc:Value} {od an:Option Addr} {gi:Array (Option Value)} {kV doc pm bT ct:Value} (l:K.lookup f=f7 ⟨oc,od,.func (As x qual (Wm st) (wZ st) (ze st) .none kV doc pm an bT ct),gi⟩)
  (c:Bg K bT qual=ia) (k:Ag K (.ref f)=ia):Fun K x qual st f (As x qual (Wm st) (wZ st) (ze st) .none kV doc pm an bT ct):=⟨⟨oc,od,kV,doc,pm,an,bT,ct,gi,rfl,l,c⟩,k⟩
end
theorem zjY {A:Around} {k:Nat} (hr:xS k A):A.units+1<cLine:=uP (CP (by decide:1<=64) _) hr.units
section
variable {X:Cx}
theorem pv (i:Nat) {x:Str} {pos:Pos} (hN:X.N[i]? =f7 x:=by rfl) (hv:Vis X.env.scope x:=by first|exact uh rfl|exact A7 (uh rfl)|exact A7 (A7 rfl)) (hd:(x==("__debug__":Str))=kb:=by decide)
  (dS:(x==("__classdict__":Str))=kb:=by decide):PE X (.Name x pos) (zlX i):=zjA hN hv hd dS
end
def Xl (H H':Hp):Prop:=∀b o,H b=f7 o->H' b=f7 o
theorem Xl.refl (H:Hp):Xl H H:=λ_ _ h=>h
section
variable {κ:Type} [DecidableEq κ]
end
theorem Vo {prog:Program} {w:World} {A:Around} {elt iter tg:Expr} {ifs:List Expr} {scope:Scope} {pos:Pos} {it acc:Value} {env:Env} {s:Shared} {R:Result->Shared->Prop} (I:Nat->Shared->Prop)
  (turn:∀n s,I n s->wpAny (model prog w) A (pyNext it) (λr s₁=>match r with
   |none=>R (.ok .next) s₁
   |some v=>wpAny (model prog w) A (letOwnedTupleGo tg it v) (λ_ s₁'=>wpAny (model prog w) A (assign tg env v) (λ_ s₂=>
     wpAny (model prog w) A (forIn ifs ia λc r=>if r=ia then do let ok <-isTrue c env (eval c env);pure (AK ok) else pure (AK r)) (λok s₃=>
      if ok=ia then wpAny (model prog w) A (eval elt env) (λx s₄=>
       wpAny (model prog w) A (call (.builtin "list.append") [acc,x]) (λ_ s₅=>∃m,m<n/\I m s₅) (λ_ _=>False) s₄) (λ_ _=>False) s₃
      else ∃m,m<n/\I m s₃) (λ_ _=>False) s₂)
     (λ_ _=>False) s₁') (λ_ _=>False) s₁) (λ_ _=>False) s)
  (n:Nat) (h:I n s):codeAny (model prog w) A (.compLoop (.ListComp elt [⟨tg,iter,ifs,0⟩] scope pos) 0 it acc env) R s:=by
 refine codeAny_loop rfl I (λn s hI=> ?_) n h;show wpAny _ A ((compTurn (.ListComp elt [⟨tg,iter,ifs,0⟩] scope pos) 0 it acc env).onRaise (λx=>do noteFrame x env;theTreesLotGoes x)) _ _ s;refine wpAny_noted ?_;rw[compTurn_list];refine wpAny_bind (wpAny_standAt (wpAny_bind (wpAny_mono (turn n s hI) (λr s₁ h₁=> ?_) λ_ _ h'=>h'.elim)));cases r with
 |none=>exact wpAny_pure h₁
 |some v=>
  refine wpAny_bind (wpAny_mono h₁ (λ_ s₁' h₁'=> ?_) λ_ _ h'=>h'.elim);refine wpAny_bind (wpAny_mono h₁' (λ_ s₂ h₂=>wpAny_bind (wpAny_mono h₂ (λok s₃ h₃=> ?_) λ_ _ h'=>h'.elim)) λ_ _ h'=>h'.elim);cases ok with
  |false=>exact wpAny_pure ⟨rfl,h₃⟩
  |true=>
   exact wpAny_bind (wpAny_bind (wpAny_mono h₃ (λx s₄ h₄=>wpAny_bind (wpAny_mono h₄ (λ_ s₅ h₅=>wpAny_pure (wpAny_pure ⟨rfl,h₅⟩)) λ_ _ h'=>h'.elim)) λ_ _ h'=>h'.elim))
noncomputable def za0 (env:Env):List (Str×NameKind)->List (Str×Addr)->List (Str×Addr)
 |[],cs=>cs
 |(n,k)::r,cs=>za0 env r (if k== .free then (match env.cells.lookup n with|some c=>(n,c)::cs|none=>cs) else cs)
noncomputable def Wn (sc:Scope) (env:Env):List (Str×Addr):=za0 env sc.names []
theorem zbA {env:Env}:∀{ns:List (Str×NameKind)} {cs:List (Str×Addr)},(∀p∈cs,env.cells.lookup p.1=f7 p.2)->∀p∈za0 env ns cs,env.cells.lookup p.1=f7 p.2
 |[],_,h=>h
 |(n,k)::r,cs,h=>by
  unfold za0;refine zbA ?_;by_cases hk:(k== .free)=ia
  .rw[if_pos hk];cases e:env.cells.lookup n with
   |none=>exact h
   |some c=>
    intro p hp;rcases uy.mp hp with rfl|hp
    .exact e
    .exact h p hp
  .rw[if_neg hk];exact h
theorem ze4 {env:Env}:∀{ns:List (Str×NameKind)} {cs:List (Str×Addr)} {p:Str×Addr},p∈cs->p∈za0 env ns cs
 |[],_,_,h=>h
 |(n,k)::r,cs,p,h=>by
  unfold za0;refine ze4 ?_;by_cases hk:(k== .free)=ia
  .rw[if_pos hk];cases env.cells.lookup n with
   |none=>exact h
   |some c=>exact uj _ h
  .rw[if_neg hk];exact h
theorem ze5 {env:Env} {x:Str} {c:Addr} (e:env.cells.lookup x=f7 c):∀{ns:List (Str×NameKind)} {cs:List (Str×Addr)},(x,NameKind.free)∈ns->(x,c)∈za0 env ns cs
 |[],_,h=>by cases h
 |(n,k)::r,cs,h=>by
  unfold za0;rcases uy.mp h with h|h
  .injection h with h1 h2
   subst h1 h2;refine ze4 ?_;rw[if_pos (by rfl),e];exact uv
  .exact ze5 e h
theorem Ux:∀{l:List (Str×Addr)} {x:Str} {c:Addr},(x,c)∈l->∃d,l.lookup x=f7 d
 |[],_,_,h=>by cases h
 |(n,d)::r,x,c,h=>by
  rw[y3];cases e:x==n with
  |true=>exact⟨d,rfl⟩
  |false=>
   rcases uy.mp h with h|h
   .injection h with h1 h2
    subst h1;simp at e
   .exact Ux h
theorem wb {sc:Scope} {env:Env} {x:Str} {c:Addr} (e:(Wn sc env).lookup x=f7 c):env.cells.lookup x=f7 c:=
 zbA (cs:=[]) (λp hp=>by cases hp) (x,c) (w5 e)
theorem Ti {sc:Scope} {env:Env} {x:Str} {c:Addr} (h:(x,NameKind.free)∈sc.names) (e:env.cells.lookup x=f7 c):(Wn sc env).lookup x=f7 c:=by
 obtain⟨d,hd⟩:=Ux (ze5 (cs:=[]) e h);have:=wb (sc:=sc) hd;rw[e] at this;cases this;exact hd
theorem zcC {sc:Scope} {env:Env} (h:∀y∈sc.names,y.2= .free->∃c,env.cells.lookup y.1=f7 c):closureFor sc env=pure (Wn sc env):=by
 unfold Wn closureFor;generalize sc.names=ns at h
 suffices hh:∀cs:List (Str×Addr),(forIn ns cs (λ(x:Str×NameKind) (r:List (Str×Addr))=>
    (match x with
     |(name,kind)=>if (kind==NameKind.free)=ia then (cellOf env name>>=λc=>pure (AK ((name,c)::r))) else pure (AK r):Sem (ForInStep (List (Str×Addr)))))>>=λr=>pure r:Sem (List (Str×Addr)))=pure (za0 env ns cs) from hh []
 induction ns with
 |nil=>intro cs;rfl
 |cons p r ih=>
  intro cs;obtain⟨n,k⟩:=p;rw[List.forIn_cons];unfold za0;have ih':=ih λy hy=>h y (uj _ hy);by_cases hk:(k== .free)=ia
  .obtain⟨c,hc⟩:=h (n,k) uv (by simpa using hk);have hc:env.cells.lookup n=f7 c:=hc;have h1:cellOf env n=pure c:=by unfold cellOf;rw[hc]
   simp only[hk,if_true,h1,hc,pure_bind];exact ih' _
  .simp only[hk,if_false,pure_bind];exact ih' _
noncomputable def wC (X:Cx) (N':List Str) (sc:Scope) (C:Addr) (s₀:Shared) (H₀:Hp) (fp:List Addr):Cx where
 prog:=X.prog
 w:=X.w
 K:=X.K
 mg:=X.mg
 base:=X.base
 A:=X.A
 N:=N'
 s₀:=s₀
 H₀:=H₀
 env:=compEnvC sc (Wn sc X.env) C X.env
 outer:=X.stack
 stack:=X.stack
 ex:=fp
 fn:=λ_=>kb
 zn:=λ_=>kb
 calm:=X.calm
 pn:=[]
 xe:=λ_ _=>False
theorem ZJ {env:Env}:∀{names:List (Str×NameKind)} {x:Str},names.lookup x=f7 .free->
  (names.map λ(n,k)=>if (k==NameKind.free&&env.scope.kind== .function&&env.kindOf n==f7 .cell) then (n,NameKind.cell) else (n,k)).lookup x=f7 .cell\/
  (names.map λ(n,k)=>if (k==NameKind.free&&env.scope.kind== .function&&env.kindOf n==f7 .cell) then (n,NameKind.cell) else (n,k)).lookup x=f7 .free
 |[],_,h=>by simp at h
 |(n,k)::r,x,h=>by
  have ih:= @ZJ env r x;show Ar x ((if (k==NameKind.free&&env.scope.kind== .function&&env.kindOf n==f7 .cell)=ia then (n,NameKind.cell) else (n,k))::_)=_\/Ar x ((if (k==NameKind.free&&env.scope.kind== .function&&env.kindOf n==f7 .cell)=ia then (n,NameKind.cell) else (n,k))::_)=_;cases hx:x==n with
  |true=>
   simp only[y3,hx] at h;cases h;by_cases hc:(NameKind.free==NameKind.free&&env.scope.kind== .function&&env.kindOf n==f7 .cell)=ia
   .rw[if_pos hc];left;simp[y3,hx]
   .rw[if_neg hc];right;simp[y3,hx]
  |false=>
   simp only[y3,hx] at h;by_cases hc:(k==NameKind.free&&env.scope.kind== .function&&env.kindOf n==f7 .cell)=ia
   .rw[if_pos hc];simp only[y3,hx];exact ih h
   .rw[if_neg hc];simp only[y3,hx];exact ih h
theorem YQ {env:Env} {x:Str} {k:NameKind} (hk:k= .cell\/k= .free):∀{names:List (Str×NameKind)},(∀y∈names,y.2≠ .cell)->
  (names.map λ(n,k)=>if (k==NameKind.free&&env.scope.kind== .function&&env.kindOf n==f7 .cell) then (n,NameKind.cell) else (n,k)).lookup x=f7 k->(x,NameKind.free)∈names
 |[],_,h=>by simp at h
 |(n,j)::r,hc,h=>by
  have hr:∀y∈r,y.2≠ .cell:=λy hy=>hc y (uj _ hy);have h:Ar x ((if (j==NameKind.free&&env.scope.kind== .function&&env.kindOf n==f7 .cell)=ia then (n,NameKind.cell) else (n,j))::_)=_:=h;by_cases hj:(j==NameKind.free&&env.scope.kind== .function&&env.kindOf n==f7 .cell)=ia
  .rw[if_pos hj,y3] at h;have rW:j= .free:=by
    simp only[uX,beq_iff_eq] at hj;exact hj.1.1
   cases hx:x==n with
   |true=>
    rw[eq_of_beq hx,<-rW];exact uv
   |false=>
    rw[hx] at h;exact uj _ (YQ hk hr h)
  .rw[if_neg hj,y3] at h;cases hx:x==n with
   |true=>
    rw[hx] at h;have h':j=k:=uK h;have rS:j≠ .cell:=hc (n,j) uv;rcases hk with e|e
    .exact absurd (h'.trans e) rS
    .rw[eq_of_beq hx];have:j= .free:=h'.trans e;rw[this];exact uv
   |false=>
    rw[hx] at h;exact uj _ (YQ hk hr h)
def vy (X:Cx) (sc:Scope):List (Option Nat)->List Str->Prop
 |[],[]=>True
 |none::r,_::n=>vy X sc r n
 |some i::r,x::n=>(X.N[i]? =f7 x/\sc.names.lookup x=f7 .free)/\vy X sc r n
 |_,_=>False
noncomputable def Yf (cap:List (Option Nat)) (σ:St):St:=cap.map λo=>o.bind λi=>(σ[i]?).join
theorem vy.at {X:Cx} {sc:Scope}:∀{cap:List (Option Nat)} {N':List Str},vy X sc cap N'->∀(j i:Nat) (x:Str),cap[j]? =f7 (f7 i)->N'[j]? =f7 x->X.N[i]? =f7 x/\sc.names.lookup x=f7 .free
 |[],[],_,j,i,x,h,_=>by simp at h
 |none::r,y::n,c,0,i,x,h,_=>by simp at h
 |none::r,y::n,c,j+1,i,x,h,h2=>vy.at (cap:=r) c j i x (by simpa using h) (by simpa using h2)
 |some k::r,y::n,c,0,i,x,h,h2=>by
  simp at h h2;subst h h2;exact c.1
 |some k::r,y::n,c,j+1,i,x,h,h2=>vy.at (cap:=r) c.2 j i x (by simpa using h) (by simpa using h2)
theorem vy.len {X:Cx} {sc:Scope}:∀{cap:List (Option Nat)} {N':List Str},vy X sc cap N'->cap.length=N'.length
 |[],[],_=>rfl
 |none::r,y::n,c=>by simpa using vy.len (cap:=r) (N':=n) c
 |some k::r,y::n,c=>by simpa using vy.len (cap:=r) (N':=n) c.2
theorem zc8 {cap:List (Option Nat)} {σ:St} {j:Nat} {v:V} (h:(Yf cap σ)[j]? =f7 (f7 v)):∃i,cap[j]? =f7 (f7 i)/\σ[i]? =f7 (f7 v):=by
 unfold Yf at h;rw[uf] at h;cases e:cap[j]? with
 |none=>rw[e] at h;cases h
 |some o=>
  rw[e] at h;cases o with
  |none=>simp at h
  |some i=>
   refine⟨i,rfl,?_⟩;simp only[Aa,uz,uQ] at h;cases q:σ[i]? with
   |none=>rw[q] at h;simp at h
   |some z=>rw[q] at h;simp at h;rw[h]
def PTs (X:Cx) (ifs:List Expr) (t:TT):Prop:=
 ∀(pins:List (Addr×Obj)) (s:Shared) (σ:St) (H:Hp) (Q:Bool->Hp->Prop),Inv X pins σ H s->t σ H Q->
  wpAny (model X.prog X.w) X.A (forIn ifs ia λc r=>if r=ia then do let ok <-isTrue c X.env (eval c X.env);pure (AK ok) else pure (AK r)) (TP X pins σ Q) X.xe s
theorem yB {X:Cx}:PTs X [] (λ_ H Q=>Q ia H):=λ_ _ _ H _ I h=>wpAny_tests_nil ⟨H,I,h⟩
def zjZ (cap:List (Option Nat)) (g:TG) (tt:TT) (te:TE) (J:It) (σ:St) (acc:Addr) (H0:Hp) (Q:Hp->Prop):Prop:=
 ∃W:Nat->Nat->List V->Hp->Prop,(∃m,W 0 m [] (upd H0 acc (.lst [])))/\∀i m ys H,W i m ys H->
  (J.stop i H/\Q H)\/(J.go i H/\∀x H',J.yld i H x H'->g x (Yf cap σ) H' λσ2 H2=>tt σ2 H2 λb H3=>
   if b=ia then te σ2 H3 λv H4=>H4 acc=f7 (.lst ys)/\ys.length<sizeLine/\∃m',m'<m/\W (i+1) m' (ys++[v]) (upd H4 acc (.lst (ys++[v])))
   else ∃m',m'<m/\W (i+1) m' ys H3)
def zj0 (cap:List (Option Nat)) (wi:TI) (g:TG) (tt:TT) (te:TE):TE:=λσ H Q=>wi σ H λJ H1=>∀acc,H1 acc=gC->zjZ cap g tt te J σ acc H1 λH2=>Q (.ref acc) H2
def ze6 (i:Nat) (cap:List (Option Nat)) (wi:TI) (g:TG) (tt:TT) (te:TE):TS:=λD σ H=>wi σ H λJ H1=>∀acc,H1 acc=gC->zjZ cap g tt te J σ acc H1 λH2=>D.nx (σ.set i (f7 (.ref acc))) H2
structure Wo (X:Cx) (sc:Scope):Prop where
 cell:∀y∈sc.names,y.2≠ .cell
 kind:sc.kind= .function
 names:∀y∈sc.names,y.2= .local->sc.names.lookup y.1=f7 .local
 free:∀y∈sc.names,y.2= .free->X.env.kindOf y.1=f7 .cell\/X.env.kindOf y.1=f7 .free
section
variable {X:Cx} {elt tg iter:Expr} {ifs:List Expr} {sc:Scope} {pos:Pos} {wi:TI} {g:TG} {tt:TT} {te:TE} {N':List Str} {cap:List (Option Nat)}
theorem Inv.closure {pins:List (Addr×Obj)} {σ:St} {H:Hp} {s:Shared} (I:Inv X pins σ H s) (B:Wo X sc):closureFor sc X.env=pure (Wn sc X.env):=
 zcC λy hy e=>I.ok.has y.1 (B.free y hy e)
theorem ziL {pins:List (Addr×Obj)} {σ:St} {H:Hp} {s:Shared} {h₁:Heap} {t':Nat} {fp:List Addr} {acc C:Addr} {s₀:Shared} {m:Str->Option Value}
  (I:Inv X pins σ H s) (B:Wo X sc) (cp:vy X sc cap N') (hf:∀b∈fp,zeY X pins H b) (ku:∀b∈fp,b<s.heap.objs.size) (dD:acc=s.heap.objs.size) (ho:s₀.os=s.os) (o8:s₀.gens=s.gens)
  (h0:s₀.heap=s.heap.push {cls:= .type "list",data:= .seq #[]}) (hC:C=s₀.heap.objs.size)
  (dE:h₁.Ns C m) (iB:∀b o,s₀.heap.get? b=f7 o->h₁.get? b=f7 o):
  Inv (wC X N' sc C s₀ (upd H acc (.lst [])) fp) [] (Yf cap σ) (upd H acc (.lst [])) {s₀ with heap:=h₁,toks:=t'}:=by
 have mh:H acc=gC:=I.hok.fresh (Az dD.symm);have jh:∀b o,s.heap.get? b=f7 o->s₀.heap.get? b=f7 o:=λb o e=>by rw[h0];exact Heap.get?_push_of_some _ e
 have mL:s₀.heap.objs.size=s.heap.objs.size+1:=by rw[h0,Heap.size_push]
 have I0:Inv X pins σ (upd H acc (.lst [])) {s with heap:=s₀.heap,toks:=s.toks}:=I.laid jh (Az dD.symm) ⟨B7 _,[],0,.nil,by rw[h0,dD];exact Heap.get?_push_size _ rfl⟩;have CX':∀b,b<s.heap.objs.size->b≠C:=λb hb=>uF (by rw[hC,mL];exact D3 hb);have CA:∀b,b<s.heap.objs.size->b≠acc:=λb hb=>uF (by rw[dD];exact hb);have cellLt:∀x c,X.env.cells.lookup x=f7 c->c<s.heap.objs.size:=λx c e=>by
  obtain⟨v,o,q,_⟩:=I.cell x c e;exact Heap.lt_size q
 refine⟨⟨I.ok.mod,B.kind,I.ok.glob,I.ok.blt,Az hC.symm,λx y c h1 h2=>I.ok.inj x y c (wb h1) (wb h2),λx hx=> ?_,λx c h=>(h.elim (λz=>AA z) λz=>AA z),I.ok.hd,I.ok.frames,.inl rfl,λb hb=>⟨CX' b (ku b hb),λx c e=>(hf b hb).2.2.2.2.1 x c (wb e)⟩,
   λb o e=> ?_,?_,λb o e hb=> ?_,λb hb hz=> ?_,I0.stack,I0.stkFree⟩,
  rfl,?_,Un.kept iB,⟨m,dE,λj x v h1 h2 h3=> ?_⟩,λx c e=> ?_,?_,λx c e=> ?_,λp hp=>absurd (show p∈([]:List (Addr×Obj)) from hp) (by simp),I0.hok.kept iB,?_⟩
 .have hm:(x,NameKind.free)∈sc.names:=by
   rcases hx with hx|hx
   .exact YQ (env:=X.env) (.inl rfl) B.cell hx
   .exact YQ (env:=X.env) (.inr rfl) B.cell hx
  obtain⟨c,hc⟩:=I.ok.has x (B.free _ hm rfl);exact⟨c,Ti hm hc⟩
 .obtain⟨e1,e2⟩:=I.bs b o e;exact⟨jh b o e1,by show upd H acc (.lst []) b=gC;rw[zB (CA b (Heap.lt_size e1))];exact e2⟩
 .exact uC I.ok.bsz (uC I.sz (by show _<=s₀.heap.objs.size;omega))
 .rcases (hf b hb).2.2.2.1 with z|z
  .exact I.ok.noex b o e z
  .exact absurd (uB (Heap.lt_size e) (uC I.ok.bsz z)) (Ao _)
 .rcases uy.mp (I.stkSub b hz) with e|e
  .exact (hf b hb).2.1 e
  .exact (hf b hb).2.2.1 e
 .show AllBare s₀.gens;rw[o8];exact I.bare
 .obtain⟨i,e1,e2⟩:=zc8 h2;obtain⟨e3,e4⟩:=cp.at j i x e1 h1;have hm:(x,NameKind.free)∈sc.names:=w5 e4;have hk:=B.free _ hm rfl;obtain⟨m0,tG,hl⟩:=I.loc;obtain⟨u,r,l⟩:=hl i x v e3 e2 (by rcases hk with k|k;exact .inr (.inl k);exact .inr (.inr k));refine⟨u,r,.inr ?_⟩;rcases l with⟨k,_⟩|⟨_,c,hc,o,q,d⟩
  .rcases hk with k'|k'
   .rw[k] at k';cases k'
   .rw[k] at k';cases k'
  .exact⟨ZJ (env:=X.env) e4,c,Ti hm hc,o,iB c o (jh c o q),d⟩
 .obtain⟨v,o,q,d⟩:=I.cell x c (wb e);exact⟨v,o,iB c o (jh c o q),d⟩
 .show upd H acc (.lst []) C=gC;rw[zB (by rw[hC,dD,mL];exact Nat.succ_ne_self _)];exact I.hok.fresh (by rw[hC,mL];exact Br _)
 .show upd H acc (.lst []) c=gC\/(kb=kb/\∃o,upd H acc (.lst []) c=f7 (.frz o (.own 0)));rw[zB (CA c (cellLt x c (wb e)))];exact (I.freeC x c (wb e)).imp (λz=>z) λz=>⟨rfl,z.2⟩
 .show (Yf cap σ).length=N'.length;unfold Yf;rw[uw];exact cp.len
def Kp (σ0 σ:St):Prop:=σ.length=σ0.length/\∀(j:Nat) v,σ0[j]? =f7 (f7 v)->σ[j]? =f7 (f7 v)
def zmg (cap:List (Option Nat)) (g:TG):Prop:=∀σ0 σ x H Q,Kp (Yf cap σ0) σ->g x σ H Q->g x σ H λσ2 H2=>Q σ2 H2/\Kp (Yf cap σ0) σ2
theorem yf {i:Nat} (h:cap[i]? =f7 gC):zmg cap (zhE i):=λσ0 σ x H Q k q=>by
 refine⟨q,by rw[AJ];exact k.1,λj v e=> ?_⟩;have:j≠i:=by
  rintro rfl;obtain⟨i',e1,_⟩:=zc8 e;rw[h] at e1;cases e1
 rw[AX (A8 this)];exact k.2 j v e
theorem zc9 {pins:List (Addr×Obj)} {σ:St} {H:Hp} {s:Shared} {use:Option (Value->Sem Unit)} {Q:Value->Shared->Prop} {R:Addr->Hp->Prop} {p:Pos}
  (hc:X.calm=ia) (B:Wo X sc) (cp:vy X sc cap N') (hi:PI X tg iter wi) (ow:zmg cap g)
  (hg:∀C s₀ H₀ fp,PG (wC X N' sc C s₀ H₀ fp) tg g) (ht:∀C s₀ H₀ fp,PTs (wC X N' sc C s₀ H₀ fp) ifs tt) (he:∀C s₀ H₀ fp,PE (wC X N' sc C s₀ H₀ fp) elt te)
  (hs:∀x,foldedSetIterable iter X.env x=pure x)
  (I:Inv X pins σ H s) (h:wi σ H λJ H1=>∀acc,H1 acc=gC->zjZ cap g tt te J σ acc H1 (R acc))
  (fin:∀(acc C:Addr) (H':Hp) (s':Shared) (m:Str->Option Value),Inv X pins σ H' s'->s'.heap.Ns C m->C≠X.env.locals->
   (∀{σ':St} {s'':Shared},Inv X pins σ' H' s''->∀h',Heap.SameBut C s''.heap h'->Inv X pins σ' H' {s'' with heap:=h'})->
   R acc H'->compPost (model X.prog X.w) X.A X.xe use Q (.ref acc) C (.ok .next) s'):
  wpAny (model X.prog X.w) X.A (comprehension (.ListComp elt [⟨tg,iter,ifs,0⟩] sc pos) sc X.env p (newList []) kb (eval iter X.env) use) Q X.xe s:=by
 refine wpAny_comprehension_free rfl hs (I.closure B) B.kind B.names (thn (hi pins s σ H _ I h) λxv s1 h1=>thn h1 λmX s2 h2=> ?_);obtain⟨it,fp,tn,J,H2,e,I2,T,kD,f2,r2⟩:=h2;subst e;have pS:∀b∈fp,b<s2.heap.objs.size:=λb hb=>by
  obtain⟨o,e,_⟩:=T.obj _ _ kD b hb;exact Heap.lt_size e
 refine wpAny_newObj_type (wpAny_newFunctionEnv B.cell (by intro y hy;simp at hy) (λh₁ hns₁ hsb₁=> ?_) B.kind);dsimp only at hns₁ hsb₁ ⊢;obtain⟨s₀,fT⟩:∃s₀:Shared,s₀={s2 with heap:=s2.heap.push {cls:= .type "list",dict:=gC,data:= .seq ([]:List Value).toArray}}:=⟨_,rfl⟩;have e0h:s₀.heap=s2.heap.push {cls:= .type "list",data:= .seq #[]}:=by rw[fT]
 obtain⟨C,eC⟩:∃C:Addr,C=s₀.heap.objs.size:=⟨_,rfl⟩;obtain⟨acc,eA⟩:∃a:Addr,a=s2.heap.objs.size:=⟨_,rfl⟩;rw[show (s2.heap.push {cls:= .type "list",dict:=gC,data:= .seq ([]:List Value).toArray}).objs.size=C by rw[eC,e0h]] at hns₁ hsb₁ ⊢;have keep₁:∀b o,s₀.heap.get? b=f7 o->h₁.get? b=f7 o:=λb o e=>by
  refine hsb₁.extBut b o ?_ ?_
  .rw[eC];exact uF (Heap.lt_size e)
  .rw[e0h] at e;exact Heap.get?_push_of_some _ e
 have lO:C=s2.heap.objs.size+1:=by rw[eC,e0h,Heap.size_push]
 have jh:∀b o,s2.heap.get? b=f7 o->s₀.heap.get? b=f7 o:=λb o e=>by rw[e0h];exact Heap.get?_push_of_some _ e
 have pR:H2 acc=gC:=I2.hok.fresh (Az eA.symm);show codeAny (model X.prog X.w) X.A (.compStart (.ListComp elt [⟨tg,iter,ifs,0⟩] sc pos) 0 (.ref it) (.ref s2.heap.objs.size) (compEnvC sc (Wn sc X.env) C X.env))
  (compPost (model X.prog X.w) X.A X.xe use Q (.ref s2.heap.objs.size) C) {s2 with heap:=h₁,toks:=s2.toks+([]:List (Str×Value)).length}
 rw[<-eA];have oH:({s2 with heap:=h₁,toks:=s2.toks+([]:List (Str×Value)).length}:Shared)={s₀ with heap:=h₁,toks:=s2.toks+([]:List (Str×Value)).length}:=by rw[fT]
 rw[oH];obtain⟨W,⟨m0,w0⟩,turn⟩:=r2 acc pR;have Ib:Inv (wC X N' sc C s₀ (upd H2 acc (.lst [])) fp) [] (Yf cap σ) (upd H2 acc (.lst [])) {s₀ with heap:=h₁,toks:=s2.toks+([]:List (Str×Value)).length}:=
  ziL I2 B cp f2 pS eA (by rw[fT]) (by rw[fT]) e0h eC hns₁ keep₁
 have stat:∀{H':Hp},(∀b∈fp,H' b=gC)->∀b∈fp,zeY (wC X N' sc C s₀ (upd H2 acc (.lst [])) fp) [] H' b:=λhn b hb=>
  ⟨hn b hb,(Ib.ok.exf b hb).1,Ib.ok.exfs b hb,.inl hb,λx c e=>(Ib.ok.exf b hb).2 x c e,λp hp=>absurd (show p∈([]:List (Addr×Obj)) from hp) (by simp)⟩
 have sN:∀b∈fp,upd H2 acc (.lst []) b=gC:=λb hb=>by
  rw[zB (by rw[eA];exact uF (pS b hb))];exact (f2 b hb).1
 have loop:codeAny (model X.prog X.w) X.A (.compLoop (.ListComp elt [⟨tg,iter,ifs,0⟩] sc pos) 0 (.ref it) (.ref acc) (compEnvC sc (Wn sc X.env) C X.env))
   (compPost (model X.prog X.w) X.A X.xe use Q (.ref acc) C) {s₀ with heap:=h₁,toks:=s2.toks+([]:List (Str×Value)).length}:=by
  refine Vo (λn s'=>∃i ys H',Inv (wC X N' sc C s₀ (upd H2 acc (.lst [])) fp) [] (Yf cap σ) H' s'/\tn i s'.heap/\(∀b∈fp,H' b=gC)/\W i n ys H') ?_ m0
   ⟨0,[],_,Ib,T.keep _ _ _ kD λb hb o e=>keep₁ b o (jh b o e),sN,w0⟩
  rintro n s3 ⟨i,ys,H3,I3,kC,lB,w3⟩;rcases turn i n ys H3 w3 with⟨stop,qn⟩|⟨go,step⟩
  .refine thn (T.done (wC X N' sc C s₀ (upd H2 acc (.lst [])) fp) rfl rfl rfl hc i [] s3 _ H3 (λ_ _=>False) I3 (stat lB) kC stop) λr s4 ⟨hr,I4⟩=> ?_;subst hr;have u0:Un (frs X.stack) fp H2 (upd H2 acc (.lst [])) s2.heap s₀.heap:=Un.laid jh (Az eA.symm) pR;have un:Un (frs X.stack) fp H2 H3 s2.heap s4.heap:=u0.trans I4.base;have I5:Inv X pins σ H3 s4:=I2.call' (by rw[I4.os];show s₀.os=_;rw[fT]) un I4.hok I4.bare λb hb=>⟨(f2 b hb).2.2.2.1,(f2 b hb).2.1,(f2 b hb).2.2.2.2.1,(f2 b hb).2.2.2.2.2⟩;obtain⟨m4,rD,_⟩:=I4.loc;have CL:C≠X.env.locals:=λz=>by
    have:=I2.lt;rw[<-z,lO] at this;exact absurd this (Dk.mpr (Br _))
   refine fin acc C H3 s4 m4 I5 rD CL (λ{σ' s''} I6 h' sb=> ?_) qn;refine I6.turned (t':=s''.toks) (λb o hb e=>(sb.2 b hb).trans e) I4.free CL (.inr ?_) (λx c e z=> ?_) λp hp z=> ?_
   .have:=I2.sz;rw[lO];omega
   .obtain⟨v,o,q,_⟩:=I2.cell x c e;have:=Heap.lt_size q;rw[z,lO] at this;exact absurd this (Dk.mpr (Br _))
   .obtain⟨q,_⟩:=I2.pin p hp;have:=Heap.lt_size q;rw[z,lO] at this;exact absurd this (Dk.mpr (Br _))
  .refine thn (T.item (wC X N' sc C s₀ (upd H2 acc (.lst [])) fp) rfl rfl rfl hc i [] s3 _ H3 (λ_ _=>False) I3 (stat lB) kC go) λr s4 ⟨u,hr,h4⟩=> ?_;subst hr;refine thn h4 ?_;rintro _ s5 ⟨x,H5,I5,r5,y5,jE,oG⟩;have I5':=I5.pinned (stat oG) (T.obj _ _ jE);refine thn (hg C s₀ _ fp _ s5 _ H5 x u _ I5' r5 (ow σ _ x H5 _ ⟨rfl,λ_ _ e=>e⟩ (step x H5 y5))) ?_;rintro _ s6 ⟨σ6,H6,I6,q6,kN⟩;have again:∀{H7:Hp} {s7:Shared} {zs:List V},Inv (wC X N' sc C s₀ (upd H2 acc (.lst [])) fp) ([]++zbv fp s5.heap) σ6 H7 s7->(∃m',m'<n/\W (i+1) m' zs H7)->
     ∃m,m<n/\∃i ys H',Inv (wC X N' sc C s₀ (upd H2 acc (.lst [])) fp) [] (Yf cap σ) H' s7/\tn i s7.heap/\(∀b∈fp,H' b=gC)/\W i m ys H':=λ{H7 s7 zs} I7 w7=>by
    obtain⟨m',hm,w7⟩:=w7;refine⟨m',hm,i+1,zs,H7,(I7.unpinned).weak kN.1.symm kN.2,T.keep _ _ _ jE λb hb o e=>(I7.pin (b,o) (x9 _ (x9 _ (Wg hb e)))).1,λb hb=> ?_,w7⟩;obtain⟨o,e,d⟩:=T.obj _ _ jE b hb;exact (I7.pin (b,o) (x9 _ (x9 _ (Wg hb e)))).2.1
   refine thn (ht C s₀ _ fp _ s6 σ6 H6 _ I6 q6) ?_;rintro ok s7 ⟨H7,I7,q7⟩;cases ok with
   |false=>
    rw[if_neg uS] at q7 ⊢;exact again I7 q7
   |true=>
    rw[if_pos rfl] at q7 ⊢;refine thn (he C s₀ _ fp _ s7 σ6 H7 _ I7 q7) ?_;rintro xv s8 ⟨v,H8,I8,r8,ly,rO,w8⟩;refine thn (Uj _ s8 σ6 H8 (.ref acc) [v] (.ref acc) [xv] (λ_ H9=>H9=upd H8 acc (.lst (ys++[v]))) I8 rfl (.cons r8 .nil) ⟨acc,ys,v,rfl,rfl,ly,rO,rfl⟩) ?_;rintro _ s9 ⟨_,H9,I9,_,e9⟩;subst e9;exact again I9 w8
 exact codeAny_compStart_list loop (T.self _ 0 _ _ _ (T.keep _ _ _ kD λb hb o e=>keep₁ b o (jh b o e)) loop)
theorem xA (hc:X.calm=ia) (B:Wo X sc) (cp:vy X sc cap N') (hi:PI X tg iter wi) (ow:zmg cap g)
  (hg:∀C s₀ H₀ fp,PG (wC X N' sc C s₀ H₀ fp) tg g) (ht:∀C s₀ H₀ fp,PTs (wC X N' sc C s₀ H₀ fp) ifs tt) (he:∀C s₀ H₀ fp,PE (wC X N' sc C s₀ H₀ fp) elt te)
  (hs:∀x,foldedSetIterable iter X.env x=pure x:=by intro _;rfl):PE X (.ListComp elt [⟨tg,iter,ifs,0⟩] sc pos) (zj0 cap wi g tt te):=by
 intro pins s σ H Q I h;rw[eval_ListComp];refine zc9 (use:=gC) (R:=λacc H2=>Q (.ref acc) H2) hc B cp hi ow hg ht he hs I h λacc C H' s' m I' hn CL mk r=> ?_;exact⟨m,hn,λh' sb=>⟨.ref acc,H',mk I' h' sb,rfl,r⟩⟩
theorem vY {i:Nat} {y:Str} {py kF:Pos} (hc:X.calm=ia) (B:Wo X sc) (cp:vy X sc cap N') (hi:PI X tg iter wi) (ow:zmg cap g)
  (hg:∀C s₀ H₀ fp,PG (wC X N' sc C s₀ H₀ fp) tg g) (ht:∀C s₀ H₀ fp,PTs (wC X N' sc C s₀ H₀ fp) ifs tt) (he:∀C s₀ H₀ fp,PE (wC X N' sc C s₀ H₀ fp) elt te)
  (hN:X.N.Nodup) (hy:X.N[i]? =f7 y) (hl:X.env.scope.names.lookup y=f7 .local)
  (rh:swapsWith (.ListComp elt [⟨tg,iter,ifs,0⟩] sc pos) (f7 (.Name y py)) kF.line X.env=pure ia:=by rfl)
  (hs:∀x,foldedSetIterable iter X.env x=pure x:=by intro _;rfl):PS X (.Assign [.Name y py] (.ListComp elt [⟨tg,iter,ifs,0⟩] sc pos) kF) (ze6 i cap wi g tt te):=by
 intro pins s σ H D I h;rw[exec_Assign_Name_used _ _ _ _ rh];refine wpAny_bind (wpAny_standAt (wpAny_bind ?_));show wpAny _ X.A (do let _ <-comprehension (.ListComp elt [⟨tg,iter,ifs,0⟩] sc pos) sc X.env _ (newList []) kb (eval iter X.env) (f7 (assign (.Name y py) X.env))) _ _ s;refine wpAny_bind (thn (zc9 (use:=f7 (assign (.Name y py) X.env)) (Q:=λ_ s'=>SP X pins D .next s') (R:=λacc H2=>D.nx (σ.set i (f7 (.ref acc))) H2) hc B cp hi ow hg ht he hs I h λacc C H' s' m I' hn CL mk r=> ?_) λ_ s' hq=>wpAny_pure (wpAny_pure hq));show wpAny _ X.A (assign (.Name y py) X.env (.ref acc)) _ _ _;refine wpAny_assign_Name (zcX I' hN hy (.inl hl) (v:= .ref acc) rfl (λs'' I'' iB=> ?_) (.inr hl));obtain⟨a,sb,ha⟩:=iB;have sI:C≠a:=by
  rcases ha with ha|ha
  .rw[ha];exact CL
  .intro z;rw[<-z] at ha;obtain⟨v,o,q,d⟩:=I'.cell y C ha;obtain⟨o',es,ep,q',d',_⟩:=hn;rw[q] at q';cases q';rw[d] at d';cases d'
 exact⟨m,hn.sameBut sb sI,λh' sb'=>⟨_,H',mk I'' h' sb',r⟩⟩
end
def wS {α:Type}:Sem α->Prop
 | .pure _=>True
 | .raise _=>True
 | .unsupported _=>True
 | .finish _=>True
 | .rule _ k=>∀u,wS (k u)
 | .at _ k=>∀u,wS (k u)
 | .load _ _ k=>∀o,wS (k o)
 | .update _ _ f k=>(∀o,(f o).dict=o.dict/\(f o).cls=o.cls)/\∀u,wS (k u)
 | .alloc _ k=>∀a,wS (k a)
 | .loadIfAlive _ k=>∀o,wS (k o)
 | .point _ k=>∀u,wS (k u)
 | .stack k=>∀x,wS (k x)
 | .ask k=>∀x,wS (k x)
 |_=>False
def KD (h h':Heap):Prop:=∀(b:Nat) o,h.objs[b]? =f7 o->∃o',h'.objs[b]? =f7 o'/\o'.dict=o.dict/\o'.cls=o.cls
theorem KD.refl (h:Heap):KD h h:=λ_ o e=>⟨o,e,rfl,rfl⟩
theorem KD.trans {h h1 h2:Heap} (x:KD h h1) (y:KD h1 h2):KD h h2:=λb o e=>by
 obtain⟨o1,e1,d1,c1⟩:=x b o e;obtain⟨o2,e2,d2,c2⟩:=y b o1 e1;exact⟨o2,e2,d2.trans d1,c2.trans c1⟩
theorem KD.push (h:Heap) (o:Obj):KD h (h.push o):=λb o' e=>by
 refine⟨o',?_,rfl,rfl⟩;obtain⟨objs,l⟩:=h;show (objs.push o)[b]? =f7 o';have e:objs[b]? =f7 o':=e;rw[Array.getElem?_push];have hb:b<objs.size:=(BQ.mp e).1;rw[if_neg (uF hb)];exact e
theorem KD.update (h:Heap) (a:Addr) {f:Obj->Obj} (hf:∀o,(f o).dict=o.dict/\(f o).cls=o.cls):KD h (h.update a f):=λb o e=>by
 obtain⟨objs,l⟩:=h;show ∃o',(objs.modify a f)[b]? =f7 o'/\_;rw[Array.getElem?_modify];have e:objs[b]? =f7 o:=e;by_cases gq:a=b
 .rw[if_pos gq,e];exact⟨f o,rfl,hf o⟩
 .rw[if_neg gq,e];exact⟨o,rfl,rfl,rfl⟩
theorem ze7 {h:Heap} {a:Addr} {o:Obj} (e:h.get? a=f7 o):h.objs[a]? =f7 o:=by
 unfold Heap.get? at e;split at e
 .cases e
 .exact e
theorem KD.at {h h':Heap} {a:Addr} {o o':Obj} (k:KD h h') (e:h.get? a=f7 o) (e':h'.get? a=f7 o'):o'.dict=o.dict/\o'.cls=o.cls:=by
 obtain⟨o1,e1,d⟩:=k a o (ze7 e);rw[ze7 e'] at e1;cases e1;exact d
theorem zmh {α:Type} {M:Model} {Γ:PySem.Ctx} {t:Sem α}:∀{Q:α->Pos->Shared->Prop} {E:Value->Pos->Shared->Prop} {p:Pos} {s:Shared} {h₀:Heap},wS t->KD h₀ s.heap->Sem.wp M Γ t Q E p s->
  Sem.wp M Γ t (λa p' s'=>Q a p' s'/\KD h₀ s'.heap) (λe p' s'=>E e p' s'/\KD h₀ s'.heap) p s:=by
 induction t with
 |pure a=>exact λ_ k h=>⟨h,k⟩
 |raise e=>exact λ_ k h=>⟨h,k⟩
 |unsupported w=>exact λ_ _ h=>h.elim
 |finish e=>exact λ_ _ h=>h.elim
 |rule _ k ih=>exact λt z h=>ih () (t ()) z h
 | «at» _ k ih=>exact λt z h=>ih () (t ()) z h
 |load a _ k ih=>
  intro Q E p s h₀ t z h;obtain⟨o,e,h⟩:=h;exact⟨o,e,ih o (t o) z h⟩
 |update a _ f k ih=>
  intro Q E p s h₀ t z h;obtain⟨e,h⟩:=h;exact⟨e,ih () (t.2 ()) (z.trans (KD.update _ _ t.1)) h⟩
 |alloc o k ih=>exact λt z h=>ih _ (t _) (z.trans (KD.push _ _)) h
 |loadIfAlive a k ih=>exact λt z h=>ih _ (t _) z h
 |point _ k ih=>exact λt z h=>ih () (t ()) z h
 |stack k ih=>exact λt z h=>ih _ (t _) z h
 |ask k ih=>exact λt z h=>ih _ (t _) z h
 |register _ _ _=>exact λt=>t.elim
 |fresh _ _=>exact λt=>t.elim
 |choose _ _ _ _=>exact λt=>t.elim
 |os _ _ _ _=>exact λt=>t.elim
 |call _ _ _ _ _ _=>exact λt=>t.elim
 |handled _ _ _=>exact λt=>t.elim
 |newGen _ _ _=>exact λt=>t.elim
 |genState _ _ _=>exact λt=>t.elim
 |resume _ _ _ _ _=>exact λt=>t.elim
 |yield _ _ _ _ _=>exact λt=>t.elim
 |fork _ _ _=>exact λt=>t.elim
 |thread _ _=>exact λt=>t.elim
 |await _ _ _ _ _ _=>exact λt=>t.elim
theorem Vp {α:Type} {M:Model} {A:Around} {t:Sem α} {Q:α->Shared->Prop} {E:Value->Shared->Prop} {s:Shared} (T:wS t) (h:wpAny M A t Q E s):wpAny M A t (λa s'=>Q a s'/\KD s.heap s'.heap) (λe s'=>E e s'/\KD s.heap s'.heap) s:=
 λΓ p hΓ=>zmh T (KD.refl _) (h Γ p hΓ)
theorem ziM {α β:Type} {f:α->Sem β} (hf:∀a,wS (f a)):∀{t:Sem α},wS t->wS (t.bind f):=by
 intro t
 induction t with
 |pure a=>exact λ_=>hf a
 |raise e=>exact λ_=>trivial
 |unsupported w=>exact λ_=>trivial
 |finish e=>exact λ_=>trivial
 |rule _ k ih=>exact λt u=>ih u (t u)
 | «at» _ k ih=>exact λt u=>ih u (t u)
 |load a _ k ih=>exact λt u=>ih u (t u)
 |update a _ f k ih=>exact λt=>⟨t.1,λu=>ih u (t.2 u)⟩
 |alloc o k ih=>exact λt u=>ih u (t u)
 |loadIfAlive a k ih=>exact λt u=>ih u (t u)
 |point _ k ih=>exact λt u=>ih u (t u)
 |stack k ih=>exact λt u=>ih u (t u)
 |ask k ih=>exact λt u=>ih u (t u)
 |register _ _ _=>exact λt=>t.elim
 |fresh _ _=>exact λt=>t.elim
 |choose _ _ _ _=>exact λt=>t.elim
 |os _ _ _ _=>exact λt=>t.elim
 |call _ _ _ _ _ _=>exact λt=>t.elim
 |handled _ _ _=>exact λt=>t.elim
 |newGen _ _ _=>exact λt=>t.elim
 |genState _ _ _=>exact λt=>t.elim
 |resume _ _ _ _ _=>exact λt=>t.elim
 |yield _ _ _ _ _=>exact λt=>t.elim
 |fork _ _ _=>exact λt=>t.elim
 |thread _ _=>exact λt=>t.elim
 |await _ _ _ _ _ _=>exact λt=>t.elim
theorem tb {α β:Type} {t:Sem α} {f:α->Sem β} (h:wS t) (hf:∀a,wS (f a)):wS (t>>=f):=ziM hf h
theorem zcD (v:Value):wS (fieldsOf v):=by
 unfold fieldsOf;split
 .refine tb (λo=>trivial) λo=> ?_;split<;>trivial
 .trivial
theorem Wp (v:Value) (i:Nat):wS (field v i):=by
 unfold field;refine tb (zcD v) λa=> ?_;split<;>trivial
theorem zbB (g:Array Value->Array Value) (o:Obj):(Obj.mapFields g o).dict=o.dict/\(Obj.mapFields g o).cls=o.cls:=by
 obtain⟨c,d,dt,sl⟩:=o;cases dt<;>exact⟨rfl,rfl⟩
theorem Xm (v:Value) (i:Nat) (x:Value):wS (setField v i x):=by
 unfold setField;split
 .unfold updateField;refine tb (λo=>trivial) λo=> ?_;split
  .split
   .exact⟨λo=>zbB _ o,λ_=>trivial⟩
   .trivial
  .trivial
 .trivial
theorem Yg (e:Value) (f:Option Addr):wS (setFlight e f):=by
 unfold setFlight;refine tb (Wp _ _) λtb'=> ?_;split
 .exact Xm _ _ _
 .trivial
theorem zbC (ty:String) (vs:List Value):wS (newFields ty vs):=by
 have h:wS (newObjAsIs (Value.type ty) (Data.fields vs.toArray)):=by
  unfold newObjAsIs;exact tb (λa=>trivial) λa=>trivial
 unfold newFields newObj;show wS (if vs.toArray.size>sizeLine+2 then (unsupported "record:memory">>=λ_=>newObjAsIs (Value.type ty) (Data.fields vs.toArray)) else newObjAsIs (Value.type ty) (Data.fields vs.toArray));split
 .trivial
 .exact h
theorem ze8 (env:Env) (outer:List Env):wS (behindIsImport env outer):=by
 unfold behindIsImport;split
 .trivial
 .split
  .trivial
  .exact tb (Wp _ _) λ_=>trivial
theorem zgD:wS underTheClaimsCaller:=tb (λ_=>trivial) λ_=>trivial
theorem zcE (env:Env) (i:Bool) (outer:List Env):wS (keptBack env i outer):=by
 cases outer with
 |nil=>
  unfold keptBack;by_cases h:(env.scope.isGenerator||env.scope.isCoroutine)=ia
  .rw[if_pos h];trivial
  .rw[if_neg h];refine tb zgD λx=> ?_;trivial
 |cons c r=>
  unfold keptBack;trivial
theorem zbD:∀l:List Env,wS (readyFrames l)
 |[]=>trivial
 |env::outer=>by
  unfold readyFrames;split
  .refine tb (λo=>trivial) λo=> ?_;split
   .trivial
   .exact tb (ze8 _ _) λi=>tb (zcE _ _ _) λb=>tb ⟨λo=>⟨rfl,rfl⟩,λ_=>trivial⟩ λ_=>zbD outer
  .trivial
theorem zdY (env:Env):wS (CM env):=by
 unfold CM;refine tb (λx=>trivial) λl=>tb ?_ λo=> ?_
 .generalize List.dropWhile _ l=l';unfold frameObject;cases l' with
  |nil=>trivial
  |cons a r=>exact tb (zbD _) λ_=>trivial
 .split<;>trivial
theorem za1 (f:Addr) (b:Bool):wS (entryPlaceOf f b):=by
 unfold entryPlaceOf;refine tb (λx=>trivial) λl=> ?_;split<;>trivial
theorem Vq (e:Value) (env:Env):wS (noteFrame e env):=by
 unfold noteFrame;split
 .rename_i f _;have last:∀head:Value,wS (do setField e 1 (<-EntryCells.newEntry head (<-CM env) .none (rawInt f) .none (<-entryPlaceOf f (head != .none)))):=λhead=>
   tb (zdY env) λa=>tb (za1 _ _) λpl=>tb (zbC _ _) λb=>Xm _ _ _
  refine tb (Wp _ _) λhead=> ?_;split
  .refine tb (Wp _ _) λx=> ?_;split
   .trivial
   .exact tb (Xm _ _ _) λ_=>last head
  .exact last head
 .trivial
theorem Tj (env:Env) (e:Value):wS (leaving env e):=tb (Vq e env) λ_=>Yg _ _
theorem yN.there {P:Program} {w:World} {H:Hp} {h:Heap} {a:Addr} {o:HO} (x:yN P w H h a o):∃ob,h.get? a=f7 ob:=by
 cases o with
 |lst xs=>obtain⟨_,_,_,_,e⟩:=x;exact⟨_,e⟩
 |tup xs=>obtain⟨_,_,_,ob,e,_⟩:=x;exact⟨_,e⟩
 |dK ae=>obtain⟨_,_,_,_,o,_,_,e,_⟩:=x;exact⟨_,e⟩
 |dT ae=>obtain⟨_,_,_,_,o,_,_,e,_⟩:=x;exact⟨_,e⟩
 |dN ae=>obtain⟨_,_,_,_,o,_,_,e,_⟩:=x;exact⟨_,e⟩
 |set S n=>obtain⟨o,_,_,_,e,_⟩:=x;exact⟨_,e⟩
 |ins C dx fs=>obtain⟨_,_,_,e,_⟩:=x;exact⟨_,e⟩
 |own y=>obtain⟨_,e⟩:=x;exact⟨_,e⟩
 |xd fs=>obtain⟨_,⟨_,_,_,e,_⟩,_⟩:=x;exact⟨_,e⟩
 |rng lo hi=>obtain⟨_,_,_,e⟩:=x;exact⟨_,e⟩
 |frz ob u=>obtain⟨e,_⟩:=x;exact⟨_,e⟩
 |tbl ps=>exact⟨_,(show h.get? a=f7 _ from x)⟩
 |met f y=>exact⟨_,(show h.get? a=f7 _ from x)⟩
 |ext φ=>obtain⟨_,⟨_,e⟩,_⟩:=x;exact⟨_,e⟩
def Cov (outer:List Env) (H':Hp) (old h' B:Heap):Prop:=
 (∀b o,(∃o0,old.get? b=f7 o0)->b∉frs outer->h'.get? b=f7 o->B.get? b=f7 o)/\∀b u o,H' b=f7 u->h'.get? b=f7 o->B.get? b=f7 o
structure Fly (P:Program) (w:World) (outer:List Env) (H:Hp) (s:Shared) (e:Addr) (cls:Value) (H':Hp) (s':Shared):Prop where
 os:s'.os=s.os
 bare:AllBare s'.gens
 un:Un (frs outer) [] H H' s.heap s'.heap
 hok:HOk P w H' s'.heap
 fly:∃B t,Heap.FlyingW B outer e cls (.ref t) s'.heap/\Cov outer H' s.heap s'.heap B
 new:s.heap.get? e=gC
 free:H' e=gC
 nd:∀o,s'.heap.get? e=f7 o->o.dict=gC
noncomputable def CXE (P:Program) (w:World):CXT:=λouter H s E ev s'=>∃e cls H',ev= .ref e/\Fly P w outer H s e cls H' s'/\E cls gC H'
theorem Fly.moved {P:Program} {w:World} {outer:List Env} {H H':Hp} {s s':Shared} {e:Addr} {cls a0:Value} {B h2:Heap} (F:Fly P w outer H s e cls H' s') (fl:Heap.FlyingW B outer e cls a0 s'.heap) (cov:Cov outer H' s.heap s'.heap B)
  (st:B.StaysIn h2) (sm:s'.heap.UpToSlots h2):Un (frs outer) [] H H' s.heap h2/\HOk P w H' h2/\Cov outer H' s.heap h2 B:=by
 have nofs:∀b u,H' b=f7 u->∃o,s'.heap.get? b=f7 o/\B.get? b=f7 o/\h2.get? b=f7 o:=λb u q=>by
  obtain⟨o,e1⟩:=(F.hok b u q).there;have e2:=cov.2 b u o q e1;exact⟨o,e1,e2,st b o e2⟩
 have old:∀b o0,s.heap.get? b=f7 o0->b∉frs outer->∃o,s'.heap.get? b=f7 o/\B.get? b=f7 o/\h2.get? b=f7 o:=λb o0 q hb=>by
  obtain⟨o,e1⟩:=F.un.there b o0 q (by simp);have e2:=cov.1 b o ⟨o0,q⟩ hb e1;exact⟨o,e1,e2,st b o e2⟩
 have fr:∀b∈frs outer,∃o sl,s'.heap.get? b=f7 o/\h2.get? b=f7 {o with slots:=sl}:=λb hb=>by
  obtain⟨_,o,e1,d⟩:=fl.2.2.1.mem hb;obtain⟨sl,e2⟩:=sm b o e1 d;exact⟨o,sl,e1,e2⟩
 refine⟨⟨λb o q n hb _=> ?_,λb o q n hb _=> ?_,λb o q n hx=>F.un.free b o q n hx,λb o q _=> ?_,F.un.tups,F.un.frzs,F.un.tbls⟩,λa u q=> ?_,λb o q hb e1=> ?_,λb u o q e1=> ?_⟩
 .obtain⟨o1,e1,_,e3⟩:=old b o q hb;have e4:=F.un.keep b o q n hb (by simp);rw[e1] at e4;cases e4;exact e3
 .obtain⟨o1,kG,e1,e2⟩:=fr b hb;obtain⟨sl,e4⟩:=F.un.slot b o q n hb (by simp);rw[e1] at e4;cases e4;exact⟨kG,e2⟩
 .by_cases hb:b∈frs outer
  .obtain⟨o1,kG,e1,e2⟩:=fr b hb;exact⟨_,e2⟩
  .obtain⟨o1,_,_,e3⟩:=old b o q hb;exact⟨_,e3⟩
 .refine (F.hok a u q).stay (λb ob hb eb=> ?_) (λ_ z=>z) λ_ _ z=>z;have:∃u',H' b=f7 u':=by
   rcases hb with z|z
   .exact⟨u,z ▸ q⟩
   .exact⟨_,z⟩
  obtain⟨u',hu⟩:=this;obtain⟨o1,e1,_,e3⟩:=nofs b u' hu;rw[eb] at e1;cases e1;exact e3
 .obtain⟨o0,q⟩:=q;obtain⟨o1,_,e2,e3⟩:=old b o0 q hb;rw[e1] at e3;cases e3;exact e2
 .obtain⟨o1,_,e2,e3⟩:=nofs b u q;rw[e1] at e3;cases e3;exact e2
section
variable {P:Program} {w:World} {K:u5} {mg:Str->Option Value} {base:Heap} {N:List Str} {qual:Str} {scope:Scope} {f:Addr} {bT:Value} {A:Around} {outer:List Env} {s:Shared} {H:Hp} {E:XK}
theorem zj1 {pins:List (Addr×Obj)} {σ:St} {H1:Hp} {s1:Shared} {h2:Heap} {e:Addr} {cls:Value} {vs:List Value} {t':Nat}
  (I:Inv (Xk (CXE P w) P w K mg base N qual scope f bT A outer s H E) pins σ H1 s1) (hx:Heap.MadeExcOf s1.heap h2 e cls vs) (hE:E cls gC H1):
  (Xk (CXE P w) P w K mg base N qual scope f bT A outer s H E).xe (.ref e) {s1 with heap:=h2}:=by
 have oe:∀b∈frs (envOfC qual scope s.heap.objs.size f bT::outer),b∈s.heap.objs.size::frs outer:=I.stkSub;have kE:(Au s1.heap (frs (envOfC qual scope s.heap.objs.size f bT::outer))).StaysIn s1.heap:=λb o q=>CV _ q;have qp:∀b o,s.heap.get? b=f7 o->b≠s.heap.objs.size:=λb o q=>uF (Heap.lt_size q);have inB:∀b o,s1.heap.get? b=f7 o->b∉frs (envOfC qual scope s.heap.objs.size f bT::outer)->(Au s1.heap (frs (envOfC qual scope s.heap.objs.size f bT::outer))).get? b=f7 o:=λb o q hb=>CO _ q hb
 refine wpAny_mono (Vp (Tj _ _) (wpAny_leaves_madeW (E:=λ_ _=>False) (Q:=λ_ s''=>∃h' t,s''={s1 with heap:=h'}/\Heap.FlyingW (Au s1.heap (frs (envOfC qual scope s.heap.objs.size f bT::outer))) outer e cls (.ref t) h'/\h2.UpToSlots h')
  (base:=Au s1.heap (frs (envOfC qual scope s.heap.objs.size f bT::outer))) (L:=s.heap.objs.size) I.ok.frames rfl kE (PySem.W.funFrames_hide I.stack λenv he a ha=>BO.mpr ⟨env,he,ha⟩) hx λh' t x1 x2 x3 x4=>⟨h',t,rfl,x1,x4⟩)) (λ_ s3 h3=> ?_) λ_ _ h3=>h3.1.elim
 obtain⟨⟨h',t,rfl,x1,x4⟩,kd⟩:=h3;have lR:∀b o,s.heap.get? b=f7 o->b∉frs outer->b∉frs (envOfC qual scope s.heap.objs.size f bT::outer):=λb o q hb hz=>by
  rcases uy.mp (oe b hz) with z|z
  .exact qp b o q z
  .exact hb z
 have trk:∀b u,H1 b=f7 u->∃o,s1.heap.get? b=f7 o/\(Au s1.heap (frs (envOfC qual scope s.heap.objs.size f bT::outer))).get? b=f7 o/\h'.get? b=f7 o:=λb u q=>by
  obtain⟨o,e1⟩:=(I.hok b u q).there;have e2:=inB b o e1 λhz=>by
   have z:=I.stkFree b hz;rw[q] at z;cases z
  exact⟨o,e1,e2,x1.1 b o e2⟩
 have old:∀b o0,s.heap.get? b=f7 o0->b∉frs outer->∃o,s1.heap.get? b=f7 o/\(Au s1.heap (frs (envOfC qual scope s.heap.objs.size f bT::outer))).get? b=f7 o/\h'.get? b=f7 o:=λb o0 q hb=>by
  obtain⟨o,e1⟩:=I.base.there b o0 q (by simp[Xk]);have e2:=inB b o e1 (lR b o0 q hb);exact⟨o,e1,e2,x1.1 b o e2⟩
 have fr:∀b∈frs outer,∃o sl,s1.heap.get? b=f7 o/\h'.get? b=f7 {o with slots:=sl}:=λb hb=>by
  obtain⟨_,o,e1,d⟩:=I.funs.mem hb;obtain⟨sl,e2⟩:=x4 b o (hx.keeps b o e1) d;exact⟨o,sl,e1,e2⟩
 have gM:∀b:Addr,b∉(Xk (CXE P w) P w K mg base N qual scope f bT A outer s H E).ex:=λb z=>absurd (show b∈([]:List Addr) from z) (by simp);refine⟨e,cls,H1,rfl,⟨I.os,I.bare,⟨λb o q n hb _=> ?_,λb o q n hb _=> ?_,λb o q n hx=>I.base.free b o q n (gM b),λb o q _=> ?_,I.base.tups,I.base.frzs,I.base.tbls⟩,λa u q=> ?_,⟨_,t,x1,λb o q hb e1=> ?_,λb u o q e1=> ?_⟩,?_,?_,?_⟩,hE⟩
 .obtain⟨o1,e1,_,e3⟩:=old b o q hb;have e4:=I.base.keep b o q n hb (gM b);rw[e1] at e4;cases e4;exact e3
 .obtain⟨o1,kG,e1,e2⟩:=fr b hb;obtain⟨sl,e4⟩:=I.base.slot b o q n hb (gM b);rw[e1] at e4;cases e4;exact⟨kG,e2⟩
 .by_cases hb:b∈frs outer
  .obtain⟨o1,kG,e1,e2⟩:=fr b hb;exact⟨_,e2⟩
  .obtain⟨o1,_,_,e3⟩:=old b o q hb;exact⟨_,e3⟩
 .refine (I.hok a u q).stay (λb ob hb eb=> ?_) (λ_ z=>z) λ_ _ z=>z;have:∃u',H1 b=f7 u':=by
   rcases hb with z|z
   .exact⟨u,z ▸ q⟩
   .exact⟨_,z⟩
  obtain⟨u',hu⟩:=this;obtain⟨o1,e1,_,e3⟩:=trk b u' hu;rw[eb] at e1;cases e1;exact e3
 .obtain⟨o0,q⟩:=q;obtain⟨o1,_,e2,e3⟩:=old b o0 q hb;rw[e1] at e3;cases e3;exact e2
 .obtain⟨o1,_,e2,e3⟩:=trk b u q;rw[e1] at e3;cases e3;exact e2
 .cases q:s.heap.get? e with
  |none=>rfl
  |some o=>
   obtain⟨o',q'⟩:=I.base.there e o q (gM e);have:=hx.new;rw[q'] at this;cases this
 .cases q:H1 e with
  |none=>rfl
  |some u=>
   obtain⟨o,e1⟩:=(I.hok e u q).there;have:=hx.new;rw[e1] at this;cases this
 .intro o q;obtain⟨t0,e0,_⟩:=hx.there;exact (kd.at e0 q).1
theorem zw:UL (CXE P w) (Xk (CXE P w) P w K mg base N qual scope f bT A outer s H E) E:=by
 rintro pins σ H1 s1 ev s' I ⟨e,cls,H',rfl,F,hE⟩;obtain⟨B,t,fl,cov⟩:=F.fly;have oe:∀b∈frs (envOfC qual scope s.heap.objs.size f bT::outer),b∈s.heap.objs.size::frs outer:=I.stkSub;refine wpAny_mono (Vp (Tj _ _) (wpAny_leaves_onW (E:=λ_ _=>False) (Q:=λ_ s''=>∃h',s''={s' with heap:=h'}/\Heap.FlyingW B outer e cls (.ref t) h'/\s'.heap.UpToSlots h') (L:=s.heap.objs.size) I.ok.frames rfl fl λh' x1 x2=>⟨h',rfl,x1,x2⟩)) (λ_ s3 h3=> ?_) λ_ _ h3=>h3.1.elim;obtain⟨⟨h',rfl,x1,x2⟩,kd⟩:=h3;obtain⟨un,hok,cov'⟩:=F.moved fl cov x1.1 x2;have gM:∀b:Addr,b∉(Xk (CXE P w) P w K mg base N qual scope f bT A outer s H E).ex:=λb z=>absurd (show b∈([]:List Addr) from z) (by simp);have lR:∀b o,s.heap.get? b=f7 o->b∉frs outer->b∉frs (envOfC qual scope s.heap.objs.size f bT::outer):=λb o q hb hz=>by
  rcases uy.mp (oe b hz) with z|z
  .exact uF (Heap.lt_size q) z
  .exact hb z
 have sub:∀b∈frs outer,b∈frs (envOfC qual scope s.heap.objs.size f bT::outer):=λb hb=>by
  unfold frs at hb ⊢;rw[AB];exact uj _ hb
 refine⟨e,cls,H',rfl,⟨F.os.trans I.os,F.bare,⟨λb o q n hb _=> ?_,λb o q n hb _=> ?_,λb o q n _=> ?_,λb o q _=> ?_,λb xs q=>un.tups b xs (I.base.tups b xs q),λb o xs q=>un.frzs b o xs (I.base.frzs b o xs q),λb ps q=> ?_⟩,hok,
  ⟨B,t,x1,λb o q hb e1=> ?_,cov'.2⟩,?_,F.free,λo q=> ?_⟩,hE⟩
 .exact un.keep b o (I.base.keep b o q n hb (gM b)) (I.base.free b o q n (gM b)) (lR b o q hb) (by simp)
 .obtain⟨sl,e1⟩:=I.base.slot b o q n hb (gM b);obtain⟨kj,e2⟩:=un.slot b _ e1 (I.base.free b o q n (gM b)) (sub b hb) (by simp);exact⟨kj,e2⟩
 .obtain⟨o1,e1⟩:=I.base.there b o q (gM b);exact un.free b o1 e1 (I.base.free b o q n (gM b)) (by simp)
 .obtain⟨o1,e1⟩:=I.base.there b o q (gM b);exact un.there b o1 e1 (by simp)
 .obtain⟨m1,e1⟩:=I.base.tbls b ps q;obtain⟨m2,e2⟩:=un.tbls b _ e1;exact⟨m1++m2,by rw[e2,BM]⟩
 .obtain⟨o0,q⟩:=q;obtain⟨o1,q1⟩:=I.base.there b o0 q (gM b);exact cov'.1 b o ⟨o1,q1⟩ (lR b o0 q hb) e1
 .cases q:s.heap.get? e with
  |none=>rfl
  |some o=>
   obtain⟨o',q'⟩:=I.base.there e o q (gM e);have:=F.new;rw[q'] at this;cases this
 .obtain⟨ob,iQ,_⟩:=fl.there;exact (kd.at iQ q).1.trans (F.nd ob iQ)
end
structure Yh (K:u5) (mg:Str->Option Value) (x:Str) (C:Addr) (kg:List Value) (newId:String):Prop where
 mg:mg x=f7 (.ref C)
 inK:Ae K C kg newId=ia
theorem Yh.own {K:u5} {mg:Str->Option Value} {x:Str} {C:Addr} {kg:List Value} {newId:String} {h:Heap} (O:Yh K mg x C kg newId) (X:K.In h):OwnCls x C kg newId mg h:=by
 refine⟨O.mg,?_⟩;have q:=O.inK;unfold Ae at q;split at q
 .rename_i dd cd sl ho;split at q
  .rename_i C' bm k0 k1 k2 k3 n k5 hm hs;simp only[uX,beq_iff_eq,D4] at q;obtain⟨⟨⟨⟨⟨rfl,rfl⟩,lr⟩,ht⟩,hok⟩,m3⟩:=q;obtain⟨nm,bs,mro,ns,qn,hd,sn,sub,ab,col,del⟩:=cd;dsimp only at hm lr hok m3;subst hm lr;have jM:sl= #[k0,k1,k2,k3,f7 (.builtin n),k5]:=by
    obtain⟨l⟩:=sl;simp only at hs;rw[hs]
   subst jM;exact⟨bm,ns,nm,qn,bs,hd,sn,sub,ab,col,dd,k0,k1,k2,k3,k5,_,X _ _ ho,.of_isNs (PySem.W.isNs_of_in X hok),PySem.W.nsMap_none_of_in X hok m3,PySem.W.tail_of_in X ht⟩
  .cases q
 .cases q
def zj2 (C:Addr) (E:XK) (ta:TA):TS:=λ_ σ H=>ta σ H λvs H1=>vs.length<=sizeLine/\E (.ref C) gC H1
def zj3 (X:Cx) (E:XK):Prop:=∀(pins:List (Addr×Obj)) (σ:St) (H:Hp) (s:Shared) (h':Heap) (e:Addr) (cls:Value) (vs:List Value),Inv X pins σ H s->Heap.MadeExcOf s.heap h' e cls vs->E cls gC H->X.xe (.ref e) {s with heap:=h'}
theorem zmi {P:Program} {w:World} {K:u5} {mg:Str->Option Value} {base:Heap} {N:List Str} {qual:Str} {scope:Scope} {f:Addr} {bT:Value} {A:Around} {outer:List Env} {s:Shared} {H:Hp} {E:XK}:
  zj3 (Xk (CXE P w) P w K mg base N qual scope f bT A outer s H E) E:=λ_ _ _ _ _ _ _ _ I hx hE=>zj1 (t':=0) I hx hE
theorem zj4 {X:Cx} {E:XK} {x:Str} {C:Addr} {B newId initId:String} {kg:List Value} {a:Expr} {ta:TA} {np cj pos:Pos} (hr:zj3 X E) (hc:X.calm=ia) (hg:Gl X x) (O:Yh X.K X.mg x C kg newId) (FB:ExcBaseFacts B newId initId kg)
  (ha:PA X [a] ta) (he:starEach [a] X.env=[(kb,eval a X.env)]:=by rfl) (hd:(x==("__debug__":Str))=kb:=by decide):PS X (.Raise (f7 (.Call (.Name x np) [a] [] cj)) gC pos) (zj2 C E ta):=by
 intro pins s σ H D I h;obtain⟨tl,N,nm,q,bs,hdct,sn,sub,ab,col,dd,k0,k1,k2,k3,k5,mN,hC,hN,m3,T⟩:=(O.own I.ok.mod.kin).obj;refine wpAny_Raise_call_subT (C:=C) (nm:=nm) (q:=q) (N:=N) (bs:=bs) (bm:=tl) (hdct:=hdct) (sn:=sn) (sub:=sub) (ab:=ab) (col:=col) (dd:=dd) (k0:=k0) (k1:=k1) (k2:=k2) (k3:=k3) (k5:=k5)
  FB (mN:=mN) (T.hasType FB.hasBase) (I.ok.hd hc) (by rw[he];rfl) m3 (Ui I hg O.mg ⟨rfl,?_⟩ hd)
 have hh:=ha cj pins s σ H _ I h;rw[he] at hh ⊢;exact Calls.evalArgs_plain (thn hh λus s₂ ⟨vs,H1,I2,r,z,q⟩=>⟨rfl,by rw[<-r.length];exact z,I2.bk _ _ hC,hN.keeps I2.bk,T.keeps I2.bk,λh' e hm=>hr pins σ H1 s₂ h' e (.ref C) us I2 hm q⟩)
theorem xW {P:Program} {w:World} {X:Cx}:UL (CXE P w) X E0:=λ_ _ _ _ _ _ _ ⟨_,_,_,_,_,h⟩=>h.elim
abbrev TEx:=St->Hp->VK->(Value->Hp->Prop)->Prop
abbrev TAx:=St->Hp->(List V->Hp->Prop)->(Value->Hp->Prop)->Prop
abbrev TSx:=UJ->(Value->Hp->Prop)->St->Hp->Prop
def XP (X:Cx) (pins:List (Addr×Obj)) (σ:St) (EX:Value->Hp->Prop) (ev:Value) (s':Shared):Prop:=
 ∃(e:Addr) (cls:Value) (H0 H':Hp) (s0:Shared),ev= .ref e/\Inv X pins σ H0 s0/\Fly X.prog X.w X.stack H0 s0 e cls H' s'/\EX cls H'
def PEx (X:Cx) (e:Expr) (t:TEx):Prop:=
 ∀(pins:List (Addr×Obj)) (s:Shared) (σ:St) (H:Hp) (Q:VK) (EX:Value->Hp->Prop),Inv X pins σ H s->t σ H Q EX->wpAny (model X.prog X.w) X.A (eval e X.env) (EP X pins σ Q) (XP X pins σ EX) s
def PAx (X:Cx) (es:List Expr) (t:TAx):Prop:=
 ∀(pos:Pos) (pins:List (Addr×Obj)) (s:Shared) (σ:St) (H:Hp) (Q:List V->Hp->Prop) (EX:Value->Hp->Prop),Inv X pins σ H s->t σ H Q EX->wpAny (model X.prog X.w) X.A (spliced (backTo pos (starEach es X.env))) (AP X pins σ Q) (XP X pins σ EX) s
def PSx (X:Cx) (st:List Stmt) (t:TSx):Prop:=
 ∀(pins:List (Addr×Obj)) (s:Shared) (σ:St) (H:Hp) (D:UJ) (EX:Value->Hp->Prop),Inv X pins σ H s->t D EX σ H->wpAny (model X.prog X.w) X.A (execs st X.env) (SP X pins D) (XP X pins σ EX) s
section
variable {X:Cx} {e:Expr} {es:List Expr} {te:TE}
def xE (t:TE):TEx:=λσ H Q _=>t σ H Q
theorem zdZ (h:PE X.nox e te):PEx X e (xE te):=λpins s σ H Q EX I hw=>
 wpAny_mono (h pins s σ H Q (I.wish _) hw) (λ_ _ ⟨v,H',I',r,q⟩=>⟨v,H',I'.unwish,r,q⟩) λ_ _ z=>uW z
noncomputable def zpS:TAx:=λ_ H Q _=>Q [] H
noncomputable def znG (ta:TEx) (tr:TAx):TAx:=λσ H Q EX=>ta σ H (λx H1=>tr σ H1 (λxs H2=>Q (x::xs) H2) EX) EX
theorem zmj:PAx X [] zpS:=λ_ _ _ _ H Q _ I h=>Calls.spliced_nil ⟨[],H,I,.nil,h⟩
theorem Tk {ta:TEx} {t:TAx} (ha:PEx X e ta) (hr:PAx X es t) (hs:starEach (e::es) X.env=(kb,eval e X.env)::starEach es X.env:=by rfl):PAx X (e::es) (znG ta t):=by
 intro pos pins s σ H Q EX I h;rw[hs];show wpAny _ _ (spliced ((kb,eval e X.env)::backTo pos (starEach es X.env))) _ _ s;refine Calls.spliced_cons (thn (ha pins s σ H _ EX I h) ?_);rintro u s1 ⟨x,H1,I1,r1,q1⟩;refine thn (hr pos pins s1 σ H1 _ EX I1 q1) ?_;rintro us s2 ⟨xs,H2,I2,r2,q2⟩;exact⟨x::xs,H2,I2,.cons r1 r2,q2⟩
def zhS (sp:Sp) (eh:List V) (t:TAx):TEx:=λσ H Q EX=>t σ H (λvs H1=>sp (vs++eh) H1 Q λcls _ H'=>EX cls H') EX
theorem zj5 {k:Nat} {f:Addr} {fd:FuncData} {ps:List Str} {sp:Sp} {eh:List V} {ds:List Value} {x:Str} {p pos:Pos} {t:TAx} (F:ZP X.prog X.w X.K X.mg X.base (CXE X.prog X.w) k f fd ps sp) (hr:xS k X.A) (hg:Gl X x) (hm:X.mg x=f7 (.ref f)) (hk:Ag X.K (.ref f)=ia) (hb:Vn X.K fd ps ds) (hd:zZ eh ds)
  (ha:PAx X (e::es) t) (jb:(x==("__debug__":Str))=kb:=by decide) (he:starEach (e::es) X.env=(kb,eval e X.env)::starEach es X.env:=by rfl) (eY:(backTo pos (starEach es X.env)).any (·.1)=kb:=by rfl):
  PEx X (.Call (.Name x p) (e::es) [] pos) (zhS sp eh t):=by
 intro pins s σ H Q EX I h;refine wpAny_Call_Name_kw (Ui I hg hm ?_ jb);refine Bc (h₀:=X.base) I.ok.mod.kin hk (thn (ha pos pins s σ H _ EX I h) ?_) he eY;rintro us s1 ⟨vs,H1,I1,r,q⟩;refine⟨I1.kIn,?_⟩;have r2:zZ (vs++eh) (us++ds):=r.append hd;have hl:(us++ds).length=ps.length:=by rw[<-r2.length];exact F.len _ _ _ _ q
 refine wpAny_call (codeAny_mono (F.run X.A X.stack s1 H1 ⟨us,[]⟩ (us++ds) (vs++eh) Q _ hr I1.env0 (hb s1 us I1.kIn hl) r2 q) λr s' hq=> ?_);cases r with
 |error ev=>
  obtain⟨e,cls,H',rfl,Fl,hE⟩:=hq;exact⟨e,cls,H1,H',s1,rfl,I1,Fl,hE⟩
 |ok fl=>
  cases fl with
  |ret u=>exact I1.after hq
  |next=>exact uW hq
  |brk=>exact uW hq
  |cont=>exact uW hq
def zj6 (te:TEx):TSx:=λD EX σ H=>te σ H (λ_ H1=>D.nx σ H1) EX
theorem zj7 {te:TEx} {pos:Pos} (he:PEx X e te) (hs:swapsWith e gC pos.line X.env=pure kb:=by rfl):PSx X [.Expr e pos] (zj6 te):=by
 intro pins s σ H D EX I h;refine wpAny_execs_cons (wpAny_Expr_any (thn (he pins s σ H _ EX I h) ?_) I.quiet hs);rintro v s1 ⟨x,H1,I1,r1,q1⟩;exact wpAny_execs_nil ⟨σ,H1,I1,q1⟩
def zpT (i:Nat) (te:TEx):TSx:=λD EX σ H=>te σ H (λv H1=>D.nx (σ.set i (f7 v)) H1) EX
end
noncomputable def zd0 (e:Addr) (cls:Value):HO:= .ext λh=>∃ob,h.get? e=f7 ob/\ob.cls=cls/\ob.dict=gC/\∃vs,ob.data= .fields vs
theorem zmk {P:Program} {w:World} {H:Hp} {h:Heap} {e:Addr} {cls:Value} {ob:Obj} {vs:Array Value} (q:h.get? e=f7 ob) (c:ob.cls=cls) (d:ob.dict=gC) (f:ob.data= .fields vs):yN P w H h e (zd0 e cls):=
 ⟨⟨ob,q,c,d,vs,f⟩,⟨ob,q⟩,λh1 h2 ⟨o,e1,e2⟩ k=>⟨o,k o e1,e2⟩⟩
noncomputable abbrev Cx.hand (X:Cx) (e:Addr):Cx:={X with A:=X.A.mark (f7 (.ref e)),calm:=kb,xe:=λ_ _=>False}
section
variable {X:Cx} {pins:List (Addr×Obj)} {σ:St} {H:Hp} {s:Shared}
theorem Cx.Ok.hand (ok:X.Ok) (e:Addr):(X.hand e).Ok:=
 ⟨ok.mod,ok.kind,ok.glob,ok.blt,ok.above,ok.inj,ok.has,ok.cab,λz=>AA z,ok.frames,ok.stk,ok.exf,ok.bs,ok.bsz,ok.noex,ok.exfs,ok.funs,ok.frf⟩
theorem Inv.hand (I:Inv X pins σ H s) (e:Addr):Inv (X.hand e) pins σ H s:=⟨I.ok.hand e,I.os,I.bare,I.base,I.loc,I.cell,I.free,I.freeC,I.pin,I.hok,I.len⟩
theorem Inv.unhand {e:Addr} (ok:X.Ok) (I:Inv (X.hand e) pins σ H s):Inv X pins σ H s:=⟨ok,I.os,I.bare,I.base,I.loc,I.cell,I.free,I.freeC,I.pin,I.hok,I.len⟩
theorem Inv.adopt {a:Addr} {o:HO} (I:Inv X pins σ H s) (n:H a=gC) (h1:X.s₀.heap.get? a=gC) (h2:a≠X.env.locals) (h3:∀x c,X.env.cells.lookup x=f7 c->c≠a) (h4:∀p∈X.pn++pins,p.1≠a)
  (ok:∀H',yN X.prog X.w H' s.heap a o):Inv X pins σ (upd H a o) s:=by
 have ne:∀b u,H b=f7 u->b≠a:=λb u e z=>by rw[z,n] at e;cases e
 refine⟨I.ok,I.os,I.bare,⟨I.base.keep,I.base.slot,λb ob e nb hx=> ?_,I.base.there,λb xs e=> ?_,λb ob u e=> ?_,λb ps e=> ?_⟩,I.loc,I.cell,?_,λx c e=> ?_,λp hp=> ?_,λb u e=> ?_,I.len⟩
 .rw[zB (λz=>by rw[z,h1] at e;cases e)];exact I.base.free b ob e nb hx
 .have:=I.base.tups b xs e;rw[zB (ne b _ this)];exact this
 .have:=I.base.frzs b ob u e;rw[zB (ne b _ this)];exact this
 .obtain⟨m,q⟩:=I.base.tbls b ps e;exact⟨m,by rw[zB (ne b _ q)];exact q⟩
 .rw[zB (A8 h2)];exact I.free
 .rw[zB (h3 x c e)];exact I.freeC x c e
 .obtain⟨e,q,r⟩:=I.pin p hp;exact⟨e,by rw[zB (h4 p hp)];exact q,r⟩
 .by_cases hb:b=a
  .subst hb;rw[zJ] at e;cases e;exact ok _
  .rw[zB hb] at e;exact (I.hok b u e).stay (λ_ _ _ q=>q) (λc q=>by rw[zB (ne c _ q)];exact q) λc xs q=>by rw[zB (ne c _ q)];exact q
theorem Inv.goes {i:Nat} {n:Str} {m:Str->Option Value} {h':Heap} {v:Option Value} {t':Nat} (I:Inv X pins σ H s) (hN:X.N.Nodup) (hi:X.N[i]? =f7 n) (hn:s.heap.Ns X.env.locals m)
  (hl:∀(j:Nat) (x:Str) (v:V),X.N[j]? =f7 x->σ[j]? =f7 (f7 v)->Vis X.env.scope x->∃u,zW v u/\zpw X.env s.heap m x u)
  (kW:h'.Ns X.env.locals (λx=>if x=n then v else m x)) (hs:Heap.SameBut X.env.locals s.heap h'):Inv X pins (σ.set i gC) H {s with heap:=h',toks:=t'}:=by
 have hiσ:i<σ.length:=by rw[I.len];exact (u9.mp hi).1
 have cne:=I.cne;have trk:HOk X.prog X.w H h':=λb ob e=>by
  refine (I.hok b ob e).stay (λc w' hc q=>(hs.2 c ?_).trans q) (λ_ q=>q) λ_ _ q=>q;rintro rfl;rcases hc with rfl|hc
  .rw[I.free] at e;cases e
  .rw[I.free] at hc;cases hc
 refine⟨I.ok,I.os,I.bare,⟨λb o e n hb hx=> ?_,λb o e n hb hx=> ?_,I.base.free,λb o e hx=> ?_,I.base.tups,I.base.frzs,I.base.tbls⟩,⟨_,kW,λj y v' e1 e2 e3=> ?_⟩,λy c e=> ?_,I.free,I.freeC,λp hp=> ?_,trk,by simpa using I.len⟩
 .exact (hs.2 b (uF (uB (Heap.lt_size e) I.ok.above))).trans (I.base.keep b o e n hb hx)
 .obtain⟨sl,e1⟩:=I.base.slot b o e n hb hx;exact⟨sl,(hs.2 b (uF (uB (Heap.lt_size e) I.ok.above))).trans e1⟩
 .obtain⟨o',e1⟩:=I.base.there b o e hx;exact⟨o',(hs.2 b (uF (uB (Heap.lt_size e) I.ok.above))).trans e1⟩
 .by_cases hj:j=i
  .subst hj;rw[Bq hiσ] at e2;cases e2
  .rw[AX (A8 hj)] at e2;obtain⟨u',r',q⟩:=hl j y v' e1 e2 e3;refine⟨u',r',?_⟩;rcases q with⟨k,e⟩|⟨k,c,e,z⟩
   .refine .inl ⟨k,?_⟩;have:y≠n:=λe=>hj (zbs hN e1 (e ▸ hi));simp[this,e]
   .exact .inr ⟨k,c,e,z.sameBut hs (cne y c e)⟩
 .obtain⟨w',z⟩:=I.cell y c e;exact⟨w',z.sameBut hs (cne y c e)⟩
 .obtain⟨e,n,ne,nf,d⟩:=I.pin p hp;exact⟨(hs.2 p.1 ne).trans e,n,ne,nf,d⟩
end
def zj8 (X:Cx) (x:Str) (np:Pos) (c:Value):Prop:=∀(pins:List (Addr×Obj)) (σ:St) (H:Hp) (s:Shared) (Q:Value->Shared->Prop) (E:Value->Shared->Prop),Inv X pins σ H s->Q c s->wpAny (model X.prog X.w) X.A (eval (.Name x np) X.env) Q E s
theorem zgE {X:Cx} {x:Str} {np:Pos} {c:Value} (hg:Gl X x) (hm:X.mg x=f7 c) (hd:(x==("__debug__":Str))=kb:=by decide):zj8 X x np c:=λ_ _ _ _ _ _ I q=>Ui I hg hm q hd
def zgF (i:Nat) (hit:Value->Prop) (t:TSx) (th:TS):TS:=λD σ H=>t D (λcls H'=>hit cls/\∀e,H' e=gC->
 th {nx:=λσ' H'=>D.nx (σ'.set i gC) H',rt:=D.rt,bk:=λσ' H'=>D.bk (σ'.set i gC) H',ct:=λσ' H'=>D.ct (σ'.set i gC) H'} (σ.set i (f7 (.ref e))) (upd H' e (zd0 e cls))) σ H
theorem zj9 {X:Cx} {body ib:List Stmt} {b₀:Stmt} {x n:Str} {np hp pos:Pos} {i:Nat} {c:Value} {t:TSx} {th:TS} {L:Addr} (ht:PSx X body t) (fm:X.stack=X.env::X.outer) (mh:X.env.frame=f7 L) (hex:X.ex=[])
  (jW:∀e,zj8 (X.hand e) x np c) (hN:X.N.Nodup) (hi:X.N[i]? =f7 n) (hl:X.env.scope.names.lookup n=f7 .local)
  (hs:∀e,PSs (X.hand e) (b₀::ib) th):
  PS X (.Try body [.ExceptHandler (f7 (.Name x np)) (f7 n) (b₀::ib) hp] [] [] pos) (zgF i (λcls=>Ax X.K cls c=f7 ia) t th):=by
 intro pins s σ H D I h;refine wpAny_Try_except (wpAny_mono (ht pins s σ H D _ I h) (λf s1 q=> ?_) (λev s1 hx=> ?_))
 .cases f with
  |next=>exact wpAny_execs_nil q
  |ret u=>exact q
  |brk=>exact q
  |cont=>exact q
 .obtain⟨e,cls,H0,H',s0,rfl,I0,F,hit,ra⟩:=hx;obtain⟨B,tt,fl,cov⟩:=F.fly;have frames:=I.ok.frames;rw[fm] at fl frames;refine wpAny_mono (Vp (Vq _ _) (wpAny_looks_onW (E:=λ_ _=>False) (Q:=λ_ s2=>∃h1,s2={s1 with heap:=h1}/\Heap.HeldW B (X.env::X.outer) e cls (.ref tt) L h1/\s1.heap.UpToSlots h1) frames mh fl λh1 oi mR=>⟨h1,rfl,oi,mR⟩)) (λ_ s2 kz=> ?_) λ_ _ h3=>h3.1.elim;obtain⟨⟨h1,rfl,oi,mR⟩,qA⟩:=kz;refine wpAny_mono (Vp (Yg _ _) (wpAny_landsW (E:=λ_ _=>False) (Q:=λ_ s3=>∃h2,s3={s1 with heap:=h2}/\Heap.FlyingW B (X.env::X.outer) e cls (.ref tt) h2/\h1.UpToSlots h2) oi λh2 jC mQ=>⟨h2,rfl,jC,mQ⟩)) (λ_ s3 ka=> ?_) λ_ _ h3=>h3.1.elim;obtain⟨⟨h2,rfl,jC,mQ⟩,qz⟩:=ka;have oS:∀o,h2.get? e=f7 o->o.dict=gC:=λo q=>by
   obtain⟨ob,iQ,_⟩:=fl.there;exact ((qA.trans qz).at iQ q).1.trans (F.nd ob iQ)
  obtain⟨un,hok,lD⟩:=F.moved (by rw[fm];exact fl) cov jC.1 (mR.trans mQ);have nx:∀b∈([]:List Addr),(b∈X.ex\/X.s₀.heap.objs.size<=b)/\b≠X.env.locals/\(∀x c,X.env.cells.lookup x=f7 c->c≠b)/\∀p∈X.pn++pins,p.1≠b:=λb hb=>by cases hb
  have I2:Inv X pins σ H' {s1 with heap:=h2}:=I0.call' F.os un hok F.bare nx;have F2:Fly X.prog X.w X.stack H0 s0 e cls H' {s1 with heap:=h2}:=⟨F.os,F.bare,un,hok,⟨B,tt,by rw[fm];exact jC,lD⟩,F.new,F.free,oS⟩;refine wpAny_handleBy_cons (codeAny_handlers_test (jW e pins σ H' _ _ _ (I2.hand e) ?_)) (by intro q;cases q);have ty:PySem.W.Looks (model X.prog X.w) h2 (typeOf (.ref e)) cls:=by
   obtain⟨ob,iQ,hc⟩:=jC.there;subst hc;exact (DH iQ).andThen .now
  refine (PySem.W.exm_one I2.kIn ty hit).here ?_;show codeAny _ _ _ _ _;refine codeAny_handlers_suite_as (wpAny_mono (Vp (Yg _ _) (lands_againW (E:=λ_ _=>False) (Q:=λ_ s3=>∃h3,s3={s1 with heap:=h3}/\Heap.FlyingW B (X.env::X.outer) e cls (.ref tt) h3/\h2.UpToSlots h3) jC λh3 mB sm3=>⟨h3,rfl,mB,sm3⟩)) (λ_ s3 ka=> ?_) λ_ _ h3=>h3.1.elim);obtain⟨⟨h3,rfl,mB,sm3⟩,qy⟩:=ka;obtain⟨qc,nN,sT⟩:=F2.moved (by rw[fm];exact jC) lD mB.1 sm3;have I3:Inv X pins σ H' {s1 with heap:=h3}:=I0.call' F.os qc nN F.bare nx;obtain⟨qj,sZ,kU,ot,pG,_⟩:=mB.first
  have qk:qj.dict=gC:=by
   obtain⟨ob,iQ,_⟩:=jC.there;exact (qy.at iQ kU).1.trans (oS ob iQ)
  have old:∀b o,s0.heap.get? b=f7 o->b≠e:=λb o q z=>by
   have:=F.new;rw[<-z,q] at this;cases this
  obtain⟨m0,⟨oL,tT,tV,nQ,_⟩,_⟩:=id I0.loc;have I4:Inv X pins σ (upd H' e (zd0 e cls)) {s1 with heap:=h3}:=by
   refine I3.adopt F.free ?_ (A8 (old _ _ nQ)) (λy c' ec=> ?_) (λp rz=>old _ _ (I0.pin p rz).1) λ_=>zmk kU ot qk pG
   .cases q:X.s₀.heap.get? e with
    |none=>rfl
    |some o=>
     obtain⟨o',q'⟩:=I0.base.there e o q (by rw[hex];simp);exact absurd rfl (old _ _ q')
   .obtain⟨v,o,q,_⟩:=I0.cell y c' ec;exact old _ _ q
  have nE:=ra e F.free;refine zbt (X:=X.hand e) (I4.hand e) hN hi (.inl hl) (v:= .ref e) rfl (λs5 I5=> ?_) (.inr hl);refine wpAny_mono (hs e pins s5 _ _ _ I5 nE) (λf s6 q6=> ?_) λ_ _ z=>z.elim;have fin:∀{σ6:St} {H6:Hp} {R:Shared->Prop},Inv (X.hand e) pins σ6 H6 s6->(∀s7,Inv X pins (σ6.set i gC) H6 s7->R s7)->
    wpAny (model X.prog X.w) X.A (do bindName X.env n .none;unbindBehindTheSuite X.env n hp) (λ_ s7=>R s7) X.xe s6:=λ{σ6 H6 R} I6 k=>by
   obtain⟨m6,nS,rP⟩:=id I6.loc;refine wpAny_nameGoes_keeps hl nS (by rw[I.ok.kind];rfl) λh' v kW iB=>k _ ?_;exact (I6.unhand I.ok).goes hN hi nS rP kW iB
  cases f with
  |next=>
   obtain⟨σ6,H6,I6,q⟩:=q6;exact fin I6 λs7 I7=>⟨_,H6,I7,q⟩
  |brk=>
   obtain⟨σ6,H6,I6,q⟩:=q6;exact fin I6 λs7 I7=>⟨_,H6,I7,q⟩
  |cont=>
   obtain⟨σ6,H6,I6,q⟩:=q6;exact fin I6 λs7 I7=>⟨_,H6,I7,q⟩
  |ret u=>
   obtain⟨v,σ6,H6,I6,r,q⟩:=q6;exact fin I6 λs7 I7=>⟨v,_,H6,I7,r,q⟩
open PySem.Builtin.Int (intBits)
def znH (i j:Int):Prop:=∃m n:Nat,intBits i<=m/\intBits j<=n/\m+n<=134217728
def zka (i j:Int):Prop:=j≠0/\intBits j<=9000
section
variable {X:Cx}
theorem Uk:OpR X (binaryOp .Mult) (rI znH λi j=> .int (i*j)):=opI λ_ _ _ _ _ _ _ hc q=>by
 obtain⟨m,n,h1,h2,h3⟩:=hc;exact mul_int q (IntMulOk.of_le h1 h2 h3)
theorem zbE:OpR X (binaryOp .FloorDiv) (rI zka λi j=> .int (i.fdiv j)):=opI λi j _ _ _ _ _ hc q=>floordiv_int hc.1 q (.inl (PyProof.noPylong_of_log2 (by
 have h:=z3.mp hc.2;by_cases z:j.natAbs=0
 .rw[z];decide
 .exact (Nat.log2_lt z).mpr h)))
noncomputable def zop (lo st:Int) (n:Nat):It:=⟨λi _=>i<n,λi H x H'=>H'=H/\x= .int (lo+i*st),λi _=>n<=i⟩
theorem ze9 {P:Program} {w:World} {K:u5} {tg:Expr} (it:Addr) (lo sp:Int) (n:Nat):ziB P w K tg (zop lo sp n) [it] it (λi h=>IsRangeIter h it (lo+(i:Nat)*sp) ((n:Int)-(i:Nat)) sp) where
 mem:=by simp
 obj:=λi h st b hb=>by
  have e:b=it:=by simpa using hb
  subst e
  exact⟨_,st,λv z=>by
   have z':Data.fields _=Data.cell v:=z
   cases z'⟩
 keep:=λi h h' st k=>k it (by simp) _ st
 item:=by
  intro X hP hw hK hc i pins s σ H E I hf st hg;subst hP hw hK;obtain⟨f0,f1,f2,f3,f4,f5⟩:=hf it (by simp);have W:=Walks.range (prog:=X.prog) (w:=X.w) (I.ok.hd hc) it lo sp n;refine W.item i s _ _ hg st λv h' tk hv st' kk=> ?_;obtain⟨t,rfl⟩:=hv;have I1:Inv X pins σ H {s with heap:=h',toks:=tk}:=I.turned (λb o hb e=>kk b o (by simpa using hb) e) f0 f1 f3 f4 f5;exact⟨_,rfl,zeZ (s:={s with heap:=h',toks:=tk}) (n:="range_iterator") st' rfl rfl ∅ ⟨.int _,H,I1,⟨t,rfl⟩,⟨rfl,rfl⟩,st',λb hb=>(hf b hb).1⟩⟩
 done:=by
  intro X hP hw hK hc i pins s σ H E I hf st hg;subst hP hw hK;obtain⟨f0,f1,f2,f3,f4,f5⟩:=hf it (by simp);exact wpAny_pyNext_range_end (I.ok.hd hc) st (by have:n<=i:=hg;omega) λh' eb=>⟨rfl,I.turned (t':=s.toks) (λb o hb e=>eb b o hb e) f0 f1 f3 f4 f5⟩
 self:=λ_ _ _ _ _ st h=>wpAny_pyIter_rangeiter st h
end
section
variable {prog:Program} {w:World} {A:Around} {E:Value->Shared->Prop} {s:Shared} {K:u5} {x D:Addr} {ox:Obj}
theorem zd1 {M:Model} {nameV:Value} {Q:Unit->Shared->Prop} (X:K.In s.heap) (I:BL s.heap x ox D gC) (be:ub K D (.type "BaseException")=f7 ia) (hq:Q () s):
  wpAny M A (checkBuiltinCall "BaseException.__getattribute__" ⟨[.ref x,nameV],[]⟩) Q E s:=by
 obtain⟨hh,g,d,t,os⟩:=s;have hk:builtinKind "BaseException.__getattribute__"=f7 .slot:=by decide+kernel
 have hsplit:splitId "BaseException.__getattribute__"=f7 ("BaseException","__getattribute__"):=by decide+kernel
 have L0:=I.type (M:=M);have L1:=PySem.W.looks_mroIn (M:=M) X be;have ha:=F.args_bexc_ga (.ref x) nameV;simp only[checkBuiltinCall,hk,hsplit];refine wpAny_bind ?_;unfold isInstance;refine wpAny_bind (L0.at (L1.at ?_))
 repeat (first|wp_step)
 exact hq
theorem ziN {Q:Option Value->Shared->Prop} (X:K.In s.heap) (I:BL s.heap x ox D gC) (ga:uk K (.ref D) "__getattribute__"=f7 (f7 (.builtin "BaseException.__getattribute__"))) (noga:uk K (.ref D) "__getattr__"=f7 gC)
  (be:ub K D (.type "BaseException")=f7 ia) (hf:Cj K D gC "__class__"=f7 (.bind (.builtin "getset_descriptor.__get__") (.builtin "object.__class__"))) (hm:ub K D (.type "object")=f7 ia)
  (h:Q (f7 (.ref D)) {s with toks:=s.toks+1}):wpAny (model prog w) A (getAttr? (.ref x) "__class__") Q E s:=by
 obtain⟨hh,g,d,t,os⟩:=s;have L0:=I.type (M:=model prog w);have L1:=Bz (M:=model prog w) X ga;have L2:=Bz (M:=model prog w) X noga;have L3:=PySem.W.looks_find (M:=model prog w) X I hf;have hb:=F.attrBase_ValueError.ga.bind (.ref x);unfold getAttr? getAttrBy? getAttrBy;refine wpAny_bind (wpAny_mkText (wpAny_bind (wpAny_attempt (wpAny_holding (wpAny_bind (L0.at (wpAny_bind (L1.at ?_))))))));dsimp only;rw[if_neg (show ¬(onTheHeap (Value.ref D)&&(Value.builtin "BaseException.__getattribute__"==Value.builtin "object.__getattribute__"))=ia by rw[show (Value.builtin "BaseException.__getattribute__"==Value.builtin "object.__getattribute__")=kb by decide+kernel];simp)];unfold getAttrByItsOwn hookBefore;refine wpAny_bind ?_;show wpAny _ _ (typeLookup (.ref D) "__getattr__") _ _ _;refine L2.at ?_;refine wpAny_bind (wpAny_attempt (wpAny_holding ?_));unfold callGetattribute boundAndCalled;rw[if_neg ∅,hb];refine wpAny_bind (wpAny_pure ?_);dsimp only;refine wpAny_call (codeAny_call_builtin F.attrBase_ValueError.ga.plain F.entry_bexc_ga (zd1 (ox:=ox) X I be ?_));unfold Builtin.«object.__getattribute__»;refine wpAny_bind (wpAny_of_eq (show slotArgs "__getattribute__" 1 {pos:=[Value.ref x]++[Value.str (Str.ofString "__class__") t]}=pure (.ref x,[Value.str (Str.ofString "__class__") t]) from rfl) ?_);dsimp only;refine wpAny_bind (wpAny_of_eq (show Builtin.ObjectAttr.attrName (Value.str (Str.ofString "__class__") t)=pure (Str.ofString "__class__") from rfl) ?_);refine wpAny_bind (L0.at (wpAny_bind (L3.at ?_)));dsimp only;show wpAny _ _ (do ret (<-holding [Value.builtin "object.__class__"] (call (.builtin "getset_descriptor.__get__") [.builtin "object.__class__",.ref x,.ref D]))) _ _ _;refine wpAny_bind (wpAny_holding (wpAny_call (PySem.W.class_get (ox:=ox) (od:=gC) X I hm ?_)));exact wpAny_pure (PySem.W.handed_on rfl (wpAny_pure h))
end
section
variable {X:Cx}
structure YR (K:u5) (D:Addr):Prop where
 ga:uk K (.ref D) "__getattribute__"=f7 (f7 (.builtin "BaseException.__getattribute__"))
 noga:uk K (.ref D) "__getattr__"=f7 gC
 be:ub K D (.type "BaseException")=f7 ia
 hc:(AG K D).isSome=ia
 ha:uk K (.ref D) "__class__"=f7 (f7 (.builtin "object.__class__"))
 hn:Bn K (.builtin "object.__class__") "__get__"=f7 (f7 (.builtin "getset_descriptor.__get__"))
 htk:Ci K (.builtin "object.__class__")=f7 ia
 hm:ub K D (.type "object")=f7 ia
theorem zkb {K:u5} {x D:Addr} (e:YR K D):DC K (.ref x) (.ref D) (λh=>∃ox,BL h x ox D gC) where
 ty:=λ_ _ _ ⟨_,I⟩=>I.type
 it:=λ_ _ X _=>by
  obtain⟨cd,dS⟩:=y7.mp e.hc;unfold AG at dS;split at dS
  .rename_i ho;intro A' Q' E' s' k q;unfold isType loadHead;exact wpAny_bind (wpAny_loadPart (k _ _ (X _ _ ho)) (wpAny_pure q))
  .cases dS
 ne:=λh tp dd ah n sl X r9=>by
  obtain⟨cd,dS⟩:=y7.mp e.hc;refine D5.mpr λq=> ?_;have z:D=tp:=Value.ref.inj (beq_iff_eq.mp q);subst z;unfold AG at dS;split at dS
  .rename_i ho;have y:=(X _ _ ho).symm.trans r9;cases y
  .cases dS
 ca:=λ{_ _ _ _ _ s} X I k=>by
  obtain⟨ox,I⟩:=I;obtain⟨cd,dS⟩:=y7.mp e.hc;have hf:Cj K D gC "__class__"=f7 (.bind (.builtin "getset_descriptor.__get__") (.builtin "object.__class__")):=by
   unfold Cj;rw[dS,uz,e.ha,uz];simp[e.hn,e.htk]
  exact ziN X I e.ga e.noga e.be hf e.hm k
inductive TyX (K:u5) (H:Hp):V->Value->Prop where
 |of {x:V} {t:Value} (h:zaY K H x t):TyX K H x t
 |exc {e D:Addr} (h:H e=f7 (zd0 e (.ref D))) (k:YR K D):TyX K H (.ref e) (.ref D)
 |sqt {a:Addr} {xs:List V} (h:SqT K H a xs):TyX K H (.ref a) (.type "tuple")
 |sql {a:Addr} {xs:List V} (h:SqL K H a xs):TyX K H (.ref a) (.type "list")
theorem TyX.kit {pins:List (Addr×Obj)} {σ:St} {H:Hp} {s:Shared} {x:V} {u t:Value} (I:Inv X pins σ H s) (rx:zW x u) (ty:TyX X.K H x t):∃Hh,DC X.K u t Hh/\Hh s.heap:=by
 cases ty with
 |of ty=>
  cases ty with
  |non=>cases (show u=Value.none from rx);exact⟨_,PySem.W.kitx_none,A5⟩
  |bl y=>cases (show u=Value.bool y from rx);exact⟨_,PySem.W.kitx_bool,A5⟩
  |int i=>obtain⟨t,q⟩:=(show ∃t,u=Value.int i t from rx);cases q;exact⟨_,PySem.W.kitx_int,A5⟩
  |str y=>obtain⟨t,q⟩:=(show ∃t,u=Value.str y t from rx);cases q;exact⟨_,PySem.W.kitx_str,A5⟩
  |flt y=>obtain⟨t,q⟩:=(show ∃t,u=Value.float y t from rx);cases q;exact⟨_,PySem.W.kitx_float,A5⟩
  | @lst a xs ea=>
   cases (show u=Value.ref a from rx);obtain⟨_,_,n,_,h1⟩:=(show yN X.prog X.w H s.heap a (.lst xs) from I.hok a _ ea);exact⟨_,BV,⟨_,h1,rfl⟩⟩
  | @frz a ob xs ea=>
   cases (show u=Value.ref a from rx);obtain⟨_,_,_,n,_,h1⟩:=(show yN X.prog X.w H s.heap a (.frz ob (.lst xs)) from I.hok a _ ea);exact⟨_,BV,⟨_,h1,rfl⟩⟩
  | @tup a xs ea=>
   cases (show u=Value.ref a from rx);obtain⟨_,_,_,p⟩:=(show yN X.prog X.w H s.heap a (.tup xs) from I.hok a _ ea);obtain⟨o,h1,h2,_⟩:=p;exact⟨_,CY,⟨o,h1,h2⟩⟩
  | @dK a ae ea=>
   cases (show u=Value.ref a from rx);obtain⟨_,_,vs,_,p⟩:=(show yN X.prog X.w H s.heap a (.dK ae) from I.hok a _ ea);obtain⟨o,es,ep,h1,h2,_⟩:=p;exact⟨_,D6,⟨o,h1,h2.1⟩⟩
  | @dT a ae ea=>
   cases (show u=Value.ref a from rx);obtain⟨_,_,xs,_,o,es,ep,h1,h2,_⟩:=(show yN X.prog X.w H s.heap a (.dT ae) from I.hok a _ ea);exact⟨_,D6,⟨o,h1,h2.1⟩⟩
  | @ins a C dx fs ea cl ha hn htk hm=>
   cases (show u=Value.ref a from rx);obtain⟨mA,O,_⟩:=zbe I.hok ea;obtain⟨od,J,_⟩:=O.look;exact⟨_,PySem.W.kitx_own (cl.get _) cl.hd ha hn htk hm,J⟩
 | @sqt a xs h=>
  cases (show u=Value.ref a from rx);obtain⟨ah,_,⟨o,h1,h2,_⟩,_⟩:=I.tuple h;exact⟨_,CY,⟨o,h1,h2⟩⟩
 | @sql a xs h=>
  cases (show u=Value.ref a from rx);obtain⟨ah,_,⟨o,n,h1,h2,_⟩,_⟩:=I.list h;exact⟨_,BV,⟨o,h1,h2⟩⟩
 | @exc e D h k=>
  cases (show u=Value.ref e from rx);obtain⟨⟨ob,h1,h2,h3,vs,h4⟩,_⟩:=(show yN X.prog X.w H s.heap e (zd0 e (.ref D)) from I.hok e _ h);refine⟨_,zkb k,ob,h1,h2,?_,?_⟩
  .unfold PySem.W.notCls;rw[h4]
  .rw[h3];trivial
noncomputable def ziO:V->Option Value
 | .ref a=>f7 (.ref a)
 | .ty n=>f7 (.type n)
 |_=>gC
theorem zfa {c:V} {cv u:Value} (h:ziO c=f7 cv) (r:zW c u):u=cv:=by
 cases c with
 |ref a=>cases h;exact r
 |ty n=>cases h;exact r
 |_=>cases h
theorem zW.nb {x:V} {u:Value} (r:zW x u):u≠ .builtin "__main__.__loader__#opaque":=by
 cases x with
 |non=>rintro rfl;cases r
 |bl b=>rintro rfl;cases r
 |int i=>rintro rfl;obtain⟨_,q⟩:=r;cases q
 |str i=>rintro rfl;obtain⟨_,q⟩:=r;cases q
 |byt i=>rintro rfl;obtain⟨_,q⟩:=r;cases q
 |flt i=>rintro rfl;obtain⟨_,q⟩:=r;cases q
 |ref a=>rintro rfl;cases r
 |ty a=>rintro rfl;cases r
def zkc (K:u5):List V->Hp->VK->Prop:=λxs H Q=>∃x c cv t b,xs=[x,c]/\ziO c=f7 cv/\TyX K H x t/\uN K t cv=f7 b/\Q (.bl b) H
theorem zkd:vx X (.builtin "isinstance") (zkc X.K):=by
 intro pins s σ H xs us Q I r h;obtain⟨x,c,cv,t,b,rfl,hc,ty,e,q⟩:=h;obtain⟨u,w',rfl,ru,rw'⟩:=zhF r;obtain rfl:=zfa hc rw';obtain⟨Hh,Z,p⟩:=ty.kit I ru;exact PySem.W.kia_one Z I.kIn p e ru.nb λtk=>⟨.bl b,H,I.tok tk,rfl,q⟩
def zke (K:u5):List V->Hp->VK->Prop:=λxs H Q=>∃x tp cs ah t b,xs=[x,.ref tp]/\H tp=f7 (.tup cs)/\cs.map ziO=ah.map f7/\TyX K H x t/\Ay K t ah=f7 b/\Q (.bl b) H
theorem zda:∀{cs:List V} {ah us:List Value},cs.map ziO=ah.map f7->zZ cs us->us=ah
 |[],ah,_,h,.nil=>by
  cases ah with
  |nil=>rfl
  |cons a r=>cases h
 |c::cs,ah,_,h,.cons r rr=>by
  cases ah with
  |nil=>cases h
  |cons a l=>
   rw[uE,uE] at h;injection h with h1 h2
   rw[zfa h1 r,zda h2 rr]
theorem ziP:vx X (.builtin "isinstance") (zke X.K):=by
 intro pins s σ H xs us Q I r h;obtain⟨x,tp,cs,ah,t,b,rfl,ht,hc,ty,e,q⟩:=h;obtain⟨u,w',rfl,ru,rw'⟩:=zhF r;cases (show w'=Value.ref tp from rw');obtain⟨Hh,Z,p⟩:=ty.kit I ru;obtain⟨_,its',rv,o,h1,h2,n,h3⟩:=(show yN X.prog X.w H s.heap tp (.tup cs) from I.hok tp _ ht);obtain rfl:=zda hc rv;obtain⟨oc,od,qi,gi⟩:=o;obtain rfl:oc=_:=h2;obtain rfl:qi=_:=h3.1;exact PySem.W.kia_tup Z I.kIn p h1 e ru.nb λtk=>⟨.bl b,H,I.tok tk,rfl,q⟩
end
theorem Vr {K:u5} {t:Value}:uN K t t=f7 ia:=by unfold uN;rw[if_pos (by simp)]
theorem zd2 {K:u5}:uN K (.type "bool") (.type "int")=f7 ia:=by
 have h:(fastBuiltinMro "bool").map (·.contains (.type "int"))=f7 ia:=by decide+kernel
 have hm:Ab "int"=ia:=by decide+kernel
 unfold uN AV;rw[if_neg ∅];show (if Ab "int"=ia then Aw K (.type "bool") (.type "int") else gC)=_;rw[if_pos hm];exact h
theorem zd3 {K:u5}:uN K (.type "int") (.type "bool")=f7 kb:=by
 have h:(fastBuiltinMro "int").map (·.contains (.type "bool"))=f7 kb:=by decide+kernel
 have hm:Ab "bool"=ia:=by decide+kernel
 unfold uN AV;rw[if_neg ∅];show (if Ab "bool"=ia then Aw K (.type "int") (.type "bool") else gC)=_;rw[if_pos hm];exact h
end L2
namespace L2
open PySem PySem.Spec PyProof.Rows
inductive D where
 |non|bl (b:Bool)|int (i:Int)|str (x:Str)|tup (l:List D)|lst (l:List D)|ins (C:Addr) (ns:List Str) (l:List D)
mutual
inductive Is (K:u5) (H:Hp):V->D->Prop where
 |non:Is K H .non .non
 |bl (b:Bool):Is K H (.bl b) (.bl b)
 |int (i:Int):Is K H (.int i) (.int i)
 |str (x:Str):Is K H (.str x) (.str x)
 |tup {a:Addr} {xs:List V} {ds:List D}:SqT K H a xs->IsL K H xs ds->Is K H (.ref a) (.tup ds)
 |lst {a:Addr} {xs:List V} {ds:List D}:SqL K H a xs->IsL K H xs ds->Is K H (.ref a) (.lst ds)
 |ins {a C dx:Addr} {ns:List Str} {xs:List V} {ds:List D}:H a=f7 (.ins C dx (ns.zip xs))->ns.length=xs.length->IsL K H xs ds->Is K H (.ref a) (.ins C ns ds)
inductive IsL (K:u5) (H:Hp):List V->List D->Prop where
 |nil:IsL K H [] []
 |cons {v:V} {d:D} {vs:List V} {ds:List D}:Is K H v d->IsL K H vs ds->IsL K H (v::vs) (d::ds)
end
theorem vz {H:Hp} {p:Addr} {o:HO} (h:H p=gC):Xl H (upd H p o):=λb u e=>by rw[zB (vX e h)];exact e
theorem IsL.len {K:u5} {H:Hp}:∀{vs:List V} {ds:List D},IsL K H vs ds->vs.length=ds.length
 |_,_,.nil=>rfl
 |_,_,.cons _ l=>by rw[ux,ux,l.len]
theorem IsL.get {K:u5} {H:Hp}:∀{vs:List V} {ds:List D} {i:Nat} {d:D},IsL K H vs ds->ds[i]? =f7 d->∃v,vs[i]? =f7 v/\Is K H v d
 |_,_,_,_,.nil,e=>by simp at e
 |_,_,0,_,.cons h _,e=>by simp at e;subst e;exact⟨_,rfl,h⟩
 |_,_,i+1,d,.cons _ l,e=>by
  obtain⟨v,e1,e2⟩:=l.get (i:=i) (d:=d) (by simpa using e);exact⟨v,by simpa using e1,e2⟩
theorem Is.int_inv {K:u5} {H:Hp} {v:V} {i:Int} (h:Is K H v (.int i)):v= .int i:=by cases h;rfl
theorem Is.bl_inv {K:u5} {H:Hp} {v:V} {b:Bool} (h:Is K H v (.bl b)):v= .bl b:=by cases h;rfl
theorem Is.str_inv {K:u5} {H:Hp} {v:V} {b:Str} (h:Is K H v (.str b)):v= .str b:=by cases h;rfl
theorem Is.non_inv {K:u5} {H:Hp} {v:V} (h:Is K H v .non):v= .non:=by cases h;rfl
theorem Is.tup_inv {K:u5} {H:Hp} {v:V} {ds:List D} (h:Is K H v (.tup ds)):∃a xs,v= .ref a/\SqT K H a xs/\IsL K H xs ds:=by cases h with|tup a b=>exact⟨_,_,rfl,a,b⟩
theorem Is.lst_inv {K:u5} {H:Hp} {v:V} {ds:List D} (h:Is K H v (.lst ds)):∃a xs,v= .ref a/\SqL K H a xs/\IsL K H xs ds:=by cases h with|lst a b=>exact⟨_,_,rfl,a,b⟩
noncomputable abbrev dQ (a b:Int):D:= .tup [.int a,.int b]
section
variable {σ:St} {H:Hp} {Q:VK} {ta tb tc:TE} {D':UJ} {v:V} {i:Nat}
end
local macro_rules | `(tactic| walk_at "rd") => `(tactic| repeat (first | refine oY ?_ | refine ph ?_ | refine lV ?_ | refine oW rfl ?_ | refine tm ?_ | refine qJ ?_ | refine qL ?_ | refine tq ?_ | refine qH ?_ | refine pf ?_ | refine tD ?_ | refine tu ?_ | refine qK ?_ | refine p7 ?_ | refine pj ?_ | refine qI ?_ | refine nh ?_ | refine p6 ?_ | refine n4 ?_ | refine pe ?_ | refine n5 ?_ | refine n8 ?_ | refine oZ ?_ | refine mY ?_ | refine pd ?_ | refine p8 ?_ | refine nc ?_ | refine ng ?_ | refine qM ?_ | refine oX ?_ | refine p9 ?_ | refine p5 ?_ | refine mZ ?_ | refine lU ?_))
end L2
namespace L2
open PySem PySem.Spec PyProof.Rows
section
variable {σ:St} {H:Hp} {Q:VK} {D':UJ} {E:XK}
end
theorem Fun.okE {P:Program} {w:World} {K:u5} {mg:Str->Option Value} {base:Heap} {x qual:Str} {st:Stmt} {f:Addr} {fd:FuncData} {N ps:List Str} {k:Nat} {sp:Sp} (F:Fun K x qual st f fd) (S:zr N ps (ze st)) (len:∀vs H Q E,sp vs H Q E->vs.length=ps.length)
  (dI:∀(bT:Value) (A:Around) (outer:List Env) (s:Shared) (H:Hp) (vs:List V) (Q:VK) (E:XK),xS k (A.deeper (envOfC qual (ze st) s.heap.objs.size f bT))->sp vs H Q E->
   ∃t,PSs (Xk (CXE P w) P w K mg base N qual (ze st) f bT A outer s H E) (wZ st) t/\t {nx:=λ_ H'=>Q .non H',rt:=Q} (ZI N vs) H):ZP P w K mg base (CXE P w) (k+1) f fd ps sp:=by
 obtain⟨oc,od,kV,doc,pm,an,bT,ct,gi,rfl,lk,dS⟩:=F.ex;exact zpM lk dS S len λA outer s H vs Q E hr i6=>dI bT A outer s H vs Q E hr i6
theorem zoq {K:u5} {C D:Addr} {b:Bool} (h1:ub K D (.type "BaseException")=f7 ia) (h2:(AG K D).isSome=ia) (h3:uR K (.ref D)=f7 (.type "type")) (h4:ub K C (.ref D)=f7 b):
  Ax K (.ref C) (.ref D)=f7 b:=by
 unfold Ax;have e:Aw K (.ref D) (.type "BaseException")=f7 ia:=h1;rw[e,if_pos ∅];unfold AV;show (if ((AG K D).isSome&&uR K (.ref D)==f7 (.type "type"))=ia then Aw K (.ref C) (.ref D) else gC)=f7 b;rw[h2,h3,if_pos ∅];exact h4
theorem Wq {K:u5} {C D:Addr} {b:Bool} (h2:(AG K D).isSome=ia) (h3:uR K (.ref D)=f7 (.type "type")) (h4:ub K C (.ref D)=f7 b) (h5:C=D->b=ia):
  uN K (.ref C) (.ref D)=f7 b:=by
 unfold uN;by_cases h:C=D
 .rw[if_pos (by simp[h]),h5 h]
 .rw[if_neg (by simp[h])];unfold AV;show (if ((AG K D).isSome&&uR K (.ref D)==f7 (.type "type"))=ia then Aw K (.ref C) (.ref D) else gC)=f7 b;rw[h2,h3,if_pos ∅];exact h4
section
variable {σ:St} {H:Hp} {Q:VK} {D':UJ} {E:XK} {EX:Value->Hp->Prop}
end
section
variable {X:Cx} {K:u5}
theorem zi (h:X.K=K:=by rfl):IxR X (zmc K):=h ▸ zjR
theorem yX (h:X.K=K:=by rfl):IxR X (zmb K):=h ▸ zhK
theorem xj (h:X.K=K:=by rfl):vx X (.builtin "isinstance") (zkc K):=h ▸ zkd
theorem zgG (h:X.K=K:=by rfl):vx X (.builtin "isinstance") (zke K):=h ▸ ziP
theorem yj (h:X.K=K:=by rfl):vx X (.builtin "len") (λxs H Q=>∃p ys,xs=[.ref p]/\(SqL K H p ys\/SqT K H p ys)/\Q (.int ys.length) H):=h ▸ zdV
theorem zgH (h:X.K=K:=by rfl):vx X (.type "list") (λxs H Q=>∃p ys,xs=[.ref p]/\(SqL K H p ys\/SqT K H p ys)/\∀l,H l=gC->Q (.ref l) (upd H l (.lst ys))):=h ▸ zdW
theorem vq (h:X.K=K:=by rfl):vx X (.type "tuple") (λxs H Q=>∃p ys,xs=[.ref p]/\((SqL K H p ys/\∀l,H l=gC->Q (.ref l) (upd H l (.tup ys)))\/(SqT K H p ys/\Q (.ref p) H))):=h ▸ zcB
theorem ziQ (h:X.K=K:=by rfl):OpR X (compareOp .NotIn) (rIn K ia):=h ▸ zdU
theorem zkf (h:X.K=K:=by rfl):SlR X (zjS K):=h ▸ zmd
variable {tg l:Expr} {tl:TE}
theorem Zr (hl:PE X l tl) (h:X.K=K:=by rfl):PI X tg l (zjG K tl):=h ▸ zlZ hl
theorem Zj (hl:PE X l tl) (h:X.K=K:=by rfl):PI X tg l (zn6 K tl):=h ▸ zn7 hl
theorem yC {sc:Scope}:vy X sc [] []:=trivial
theorem yD {sc:Scope} {r:List (Option Nat)} {n:List Str} {x:Str} (h:vy X sc r n):vy X sc (gC::r) (x::n):=h
theorem zL {sc:Scope} {r:List (Option Nat)} {n:List Str} {x:Str} {i:Nat} (h1:X.N[i]? =f7 x) (h2:sc.names.lookup x=f7 .free) (h:vy X sc r n):vy X sc (f7 i::r) (x::n):=⟨⟨h1,h2⟩,h⟩
end
noncomputable def zkg (osc sc:Scope):Bool:=sc.names.all (λy=>y.2 != .cell)&&sc.kind== .function&&sc.names.all (λy=>y.2 != .local||sc.names.lookup y.1==f7 .local)&&
 sc.names.all (λy=>y.2 != .free||(osc.names.lookup y.1==f7 .cell||osc.names.lookup y.1==f7 .free))
theorem blk {X:Cx} {osc sc:Scope} (hs:X.env.scope=osc) (h:zkg osc sc=ia):Wo X sc:=by
 unfold zkg at h;simp only[uX,y8,bne_iff_ne,ne_eq,beq_iff_eq,BD] at h;obtain⟨⟨⟨h1,h2⟩,h3⟩,h4⟩:=h;refine⟨h1,h2,λy hy e=>(h3 y hy).resolve_left λz=>z e,λy hy e=> ?_⟩;show X.env.scope.names.lookup y.1=_\/X.env.scope.names.lookup y.1=_;rw[hs];exact (h4 y hy).resolve_left λz=>z e
section
variable {g:TG} {tb:TS} {σ:St} {H:Hp} {nx:St->Hp->Prop} {rt:VK}
end
mutual
noncomputable def D.depth:D->Nat
 | .tup l=>D.depths l+1
 | .lst l=>D.depths l+1
 | .ins _ _ _=>1000
 |_=>0
noncomputable def D.depths:List D->Nat
 |[]=>0
 |d::r=>max (D.depth d) (D.depths r)
end
section
variable {X:Cx} {pins:List (Addr×Obj)} {σ:St} {H:Hp} {s:Shared}
end
section
variable {σ:St} {H:Hp} {Q:VK} {D':UJ} {cap:List (Option Nat)} {wi:TI} {g:TG} {tt:TT} {te:TE}
variable {acc:Addr} {H0:Hp} {Qh:Hp->Prop}
end
section
variable {X:Cx}
end
section
variable {X:Cx} {pins:List (Addr×Obj)} {σ:List (Option V)} {H H':Hp} {s:Shared} {h':Heap}
end
section
variable {X:Cx}
end
structure ZA (z TI TO i1 i2:Addr):Prop where
 TIz:TI≠z
 TOz:TO≠z
 i1z:i1≠z
 i2z:i2≠z
 TITO:TI≠TO
 TIi1:TI≠i1
 TIi2:TI≠i2
 TOi1:TO≠i1
 TOi2:TO≠i2
 i12:i1≠i2
section
variable {X:Cx}
end
section
variable {σ:St} {H:Hp} {cap:List (Option Nat)} {g:TG} {tt:TT} {te:TE} {acc:Addr} {H0:Hp} {Qh:Hp->Prop}
structure zqW (J:It) (n:Nat) (f:Nat->Option (V×V)) (ok:Hp->Prop):Prop where
 go:∀i H,ok H->i<n->J.go i H
 stop:∀H,ok H->J.stop n H
 yld:∀i H x H',ok H->i<n->J.yld i H x H'->∃p u v,x= .ref p/\H p=gC/\H'=upd H p (.tup [u,v])/\f i=f7 (u,v)
end
section
variable {σ:St} {H:Hp} {Q:VK} {D':UJ}
end
section
variable {σ:St} {H:Hp} {Q:VK}
end
open Classical in
noncomputable def frG (H H':Hp):Hp:=λb=>match H' b with
 |some (.lst xs)=>if H b=gC then f7 (.lst xs) else gC
 |o=>o
def Dom (H H':Hp):Prop:=∀b,H' b=gC->H b=gC
structure Acc (K:u5) (H0:Hp) (acc:Addr) (ys:List V) (ds:List D) (H:Hp):Prop where
 at_:H acc=f7 (.lst ys)
 new:IsL K (frG (upd H0 acc (.lst [])) H) ys ds
 same:Xl H0 H
 dom:Dom (upd H0 acc (.lst [])) H
section
variable {X:Cx}
end
section
variable {σ:St} {H:Hp} {Q:VK}
end
section
variable {σ:St} {H:Hp} {v:V}
end
end L2
namespace L2
open PySem PySem.Spec PyProof.Rows PyProof
section
variable {X:Cx}
def zkh:V->List V->Hp->VK->Prop:=λx vs H Q=>∃(l:Addr) (xs:List V) (y:V) (j:Nat),x= .ref l/\vs=[y]/\H l=f7 (.lst xs)/\YO y=ia/\xs.all YO=ia/\(∃z,xs[j]? =f7 z/\eqV z y=ia)/\(∀m z,m<j->xs[m]? =f7 z->eqV z y=kb)/\Q (.int (j:Int)) H
theorem zki:MtM X "list.index" zkh:=by
 intro pins s σ H x vs v us Q I rx rv h;obtain⟨l,xs,y,j,rfl,rfl,hH,fy,fs,⟨z,nj,ni⟩,nR,q⟩:=h;cases rx;obtain⟨u,rfl,ru⟩:=rv.one;obtain⟨zl,ah,n,r,hl,e⟩:=I.lstM hH;have hn:=Vl;have hj:j<xs.length:=(u9.1 nj).1;have fl:∀(m:Nat) (w:V),xs[m]? =f7 w->YO w=ia:=λm w hw=>y8.1 fs w (ud hw);have at_:∀(m:Nat) (w:V) (hm:m<ah.toArray.size),xs[m]? =f7 w->eqU y ah.toArray[m]=eqV w y:=λm w hm hw=>by
  obtain⟨c,hc,rc⟩:=r.get hw;have e1:ah.toArray[m]=c:=by
   have e2:ah[m]? =f7 ah[m]:=u6 (by simpa using hm);rw[hc] at e2;simpa using (uK e2).symm
  rw[e1];exact zgA rc (fl m w hw)
 refine call_meets F.slot_list_index ⟨_,e,rfl⟩ F.entry_list_index (F.args_list_index_2 _ _) (SeqAt.list_indexAt l ah.toArray n gC #[] u (eqU y) j (by rw[uo];omega) ⋯ ?_ ?_) ⟨e,λc hc=>Tg ru fy r fs c (by simpa using hc),?_⟩
 .rw[at_ j z (by rw[uo];omega) nj];exact ni
 .intro m hm i7;have ft:m<xs.length:=by omega
  rw[at_ m xs[m] hm (u6 ft)];exact nR m xs[m] i7 (u6 ft)
 .exact⟨.int j,H,I.tok _,⟨_,rfl⟩,q⟩
def zml:V->Option Int->Option Int->Hp->VK->Prop:=λx lo hi H Q=>∃z,x= .str z/\z.length<=sizeLine/\Q (.str (Txt.slice z lo hi)) H
theorem zgI:SlR X zml:=by
 intro pins s σ H x v vl vu lo hi sl Q I rx hs pl pu h;obtain⟨z,rfl,hz,q⟩:=h;obtain⟨t,rfl⟩:=rx;refine⟨"str",_,F.slot_str_getitem.lookup,typeIs_str _ _ _,?_⟩;obtain⟨l,nY,hJ⟩:∃l:Option (Int×Tok),vl=partValue l/\l.map (·.1)=lo:=by
  cases pl with
  |none=>exact⟨gC,rfl,rfl⟩
  |int i t=>exact⟨f7 (i,t),rfl,rfl⟩
 obtain⟨u,r6,r0⟩:∃l:Option (Int×Tok),vu=partValue l/\l.map (·.1)=hi:=by
  cases pu with
  |none=>exact⟨gC,rfl,rfl⟩
  |int i t=>exact⟨f7 (i,t),rfl,rfl⟩
 subst nY r6 hJ r0;exact wpAny_getItem_str_slice (l:=l) (u:=u) (st:=gC) hs rfl (post_val_or_str ⟨uC (Txt.slice_le z _ _) hz,λt' k=>⟨.str _,H,I.tok _,⟨_,rfl⟩,q⟩⟩)
theorem zor {K:u5} {a b:String} (h1:(Value.type a==Value.type b)=kb) (h:(fastBuiltinMro a).map (·.contains (.type b))=f7 kb) (hm:Ab b=ia) (hs:Aw K (.type a) (.type b)=(fastBuiltinMro a).map (·.contains (.type b))):uN K (.type a) (.type b)=f7 kb:=by
 unfold uN AV;rw[if_neg (by rw[h1];decide)];show (if Ab b=ia then Aw K (.type a) (.type b) else gC)=_;rw[if_pos hm,hs,h]
end
end L2
namespace L2
open PySem PySem.Spec PyProof.Rows
open AutoSeq1 (wpAny_loadPart')
section
variable {prog:Program} {w:World} {A:Around} {E:Value->Shared->Prop} {s:Shared}
end
section
variable {X:Cx}
end
end L2
namespace L2
open PySem PySem.Spec PyProof.Rows
section
variable {prog:Program} {w:World} {A:Around} {E:Value->Shared->Prop} {s:Shared}
noncomputable abbrev zT1 (h:Heap) (l1:Addr):Heap:=h.push {cls:= .type "tuple_iterator",data:= .fields #[.ref l1,.int 0 0]}
noncomputable abbrev zT2 (h:Heap) (l1 l2:Addr):Heap:=(zT1 h l1).push {cls:= .type "tuple_iterator",data:= .fields #[.ref l2,.int 0 0]}
noncomputable abbrev zT3 (h:Heap) (l1 l2:Addr):Heap:=(zT2 h l1 l2).push {cls:= .type "tuple",data:= .seq #[.ref h.objs.size,.ref (zT1 h l1).objs.size]}
noncomputable abbrev zT4 (h:Heap) (l1 l2:Addr):Heap:=(zT3 h l1 l2).push {cls:= .type "tuple",data:= .seq #[.none,.none]}
noncomputable abbrev zT5 (h:Heap) (l1 l2:Addr):Heap:=(zT4 h l1 l2).push {cls:= .type "zip",data:= .fields #[.none,.bool kb,.bool kb,.ref (zT2 h l1 l2).objs.size,.ref (zT3 h l1 l2).objs.size]}
end
section
variable {X:Cx}
end
mutual
def D.small (n:Nat):D->Prop
 | .int i=>i.natAbs<2^n
 | .tup l=>D.smalls n l
 | .lst l=>D.smalls n l
 | .non=>True
 | .bl _=>True
 | .str _=>False
 | .ins _ _ _=>False
def D.smalls (n:Nat):List D->Prop
 |[]=>True
 |d::r=>D.small n d/\D.smalls n r
end
mutual
noncomputable def D.wt (n:Nat):D->Nat
 | .tup l=>D.wts n l
 | .lst l=>D.wts n l
 | .int _=>n
 |_=>0
noncomputable def D.wts (n:Nat):List D->Nat
 |[]=>0
 |d::r=>D.wt n d+1+D.wts n r
end
section
variable {X:Cx} {pins:List (Addr×Obj)} {σ:St} {H:Hp} {s:Shared}
end
structure zqO (n:Nat) (d:D):Prop where
 seq:∃l,d= .tup l\/d= .lst l
 small:D.small n d
 n0:8<=n
 n1:n<=1900
 deep:D.depth d<=40
 size:(n+3)*D.wt n d+n+1<=16777216
section
variable {X:Cx}
end
theorem zkj:mroOf (.type "reversed")=pure [.type "reversed",.type "object"]:=by rw[mroOf_type];kernel_rfl
theorem zos:typeLookup (.type "reversed") "__new__"=pure (f7 (.builtin "reversed.__new__")):=by rw[typeLookup_type,builtinLookup_eq_fast];kernel_rfl
theorem zmm:Slot "reversed" "__init__" "object.__init__":= .of (owner:="object") (n:="__init__") (by rw[typeLookup_type,builtinLookup_eq_fast];kernel_rfl) (by decide+kernel) (by decide+kernel) (by decide+kernel) (by first|exact .inl (by decide+kernel)|exact .inr (by decide+kernel)) (by rw[isSubtype_type];kernel_rfl)
theorem ziR:TypeCalled "reversed" "reversed.__new__" "object.__init__":=⟨*...*, *...*,⟨_,_,zkj⟩,madeBy_type zkj zos (by decide+kernel), *...*,by rw[isSubtype_type];kernel_rfl,zmm⟩
theorem zfb (a:Value):checkTypeCall "reversed" ⟨[a],[]⟩=pure ():=by kernel_rfl
theorem zgJ (a:Value):checkBuiltinCall "reversed.__new__" ⟨[.type "reversed",a],[]⟩=pure ():=by kernel_rfl
theorem zfc:entryFor table "reversed.__new__"=f7 Builtin.«reversed.__new__» :=entryFor_of_tree (by kernel_rfl)
theorem zot:isSubtype (.type "reversed") (.type "reversed")=pure ia:=by rw[isSubtype_type];kernel_rfl
theorem zfd:Manifest.owners.lookup (String.ofList ['d','e','s','r','e','v','e','r'].reverse)=f7 Manifest.sig_reversed:=by kernel_rfl
theorem Tl:Slot "reversed" "__next__" "reversed.__next__":= .of (owner:="reversed") (n:="__next__") (by rw[typeLookup_type,builtinLookup_eq_fast];kernel_rfl) (by decide+kernel) (by decide+kernel) (by decide+kernel) (by first|exact .inl (by decide+kernel)|exact .inr (by decide+kernel)) (by rw[isSubtype_type];kernel_rfl)
theorem Tn:entryFor table "reversed.__next__"=f7 Builtin.«reversed.__next__» :=entryFor_of_tree (by kernel_rfl)
theorem zaS (a:Value):argsOk "reversed.__next__" ⟨[a],[]⟩:=by
 unfold argsOk;rw[signature?_of (id:="reversed.__next__") (n:=['_','_','t','x','e','n','_','_']) (o:=['d','e','s','r','e','v','e','r']) (by kernel_rfl) zfd];kernel_rfl
theorem zhT:Slot "reversed" "__iter__" "reversed.__iter__":= .of (owner:="reversed") (n:="__iter__") (by rw[typeLookup_type,builtinLookup_eq_fast];kernel_rfl) (by decide+kernel) (by decide+kernel) (by decide+kernel) (by first|exact .inl (by decide+kernel)|exact .inr (by decide+kernel)) (by rw[isSubtype_type];kernel_rfl)
theorem zfe (a:Value):argsOk "reversed.__iter__" ⟨[a],[]⟩:=by
 unfold argsOk;rw[signature?_of (id:="reversed.__iter__") (n:=['_','_','r','e','t','i','_','_']) (o:=['d','e','s','r','e','v','e','r']) (by kernel_rfl) zfd];kernel_rfl
theorem zd4:entryFor table "reversed.__iter__"=f7 Builtin.«dict_keyiterator.__iter__» :=entryFor_alias (id':="dict_keyiterator.__iter__") (by kernel_rfl) (by first|rfl|decide+kernel|(unfold String.splitOn;simp+decide [String.splitOnAux])) (by decide+kernel) (by kernel_rfl)
theorem zmn:typeLookup (.type "tuple") "__reversed__"=pure gC:=by rw[typeLookup_type,builtinLookup_eq_fast];kernel_rfl
noncomputable abbrev zff (t:Addr) (i:Int):Obj:={cls:= .type "reversed",data:= .fields #[.ref t,rawInt i]}
noncomputable abbrev zgK (h:Heap) (a t:Addr) (i:Int):Prop:=h.get? a=f7 (zff t i)
section
variable {prog:Program} {w:World} {A:Around} {E:Value->Shared->Prop} {s:Shared}
theorem zfg (a:Value):Builtin.SmallTypes.newClass "reversed" ⟨[.type "reversed",a],[]⟩=pure (.type "reversed",[a]):=by
 unfold Builtin.SmallTypes.newClass;simp only[isType,zot,pure_bind,Bool.not_true,Bool.false_eq_true,if_false]
theorem zkk (t:Addr) (ah:Array Value) (hz:(ah.size:Int)<2^63):Meets (Builtin.«reversed.__new__» ⟨[.type "reversed",.ref t],[]⟩) (λ_ R s=>IsTup s.heap t ah/\∀tk,R (.ok (.ret (.ref s.heap.objs.size))) {s with heap:=s.heap.push (zff t ((ah.size:Int)-1)),toks:=tk}):=
 .of_wp λprog w A R s h=>by
  obtain⟨hT,h⟩:=h;unfold Builtin.«reversed.__new__»;refine wpAny_bind (wpAny_of_eq (zfg _) ?_)
  try dsimp only
  refine wpAny_bind (wpAny_of_eq (a:=()) (by first|rfl|kernel_rfl) ?_);refine wpAny_bind (wpAny_of_eq (a:=()) (by first|rfl|kernel_rfl) ?_)
  try dsimp only
  refine wpAny_bind (wpAny_specialOf hT.typeIs zmn ?_)
  try dsimp only
  refine wpAny_bind ?_;show wpAny _ _ (isInstance (.ref t) (.type "dict")>>=_) _ _ _;refine wpAny_bind (wpAny_isInstance (T:="tuple") (b:=kb) hT.typeIs (by rw[isSubtype_type];kernel_rfl) ?_);rw[if_neg ∅];show wpAny _ _ (specialOf (.ref t) "__getitem__">>=_) _ _ _;refine wpAny_bind (wpAny_specialOf hT.typeIs slot_tuple_getitem.lookup ?_);dsimp only;rw[if_pos ∅];refine wpAny_pure ?_;rw[if_neg ∅];refine wpAny_bind (len_tuple hT hz ?_);refine wpAny_bind (wpAny_of_eq (a:=f7 (ah.size:Int)) rfl ?_);dsimp only;refine wpAny_bind (m:=Builtin.SmallTypes.newRecord (.type "reversed") [.ref t,rawInt ((ah.size:Int)-1)]) ?_;unfold Builtin.SmallTypes.newRecord
  first
  |exact wpAny_newObj_type (wpAny_pure ⟨_,rfl,h _⟩)
  |(wp_walk;exact⟨_,rfl,h _⟩)
theorem zkl {it t:Addr} {i:Nat} {ah:Array Value} {x:Value} {Q:Option Value->Shared->Prop} (hit:zgK s.heap it t (i:Int)) (ht:IsTup s.heap t ah) (hx:ah[i]? =f7 x) (hs:(i:Int)<2^63)
  (q:∀h' tk,zgK h' it t ((i:Int)-1)->Heap.SameBut it s.heap h'->Q (f7 x) {s with heap:=h',toks:=tk}):wpAny (model prog w) A (pyNext (.ref it)) Q E s:=by
 have hT:s.TypeIs (.ref it) "reversed":=⟨_,hit,rfl⟩;unfold pyNext;refine wpAny_bind (wpAny_attempt (wpAny_callSpecial?_slot (name:=Str.ofString "__next__") hT Tl (wpAny_call_entry Tl hT Tn ?_ (zaS _))));unfold Builtin.«reversed.__next__»;refine wpAny_bind (wpAny_of_eq (a:=(Value.ref it,[])) rfl ?_);(try dsimp only);refine wpAny_bind (wpAny_field hit rfl (x:= .ref t) rfl ?_);refine wpAny_bind (wpAny_field hit rfl (x:=rawInt (i:Int)) rfl ?_);show wpAny _ _ (if (i:Int)<0 then _ else _) _ _ s;rw[if_neg ⋯];refine wpAny_bind (wpAny_specialOf ht.typeIs slot_tuple_getitem.lookup ?_);rw[if_neg ∅];refine wpAny_bind (wpAny_mkInt ?_);have i7:i<ah.size:=(BQ.1 hx).1;have kq:seqIndex? (i:Int) ah.size=f7 i:=by
  unfold seqIndex?;simp only[show ¬((i:Int)<0) by omega,if_false];rw[if_pos (by simp;omega),uM]
 refine wpAny_bind (wpAny_attempt (getItem_tuple (j:=i) ht ⋯ hs kq hx ?_));(try dsimp only);refine wpAny_bind (wpAny_field hit rfl (x:=rawInt (i:Int)) rfl ?_);(try dsimp only);refine wpAny_bind (wpAny_setField_rec hit (by simp) λh' o4 iC=> ?_);exact wpAny_pure ⟨_,rfl,wpAny_pure (q h' _ o4 iC)⟩
theorem zmo {it t:Addr} {Q:Option Value->Shared->Prop} (hh:A.handled=gC) (hit:zgK s.heap it t (-1)) (q:∀h',Heap.ExtBut it s.heap h'->Q gC {s with heap:=h'}):wpAny (model prog w) A (pyNext (.ref it)) Q E s:=by
 have hT:s.TypeIs (.ref it) "reversed":=⟨_,hit,rfl⟩;unfold pyNext;refine wpAny_bind (wpAny_attempt (wpAny_callSpecial?_slot (name:=Str.ofString "__next__") hT Tl (wpAny_call_entry Tl hT Tn ?_ (zaS _))));unfold Builtin.«reversed.__next__»;refine wpAny_bind (wpAny_of_eq (a:=(Value.ref it,[])) rfl ?_);(try dsimp only);refine wpAny_bind (wpAny_field hit rfl (x:= .ref t) rfl ?_);refine wpAny_bind (wpAny_field hit rfl (x:=rawInt (-1)) rfl ?_);show wpAny _ _ (if (-1:Int)<0 then _ else _) _ _ s;rw[if_pos ∅];refine wpAny_bind (wpAny_rule ?_);refine wpAny_bind ?_;show wpAny _ _ (setField (.ref it) 1 (rawInt (-1))>>=_) _ _ s;refine wpAny_bind (wpAny_setField_rec hit (by simp) λh1 jU nI=> ?_)
 replace jU:zgK h1 it t (-1):=jU
 show wpAny _ _ (setField (.ref it) 0 .none) _ _ _;refine wpAny_setField_rec jU (by simp) λh2 rX jN=> ?_
 first
 |refine wpAny_bind (m:=newExc (.type "StopIteration") []) ?_
 |(refine wpAny_bind ?_;refine wpAny_bind (m:=newExc (.type "StopIteration") []) ?_)
 simp only[newExc,newTuple];refine wpAny_bind (wpAny_newObj_type ?_ (by size_fits));refine wpAny_bind (m:=firstArgMember _ _) (wpAny_of_eq (a:=Value.none) (by first|rfl|(simp only[firstArgMember];rfl)) ?_);refine wpAny_newObj_type ?_ (by size_fits);simp only[raiseNew];refine wpAny_bind (wpAny_handled ?_);(first|rw[show A.in1.handled=gC from hh]|rw[hh]);refine wpAny_bind (wpAny_pure (wpAny_throw ?_));refine wpAny_bind (wpAny_isInstance (T:="StopIteration") (b:=ia) ⟨_,Heap.get?_push_size _ rfl,rfl⟩ isSubtype_stop (wpAny_pure (q _ ?_)));exact λb o hb e=>Heap.get?_push_of_some _ (Heap.get?_push_of_some _ (jN.extBut b o hb (nI.extBut b o hb e)))
theorem zfh {it t:Addr} {i:Int} {Q:Value->Shared->Prop} (hit:zgK s.heap it t i) (q:Q (.ref it) s):wpAny (model prog w) A (pyIter (.ref it)) Q E s:=by
 have hT:s.TypeIs (.ref it) "reversed":=⟨_,hit,rfl⟩;refine wpAny_pyIter_slot hT zhT (wpAny_call_entry zhT hT zd4 ?_ (zfe _));show wpAny _ _ (ret (Value.ref it)) _ _ _;exact wpAny_pure ⟨_,rfl,"reversed",_,hT,Tl.lookup,q⟩
theorem zkm {t:Addr} {ah:Array Value} {Q:Value->Shared->Prop} (hT:IsTup s.heap t ah) (hz:(ah.size:Int)<2^63)
  (h:∀tk,Q (.ref s.heap.objs.size) {s with heap:=s.heap.push (zff t ((ah.size:Int)-1)),toks:=tk}):wpAny (model prog w) A (call (.type "reversed") [.ref t]) Q E s:=
 callType_new ziR ∅ (zfb _) (zgJ _) (λobj=>F.args_object_init_2 obj _) zfc (zkk t ah hz) ⟨hT,λtk=>⟨⟨_,Heap.get?_push_size _ rfl,rfl⟩,h tk⟩⟩
end
noncomputable def ItR (K:u5) (a:Addr) (n:Nat):It:=
 ⟨λi H=>i<n/\∃xs,SqT K H a xs/\xs.length=n,λi H x H'=>H'=H/\∀xs,SqT K H a xs->xs[n-1-i]? =f7 x,λi H=>i=n⟩
theorem zkn {P:Program} {w:World} {K:u5} {tg:Expr} (a it:Addr) (n:Nat):ziB P w K tg (ItR K a n) [it] it (λi h=>zgK h it a ((n:Int)-1-(i:Int))) where
 mem:=by simp
 obj:=λi h st b hb=>by
  have e:b=it:=by simpa using hb
  subst e;exact⟨_,st,λv z=>by cases z⟩
 keep:=λi h h' st k=>k it (by simp) _ st
 item:=by
  intro X hP hw hK hc i pins s σ H E I hf st hg;subst hP hw hK;obtain⟨hi,xs,hq,hl⟩:=hg;have hx:xs[n-1-i]? =f7 (xs[n-1-i]'⋯):=u6 ⋯;obtain⟨ah,rv,p,hz⟩:=I.tuple hq;obtain⟨u,hu,ru⟩:=rv.get hx;obtain⟨f0,f1,f2,f3,f4,f5⟩:=hf it (by simp);have hn:=Vl;have e:(n:Int)-1-(i:Int)=((n-1-i:Nat):Int):=by omega
  rw[e] at st;refine zkl st p (x:=u) (by simpa using hu) ⋯ λh' tk st' sb=> ?_;have I1:Inv X pins σ H {s with heap:=h',toks:=tk}:=I.turned (t':=tk) (λb o hb e=>(sb.2 b hb).trans e) f0 f1 f3 f4 f5;have e2:((n-1-i:Nat):Int)-1=(n:Int)-1-((i+1:Nat):Int):=by omega
  rw[e2] at st';exact⟨u,rfl,zeZ (s:={s with heap:=h',toks:=tk}) (n:="reversed") st' rfl rfl ∅ ⟨_,H,I1,ru,⟨rfl,λys hy=>by rw[I.tuple_inj hy hq];exact hx⟩,st',λb hb=>(hf b hb).1⟩⟩
 done:=by
  intro X hP hw hK hc i pins s σ H E I hf st hg;subst hP hw hK;have hg:i=n:=hg;obtain⟨f0,f1,f2,f3,f4,f5⟩:=hf it (by simp);have e:(n:Int)-1-(i:Int)= -1:=by omega
  rw[e] at st;exact zmo (I.ok.hd hc) st λh' eb=>⟨rfl,I.turned (t':=s.toks) (λb o hb e=>eb b o hb e) f0 f1 f3 f4 f5⟩
 self:=λ_ _ _ _ _ st h=>zfh st h
section
variable {X:Cx} {tg:Expr}
def zpU (K:u5) (ta:TA):TI:=λσ H R=>ta σ H λvs H1=>∃a xs,vs=[.ref a]/\SqT K H1 a xs/\R (ItR K a xs.length) H1
theorem zou {K:u5} {l:Expr} {ta:TA} {p pos:Pos} (hg:Gl X "reversed") (hm:X.mg "reversed"=gC) (ha:PA X [l] ta) (hK:X.K=K:=by rfl) (hs:starEach [l] X.env=[(kb,eval l X.env)]:=by rfl):
  PI X tg (.Call (.Name "reversed" p) [l] [] pos) (zpU K ta):=by
 subst hK;intro pins s σ H R I h;refine Call_ (Vj I hg hm Boot.«reversed» (z8 (thn (ha pos pins s σ H _ I h) ?_) hs rfl));rintro us s1 ⟨vs,H1,I1,r1,q1⟩;obtain⟨a,xs,e,hq,q⟩:=q1;subst e;obtain⟨u,rfl,ru⟩:=Vm r1;cases ru;obtain⟨ah,rv,p,hz⟩:=I1.tuple hq;have hl:=rv.length;have hn:=Vl;refine zkm p (by rw[uo];omega) λtk=> ?_;have I2:Inv X pins σ H1 {s1 with heap:=s1.heap.push (zff a ((ah.toArray.size:Int)-1)),toks:=tk}:=I1.kept (t':=tk) λb o e=>Heap.get?_push_of_some _ e;refine zfh (s:={s1 with heap:=s1.heap.push (zff a ((ah.toArray.size:Int)-1)),toks:=tk}) (Heap.get?_push_size _ rfl) ?_;refine⟨s1.heap.objs.size,[s1.heap.objs.size],_,_,H1,rfl,I2,zkn a s1.heap.objs.size xs.length,?_,λb hb=> ?_,q⟩
 .have e:((ah.toArray.size:Nat):Int)-1=(xs.length:Int)-1-((0:Nat):Int):=by rw[uo];omega
  show zgK _ _ _ _;rw[<-e];exact Heap.get?_push_size _ rfl
 .have e:b=s1.heap.objs.size:=by simpa using hb
  subst e;exact Inv.fpOk I1 (ug _) (I1.hok.fresh (ug _))
def znI (K:u5):R2:=λx y H Q=>∃a b xs ys,x= .ref a/\y= .ref b/\SqT K H a xs/\SqT K H b ys/\xs.length+ys.length<=sizeLine/\(xs=[]->Q (.ref b) H)/\(xs≠[]->ys=[]->Q (.ref a) H)/\(xs≠[]->ys≠[]->∀p,H p=gC->Q (.ref p) (upd H p (.tup (xs++ys))))
theorem YS {K:u5} (hK:X.K=K:=by rfl):OpR X (binaryOp .Add) (znI K):=by
 subst hK;intro pins s σ H x y v u Q I rx ry h;obtain⟨a,b,xs,ys,e1,e2,ha,hb,hz,q1,q2,q3⟩:=h;by_cases hx:xs=[]
 .subst e1 e2;cases rx;cases ry;obtain⟨ah,r1,p1,_⟩:=I.tuple ha;obtain⟨c9,r2,p2,_⟩:=I.tuple hb;obtain⟨⟨cls,dd,data,sl⟩,ho,hc,n,hd⟩:=id p1;obtain⟨⟨oI,mC,data2,kj⟩,jR,jc,n2,hd2⟩:=id p2;simp only at hc hd jc hd2;subst hc hd jc hd2;exact concat_meets ⟨_,ho,rfl⟩ ⟨_,jR,rfl⟩ noFill_tuple_add seq_tuple_add Bs Bk (Bd _ _) (tuple_addW0 a b ah.toArray c9.toArray n n2 dd mC sl kj (by have:=r1.nil_iff.mpr hx;simp[this])) ⟨ho,jR,⟨.ref b,H,I,rfl,q1 hx⟩⟩
 .exact zl9 pins s σ H x y v u Q I rx ry ⟨a,b,xs,ys,e1,e2,ha,hb,hx,hz,q2 hx,q3 hx⟩
end
end L2
namespace L2
open PySem PySem.Spec PyProof.Rows PyProof
section
variable {X:Cx}
theorem zdb (a:Array Nat):∀m:Nat,(v7 m).filterMap (λi=>a[i]?)=a.toList.take m
 |0=>rfl
 |m+1=>by
  rw[Ck,List.filterMap_append,zdb a m,List.take_add_one];rw[AU];cases h:a[m]? <;>simp[h]
end
end L2
namespace L2
open PySem PySem.Spec PyProof.Rows
section
variable {X:Cx}
def zpV (K:u5):List V->Hp->VK->Prop:=λxs H Q=>∃(p:Addr) (bs:List Bool),xs=[.ref p]/\SqL K H p (bs.map V.bl)/\Q (.bl (bs.any id)) H
def zpW (K:u5):List V->Hp->VK->Prop:=λxs H Q=>∃(p:Addr) (bs:List Bool),xs=[.ref p]/\SqL K H p (bs.map V.bl)/\Q (.bl (bs.all id)) H
theorem ziS:∀(bs:List Bool),(v7 bs.length).any (λi=>bs.getD i kb)=bs.any id:=λbs=>by
 rw[z7,B1,B1];constructor
 .rintro⟨i,hi,h⟩;have hi:=Af.1 hi;rw[uG,u6 hi,z6] at h;exact⟨_,y4 hi,h⟩
 .rintro⟨b,hb,h⟩;obtain⟨i,hi,e⟩:=CG.1 hb;refine⟨i,Af.2 hi,?_⟩;rw[uG,u6 hi,z6,e];exact h
theorem ziT:∀(bs:List Bool),(v7 bs.length).all (λi=>bs.getD i kb)=bs.all id:=λbs=>by
 rw[z7,y8,y8];constructor
 .intro h b hb;obtain⟨i,hi,e⟩:=CG.1 hb;have:=h i (Af.2 hi);rw[uG,u6 hi,z6,e] at this;exact this
 .intro h i hi;have hi:=Af.1 hi;rw[uG,u6 hi,z6];exact h _ (y4 hi)
theorem zbF {pins:List (Addr×Obj)} {σ:St} {H:Hp} {s:Shared} {p:Addr} {bs:List Bool} (hc:X.calm=ia) (I:Inv X pins σ H s) (hq:SqL X.K H p (bs.map V.bl)) {R:Value->Shared->Prop}
  (k:∀Ia fp wr G n P St tr (s₂:Shared),WalksS X.prog X.w X.A.in1 Ia fp wr G n P St->St 0 s₂->TruthOf X.prog X.w X.A.in1 P tr->n=bs.length->(tr=λi=>bs.getD i kb)->(∀s',Moved wr G s₂ s'->Inv X pins σ H s')->R (.ref Ia) s₂):
  wpAny (model X.prog X.w) X.A.in1 (pyIter (.ref p)) R X.xe s:=by
 obtain⟨ah,rv,pl,hz⟩:=I.list hq;have lt:p<s.heap.objs.size:=by
  obtain⟨o,n,e,_⟩:=id pl;exact Heap.lt_size e
 have hl:=rv.length;rw[uw] at hl;refine wpAny_pyIter_list pl.isList ?_;have W:=(Walks.list (prog:=X.prog) (w:=X.w) (A:=X.A.in1) (I.ok.hd hc) s.heap.objs.size p (uF lt) ah.toArray).toS;refine k s.heap.objs.size _ _ _ _ _ _ (λi=>bs.getD i kb) _ W ?_ ?_ ?_ rfl ?_
 .exact⟨⟨_,Heap.get?_push_size _ rfl,rfl,rfl⟩,Heap.IsList.push pl.isList _⟩
 .intro i v s Q E hv hQ;have hv:ah[i]? =f7 v:=by simpa using hv
  have hi:i<bs.length:=by rw[hl];exact (u9.1 hv).1
  obtain⟨u,hu,ru⟩:=rv.get (i:=i) (x:=V.bl bs[i]) (by rw[uf,u6 hi];rfl);have e0:u=v:=by
   rw[hu] at hv;exact uK hv
  have ru:u=Value.bool bs[i]:=ru;rw[<-e0,ru];refine wpAny_truthy_bool ?_;have e:bs.getD i kb=bs[i]:=by rw[uG,u6 hi,z6]
  rw[<-e];exact hQ
 .rw[uo,<-hl]
 .intro s' m
  have I1:Inv X pins σ H {s with heap:=s'.heap,toks:=s'.toks}:=I.kept λb o e=>m.heap b o (λz=>by
   have z:b=s.heap.objs.size:=by simpa using z
   exact absurd (Heap.lt_size e) (by rw[z];exact Ao _)) (Heap.get?_push_of_some _ e)
  have e:({s with heap:=s'.heap,toks:=s'.toks}:Shared)=s':=by
   have h1:=m.gens;have h2:=m.drawn;have h3:=m.os;cases s';simp only at h1 h2 h3;subst h1 h2 h3;rfl
  rw[e] at I1;exact I1
theorem zdc {K:u5} (hc:X.calm=ia) (hK:X.K=K:=by rfl):vx X (.builtin "any") (zpV K):=by
 subst hK;intro pins s σ H xs us Q I r h;obtain⟨p,bs,rfl,hq,q⟩:=h;obtain⟨u,rfl,ru⟩:=Vm r;cases ru;refine call_any_walkS (zbF hc I hq λIa fp wr G n P St tr s₂ W h0 ht hn iA hm=>⟨Ia,fp,wr,G,n,P,St,tr,rfl,W,h0,ht,λs' m=>⟨.bl _,H,hm s' m,rfl,?_⟩⟩);rw[hn,iA,ziS];exact q
theorem Ul {K:u5} (hc:X.calm=ia) (hK:X.K=K:=by rfl):vx X (.builtin "all") (zpW K):=by
 subst hK;intro pins s σ H xs us Q I r h;obtain⟨p,bs,rfl,hq,q⟩:=h;obtain⟨u,rfl,ru⟩:=Vm r;cases ru;refine call_all_walkS (zbF hc I hq λIa fp wr G n P St tr s₂ W h0 ht hn iA hm=>⟨Ia,fp,wr,G,n,P,St,tr,rfl,W,h0,ht,λs' m=>⟨.bl _,H,hm s' m,rfl,?_⟩⟩);rw[hn,iA,ziT];exact q
theorem Inv.lstR {pins:List (Addr×Obj)} {σ:St} {H:Hp} {s:Shared} {l:Addr} {xs:List V} (I:Inv X pins σ H s) (hH:SqX X.K H l xs):xs.length<=sizeLine/\∃(ah:List Value) (n:Nat),zZ xs ah/\xs.length=ah.length/\s.heap.get? l=f7 {cls:= .type "list",data:= .seq ah.toArray n}:=by
 rcases hH with hH|⟨ah,n,hk,hz,r⟩
 .obtain⟨z,ah,n,r,e⟩:=hH.ok I.hok;exact⟨z,ah,n,r,r.length,e⟩
 .have hl:=r.length;have hJ:ah.toList.length=ah.size:=B9;exact⟨⋯,ah.toList,n,r,r.length,I.kIn l _ hk⟩
theorem ziU (l:Addr) (items:Array Value) (n:Nat) (b:Addr) (ob:Obj) (T:String) (dC:Array Value) (n2:Nat) (hT:T="list"\/T="tuple") (rm:(!items.isEmpty&&Builtin.List.listTooLong (items.size+dC.size))=kb) (nI:items.size<=sizeLine) (jN:items.size+dC.size<=sizeLine):
  Meets (Builtin.«list.extend» ⟨[.ref l,.ref b],[]⟩) (λ_ R s=>s.heap.get? l=f7 {cls:= .type "list",dict:=gC,data:= .seq items n,slots:= #[]}/\s.heap.get? b=f7 ob/\ob.cls= .type T/\ob.data= .seq dC n2/\R (.ok (.ret Value.none)) {s with heap:=s.heap.update l (Obj.mapSeq λx=>x++dC),toks:=s.toks}):=by
 intro prog w A R s h;obtain⟨hl,hb,hc,hd,hR⟩:=h;show wpAny _ _ (Builtin.List.listExtendWith (.ref l) (.ref b) .none) _ _ s;unfold Builtin.List.listExtendWith;refine wpAny_bind (wpAny_typeOf (T:=T) ⟨ob,hb,hc⟩ ?_);have ls:(Builtin.List.listSameRef (.ref l) (.ref b)||Value.type T==Value.type "list"||Value.type T==Value.type "tuple")=ia:=by
  rcases hT with rfl|rfl<;>simp
 rw[if_pos ls];refine wpAny_bind ?_;unfold Builtin.List.listItems;refine wpAny_bind (wpAny_seqItems hb hd (wpAny_pure ?_));refine wpAny_bind ?_;refine wpAny_bind (wpAny_seqItems hl rfl (wpAny_pure ?_));rw[if_neg (by rw[rm];exact uS)];have qO:(items++dC).size<=sizeLine+1:=by rw[Array.size_append];omega
 refine wpAny_bind (m:=Builtin.List.listUpdate (.ref l) (· ++dC)) ?_;show wpAny _ _ (updateSeq l (λx=>x++dC)) _ _ s;refine wpAny_updateSeq hl rfl (hz:=nI) (_hz':=qO) ?_;exact wpAny_pure hR
def zfi (K:u5):V->List V->Hp->VK->Prop:=λx vs H Q=>∃l b xs zs,x= .ref l/\vs=[.ref b]/\H l=f7 (.lst xs)/\(SqX K H b zs\/SqT K H b zs)/\xs.length+zs.length<=sizeLine/\Q .non (upd H l (.lst (xs++zs)))
theorem zbG {K:u5} (hK:X.K=K:=by rfl):MtR X "list.extend" (zfi K):=by
 subst hK;intro pins s σ H x vs v us Q I rx rv h;obtain⟨l,b,xs,zs,rfl,rfl,hH,hB,hz,q⟩:=h;cases rx;obtain⟨u,rfl,ru⟩:=rv.one;cases ru;obtain⟨z,ah,n,r,hl,e⟩:=I.lstM hH;have key:∀{c9:List Value} {ob:Obj} {T:String} {n2:Nat},zZ zs c9->(T="list"\/T="tuple")->s.heap.get? b=f7 ob->ob.cls= .type T->ob.data= .seq c9.toArray n2->
   wpAny (model X.prog X.w) X.A (call (.builtin "list.extend") [.ref l,.ref b]) (EP X pins σ Q) X.xe s:=by
  intro c9 ob T n2 r2 hT hb hc hd;have hJ:=r2.length;have hsz:ah.toArray.size+c9.toArray.size<=sizeLine:=by rw[uo,uo];omega
  refine call_meets F.slot_list_extend ⟨_,e,rfl⟩ F.entry_list_extend (F.args_list_extend_2 _ _)
   (ziU l ah.toArray n b ob T c9.toArray n2 hT (by rw[zjU hsz,Bool.and_false]) (by rw[uo];omega) hsz) ⟨e,hb,hc,hd,?_⟩
  refine⟨.non,_,I.lset (its':=ah++c9) hH e (by simp) (r.append r2) ?_,rfl,q⟩;rw[uD];omega
 rcases hB with hB|hB
 .obtain⟨z2,c9,n2,r2,hJ,e2⟩:=I.lstR hB;exact key r2 (.inl rfl) e2 rfl rfl
 .obtain⟨c9,r2,⟨ob,hb,hc,n2,hd⟩,_⟩:=I.tuple hB;exact key r2 (.inr rfl) hb hc hd
end
theorem ziV:typeLookup (.type "list_reverseiterator") "__len__"=pure gC:=by rw[typeLookup_type,builtinLookup_eq_fast];kernel_rfl
theorem zko:typeLookup (.type "list_reverseiterator") "__length_hint__"=pure (f7 (.builtin "list_reverseiterator.__length_hint__")):=by rw[typeLookup_type,builtinLookup_eq_fast];kernel_rfl
section
variable {prog:Program} {w:World} {A:Around} {E:Value->Shared->Prop} {s:Shared}
theorem zgL {R:Result->Shared->Prop} (hh:A.handled=gC) {it l:Addr} {items:Array Value} (hn:items.size<=sizeLine) (S:Addr) (res:Value) (c₀:Nat) (hS:s.heap.get? S=f7 {cls:= .type "list",data:= .seq #[] c₀})
  (hit:s.heap.IsRevIter it l ((items.size:Int)-1)) (hl:s.heap.IsList l items) (iE:l≠it) (pL:S≠it) (sF:S≠l)
  (hR:∀h' tk acc' c',(∀b o,b≠S->b≠it->s.heap.get? b=f7 o->h'.get? b=f7 o)->h'.get? S=f7 {cls:= .type "list",dict:=gC,data:= .seq acc' c',slots:= #[]}->
   ItemsOf (λi v=>items[items.size-1-i]? =f7 v) acc' items.size->R (.ok (.ret res)) {s with heap:=h',toks:=tk}):
  wpAny (model prog w) A.in1 (Builtin.List.listExtendWith (.ref S) (.ref it) res)
   (λfin s'=>match fin with| .done f=>R (.ok f) s'| .again c'=>c'.quiet=ia/\codeAny (model prog w) A c' R s') (λe s'=>R (.error e) s') s:=by
 have sG:S∉[it,l]:=λhm=>by
  rcases uy.mp hm with e|hm
  .exact pL e
  .exact sF (uH.mp hm)
 have W:=(Walks.listRev (prog:=prog) (w:=w) (A:=A.in1) hh it l iE items).toS;have fm:0<=items.size/\s.heap.IsRevIter it l ((items.size:Int)-1-((0:Nat):Int))/\s.heap.IsList l items:=⟨B7 _,by simpa using hit,hl⟩;unfold Builtin.List.listExtendWith;refine wpAny_bind (wpAny_typeOf (T:="list_reverseiterator") hit.typeIs ?_);have h1:Builtin.List.listSameRef (.ref S) (.ref it)=kb:=by simp[Builtin.List.listSameRef,pL]
 rw[if_neg (by rw[h1];decide)];refine wpAny_bind (wpAny_pyIter_revIter hit ?_);refine wpAny_bind (wpAny_holding ?_);unfold Builtin.List.listLengthHint;refine wpAny_bind (wpAny_specialOf hit.typeIs ziV ?_);show wpAny _ A.in1 (specialOf (Value.ref it) (Str.ofString "__length_hint__")>>=_) _ _ _;refine wpAny_bind (wpAny_specialOf hit.typeIs zko ?_)
 (generalize o6:("list_reverseiterator.__length_hint__":String)=oV;(fail_if_success (clear o6 oV));wp_delta;rw[show splitId oV=f7 ("list_reverseiterator","__length_hint__") from by subst o6;decide+kernel];subst o6)
 refine wpAny_bind (wpAny_isInstance (b:=ia) hit.typeIs (by rw[isSubtype_type];kernel_rfl) ?_);refine wpAny_pure ?_;rw[if_neg ∅];refine wpAny_pure ⟨plainId_quiet F.plain_extend_loop _,codeAny_extend_loopS W hn _ sG _ items.size 0 _ _ _ rfl (B7 _) fm hS (ItemsOf.nil _) λs' acc' c' hm lz dD=> ?_⟩;rw[Moved.eq_with hm];refine hR s'.heap s'.toks acc' c' (λb ob hb lx e=>hm.heap b ob (λhG=> ?_) e) lz dD;rcases uy.mp hG with e'|hG
 .exact hb e'
 .exact lx (uH.mp hG)
theorem zcF {Q:Value->Shared->Prop} (hh:A.handled=gC) {it l:Addr} {items:Array Value} (hn:items.size<=sizeLine) (hit:s.heap.IsRevIter it l ((items.size:Int)-1)) (hl:s.heap.IsList l items) (iE:l≠it)
  (hQ:∀h' tk acc' c',(∀b o,b≠it->s.heap.get? b=f7 o->h'.get? b=f7 o)->
   h'.get? s.heap.objs.size=f7 {cls:= .type "list",dict:=gC,data:= .seq acc' c',slots:= #[]}->ItemsOf (λi v=>items[items.size-1-i]? =f7 v) acc' items.size->Q (.ref s.heap.objs.size) {s with heap:=h',toks:=tk}):
  wpAny (model prog w) A (call (.type "list") [.ref it]) Q E s:=by
 refine callType_codes (Q₁:=λobj s₁=>obj= .ref s.heap.objs.size/\s₁={s with heap:=s.heap.push {cls:= .type "list",data:= .seq #[]}}) F.called_list (F.typeCall_list_1 _) F.entry_list_init
  (code_list_new _ ⟨rfl,rfl⟩) λobj s₁ h₁=> ?_
 obtain⟨rfl,rfl⟩:=h₁;have hS:(s.heap.push {cls:= .type "list",data:= .seq #[]}).get? s.heap.objs.size=f7 {cls:= .type "list",data:= .seq #[]}:=Heap.get?_push_size _ rfl;refine⟨⟨_,hS,rfl⟩,F.args_list_init_2 _ _,?_⟩;show wpAny _ _ (do let old <-Builtin.List.listItems (.ref s.heap.objs.size);Builtin.List.listUpdate (.ref s.heap.objs.size) (λ_=> #[]);letGo old.toList.reverse;Builtin.List.listExtendWith (.ref s.heap.objs.size) (.ref it) .none) _ _ _;refine wpAny_bind ?_;unfold Builtin.List.listItems;refine wpAny_bind (wpAny_seqItems hS rfl (wpAny_pure ?_));show wpAny _ _ (updateSeq s.heap.objs.size (λ_=> #[])>>=λ_=>letGo (#[]:Array Value).toList.reverse>>=λ_=>Builtin.List.listExtendWith (.ref s.heap.objs.size) (.ref it) .none) _ _ _;refine wpAny_bind (wpAny_updateSeq hS rfl ?_);have sE:=Heap.get?_update_self (Obj.mapSeq (λ_=>(#[]:Array Value))) hS rfl;have ltI:it<s.heap.objs.size:=let ⟨_,ho,_⟩:=hit;Heap.lt_size ho;have qo:l<s.heap.objs.size:=let ⟨_,ho,_⟩:=hl;Heap.lt_size ho;have qh:∀b o,b≠s.heap.objs.size->(s.heap.push {cls:= .type "list",data:= .seq #[]}).get? b=f7 o->((s.heap.push {cls:= .type "list",data:= .seq #[]}).update s.heap.objs.size (Obj.mapSeq (λ_=>(#[]:Array Value)))).get? b=f7 o:=
  λb o hb e=>(Heap.get?_update_other _ _ (A8 hb)).trans e
 have old:∀b o,s.heap.get? b=f7 o->((s.heap.push {cls:= .type "list",data:= .seq #[]}).update s.heap.objs.size (Obj.mapSeq (λ_=>(#[]:Array Value)))).get? b=f7 o:=
  λb o e=>qh b o (uF (Heap.lt_size e)) (Heap.get?_push_of_some _ e)
 refine wpAny_bind (wpAny_letGo ?_);refine zgL (A:=A.in1) (items:=items) hh hn s.heap.objs.size .none _ sE (hit.at λo e=>old _ o e) (hl.at λo e=>old _ o e) iE (A8 (uF ltI)) (A8 (uF qo)) λh' tk acc' c' hk lz dD=> ?_;exact⟨rfl,hQ h' tk acc' c' (λb o hb e=>hk b o (uF (Heap.lt_size e)) hb (old b o e)) lz dD⟩
end
section
variable {X:Cx}
def zfj (K:u5) (te:TE):TE:=λσ H Q=>te σ H λx H1=>∃p ys,x= .ref p/\SqX K H1 p ys/\∀l,H1 l=gC->Q (.ref l) (upd H1 l (.lst ys.reverse))
theorem zgM {K:u5} {e:Expr} {te:TE} {p p2 pos il:Pos} (hc:X.calm=ia) (hg:Gl X "list") (hm:X.mg "list"=gC) (rZ:Gl X "reversed") (rG:X.mg "reversed"=gC) (ha:PE X e te) (hK:X.K=K:=by rfl)
  (pH:starEach [e] X.env=[(kb,eval e X.env)]:=by rfl) (he:starEach [.Call (.Name "reversed" p2) [e] [] il] X.env=[(kb,eval (.Call (.Name "reversed" p2) [e] [] il) X.env)]:=by rfl):
  PE X (.Call (.Name "list" p) [.Call (.Name "reversed" p2) [e] [] il] [] pos) (zfj K te):=by
 subst hK;intro pins s σ H Q I h;refine wpAny_Call_Name_kw (Vj I hg hm boot_list ?_ ∅ ∅);refine z8 ?_ he rfl;rw[he];show wpAny _ _ (spliced ((kb,eval (.Call (.Name "reversed" p2) [e] [] il) X.env)::backTo pos [])) _ _ s;refine Calls.spliced_cons ?_;refine wpAny_Call_Name_kw (Vj I rZ rG Boot.«reversed» ?_ ∅ ∅);refine z8 ?_ pH rfl;refine thn (zx ha zb pH il pins s σ H (λvs H1=>∃p ys,vs=[.ref p]/\SqX X.K H1 p ys/\∀l,H1 l=gC->Q (.ref l) (upd H1 l (.lst ys.reverse))) I ?_) λus s1 ⟨vs,H1,I1,r1,q1⟩=> ?_
 .have h:te σ H λx H1=>∃p ys,x= .ref p/\SqX X.K H1 p ys/\∀l,H1 l=gC->Q (.ref l) (upd H1 l (.lst ys.reverse)):=h;show te σ H λx H1=>∃p ys,[x]=[V.ref p]/\SqX X.K H1 p ys/\∀l,H1 l=gC->Q (.ref l) (upd H1 l (.lst ys.reverse));have e:(λ(x:V) (H1:Hp)=>∃p ys,[x]=[V.ref p]/\SqX X.K H1 p ys/\∀l,H1 l=gC->Q (.ref l) (upd H1 l (.lst ys.reverse)))=λx H1=>∃p ys,x= .ref p/\SqX X.K H1 p ys/\∀l,H1 l=gC->Q (.ref l) (upd H1 l (.lst ys.reverse)):=by
   funext x H1;simp
  rw[e];exact h
 obtain⟨p,ys,rfl,hq,q⟩:=q1;obtain⟨u,rfl,ru⟩:=Vm r1;cases ru;obtain⟨z,ah,n,r,hl,e1⟩:=I1.lstR hq;have hL:s1.heap.IsList p ah.toArray:=⟨_,e1,rfl,n,rfl⟩;have qm:p<s1.heap.objs.size:=Heap.lt_size e1;refine call_reversed_list hL ?_;refine Calls.spliced_nil ?_;refine zcF (items:=ah.toArray) (I1.ok.hd hc) (by rw[uo];omega) ⟨_,Heap.get?_push_size _ rfl,rfl,rfl⟩ (hL.push _) (uF qm) λh' tk acc' c' hk lz dD=> ?_;have kept:∀b o,s1.heap.get? b=f7 o->h'.get? b=f7 o:=λb o e=>hk b o (uF (Heap.lt_size e)) (Heap.get?_push_of_some _ e);have hsz:s1.heap.objs.size<=(s1.heap.push (revObj p ((ah.toArray.size:Int)-1))).objs.size:=by rw[Heap.size_push];exact Br _
 have ha:acc'.toList=ah.reverse:=by
  obtain⟨a1,a2⟩:=dD;refine BW λi=> ?_;by_cases hi:i<ah.length
  .have kr:i<acc'.size:=by rw[a1,uo];exact hi
   have e3:acc'.toList[i]? =f7 acc'[i]:=by simp[kr]
   have e4:=a2 i acc'[i] (by simp[kr]);rw[e3,Bw hi,<-e4];simp
  .rw[uA (by simp[a1];omega),uA (by simp;omega)]
 have hv:zZ ys.reverse ah.reverse:=r.reverse;refine⟨.ref _,_,I1.laid (o:= .lst ys.reverse) (t':=tk) kept hsz ⟨by rw[BG];exact z,ah.reverse,c',hv,?_⟩,rfl,q _ (I1.hok.fresh hsz)⟩;rw[lz,<-ha]
end
end L2
namespace HT
open PySem PyProof.Rows
section
variable {prog:Program} {w:World} {A:Around} {E:Value->Shared->Prop} {s:Shared}
theorem Uu {t sl:Addr} {items:Array Value} {vl vu:Value} {lo hi:Option Int} {Q:Value->Shared->Prop} (ht:IsTup s.heap t items) (hs:s.heap.IsSliceOf sl vl vu .none) (pl:IsPart vl lo) (pu:IsPart vu hi)
  (hw:sIx items.size 0 lo=0/\sIx items.size items.size hi=items.size) (h:Q (.ref t) s):wpAny (model prog w) A (getItem (.ref t) (.ref sl)) Q E s:=by
 obtain⟨os,jP,gJ,fe⟩:=id hs;have oz:s.TypeIs (.ref sl) "slice":=⟨os,jP,gJ⟩;unfold getItem
 try with_reducible refine wpAny_holding ?_
 first|refine wpAny_bind (wpAny_pure ?_)|skip
 refine wpAny_bind (wpAny_sequenceKey ht.typeIs ∅ ?_)
 refine wpAny_bind (wpAny_callSpecial?_slot (name:=Str.ofString "__getitem__") ht.typeIs z0
  (wpAny_call_entry z0 ht.typeIs entry_tuple_getitem ?_ (args_tuple_getitem _ _)))
 show wpAny _ _ (Builtin.Tuple.tupleItemsOf (.ref t)>>=_) _ _ s;refine wpAny_bind (tupleItemsOf_ ht ?_);refine wpAny_bind (wpAny_typeOf oz ?_);rw[if_pos ∅];refine wpAny_bind (XO hs pl pu ?_);have nk:((((sIx items.size 0 lo:Nat):Int)==0&&(1:Int)==1&&(sIx items.size items.size hi-sIx items.size 0 lo)==items.size)=ia):=by
  rw[hw.1,hw.2];simp
 show wpAny _ _ (if (((sIx items.size 0 lo:Nat):Int)==0&&(1:Int)==1&&(sIx items.size items.size hi-sIx items.size 0 lo)==items.size)=ia then _ else _) _ _ s;rw[if_pos nk];refine wpAny_bind ?_;unfold Builtin.Tuple.tupleIsExact;refine wpAny_bind (wpAny_typeOf ht.typeIs ?_);refine wpAny_pure ?_;rw[if_pos ∅];refine wpAny_bind (wpAny_rule ?_);exact wpAny_pure ⟨_,rfl,wpAny_pure h⟩
end
end HT
namespace L2
open PySem PySem.Spec PyProof.Rows
section
variable {X:Cx}
def zmp (K:u5):V->Option Int->Option Int->Hp->VK->Prop:=λx lo hi H Q=>∃a xs,x= .ref a/\SqT K H a xs/\
 (HT.sIx xs.length 0 lo=0/\HT.sIx xs.length xs.length hi=xs.length->Q (.ref a) H)/\(¬(HT.sIx xs.length 0 lo=0/\HT.sIx xs.length xs.length hi=xs.length)->∀p,H p=gC->Q (.ref p) (upd H p (.tup (zcz xs lo hi))))
theorem zhU {K:u5} (hK:X.K=K:=by rfl):SlR X (zmp K):=by
 subst hK;intro pins s σ H x v vl vu lo hi sl Q I rx hs pl pu h;obtain⟨a,xs,rfl,hx,q1,q2⟩:=h;by_cases hw:HT.sIx xs.length 0 lo=0/\HT.sIx xs.length xs.length hi=xs.length
 .cases rx;obtain⟨ah,r,ht,hz⟩:=I.tuple hx;have hlen:ah.toArray.size=xs.length:=by rw[uo];exact r.length.symm
  refine⟨"tuple",_,z0.lookup,ht.typeIs,?_⟩;exact HT.Uu ht hs pl pu (by rw[hlen];exact hw) ⟨.ref a,H,I,rfl,q1 hw⟩
 .exact zoh pins s σ H (.ref a) v vl vu lo hi sl Q I rx hs pl pu ⟨a,xs,rfl,hx,hw,q2 hw⟩
section
variable {X:Cx} {tg:Expr}
end
end
section
variable {env:Env} {r:List Expr}
theorem zkp {a b c}:starEach (.Tuple a b c::r) env=(kb,eval (.Tuple a b c) env)::starEach r env:=by rw[starEach];simp
theorem zfk {a b c}:starEach (.Constant a b c::r) env=(kb,eval (.Constant a b c) env)::starEach r env:=by rw[starEach];simp
theorem zmq {a b}:starEach (.Name a b::r) env=(kb,eval (.Name a b) env)::starEach r env:=by rw[starEach];simp
theorem zd5 {a b c}:starEach (.Subscript a b c::r) env=(kb,eval (.Subscript a b c) env)::starEach r env:=by rw[starEach];simp
theorem zkq {a b c d}:starEach (.BinOp a b c d::r) env=(kb,eval (.BinOp a b c d) env)::starEach r env:=by rw[starEach];simp
theorem zgN {a b c}:starEach (.UnaryOp a b c::r) env=(kb,eval (.UnaryOp a b c) env)::starEach r env:=by rw[starEach];simp
theorem zgO {a b c d}:starEach (.Compare a b c d::r) env=(kb,eval (.Compare a b c d) env)::starEach r env:=by rw[starEach];simp
theorem zmr {a b c d}:starEach (.Call a b c d::r) env=(kb,eval (.Call a b c d) env)::starEach r env:=by rw[starEach];simp
theorem zd6 {a b c}:starEach (.Attribute a b c::r) env=(kb,eval (.Attribute a b c) env)::starEach r env:=by rw[starEach];simp
end
end L2
namespace L2
open PySem PySem.Spec PyProof.Rows PySem.Builtin
section
variable {X:Cx}
end
end L2
namespace L2
open PySem PySem.Spec PyProof.Rows PySem.Calls
section
variable {X:Cx}
end
section
variable {prog:Program} {w:World} {A:Around} {E:Value->Shared->Prop} {s:Shared} {T:String} {r d:Addr} {n:Nat} {P:Nat->Value->Prop} {OK:Heap->Prop} {Q:Value->Shared->Prop}
end
section
variable {X:Cx}
end
section
variable {prog:Program} {w:World} {A:Around} {E:Value->Shared->Prop} {s:Shared} {T:String} {r d:Addr} {n:Nat} {P:Nat->Value->Prop} {OK:Heap->Prop} {Q:Value->Shared->Prop}
end
section
variable {X:Cx}
end
end L2
namespace L2
open PySem
structure Vs where
 C:Option Str
 m:Str
 d:Str
structure xq where
 id:Nat
 par:Arguments
 body:BE
 sc:Scope
 t:Vs
 fr:List Str
noncomputable def Vs.q (t:Vs):Str:=(t.d++".<locals>.")++"<lambda>"
noncomputable abbrev xq.q (L:xq):Str:=L.t.q
noncomputable def zgP (K:u5):Option Str->Str->Option Addr
 |none,m=>(match um K mainGlobals m with
  |some (f7 (.ref f))=>f7 f
  |_=>gC)
 |some C,m=>(match um K mainGlobals C with
  |some (f7 (.ref g))=>(match uk K (.ref g) m with
   |some (f7 (.ref f))=>f7 f
   |_=>gC)
  |_=>gC)
noncomputable def zgQ (K:u5) (f:Addr):Option (Addr×Addr):=match K.lookup f with
 |some ⟨_,_,.func fd,_⟩=>(match fd.code with
  | .ref c=>(match K.lookup c with
   |some ⟨_,_,.fields vs,_⟩=>(match (vs[11]? :Option Value) with
    |some (.ref P)=>if B2 K c P then f7 (c,P) else gC
    |_=>gC)
   |_=>gC)
  |_=>gC)
 |_=>gC
noncomputable def vZ (K:u5) (t:Vs):Option (Addr×Addr):=(zgP K t.C t.m).bind (zgQ K)
inductive Xv where
 |non|bl (b:Bool)|int (i:Int)|str (x:Str)|tup (xs:List Xv)|ct (xs:List Xv)|ref (n:Nat)|lam (L:xq) (xs:List Xv)
inductive Ce where
 |lst (xs:List Xv)
 |frz (xs:List Xv)
 |dk (ae:List (Key×Xv))
 |dt (ae:List (List Key×Xv))
 |ins (nm:Str) (fs:List (Str×Xv))
 |fdk (ae:List (Key×Xv))
 |dn (ae:List (NK×Xv×Xv))
 |exc (nm:Str)
 |tab (t:Vs)
 |fdn (ae:List (NK×Xv×Xv))
abbrev Sto:=List Ce
abbrev Rho:=List (Option Xv)
noncomputable def Ce.fz:Ce->Bool
 | .frz _=>ia
 | .fdk _=>ia
 | .fdn _=>ia
 | .exc _=>ia
 |_=>kb
noncomputable def HO.mu:HO->Bool
 | .lst _=>ia
 | .dK _=>ia
 | .dT _=>ia
 | .dN _=>ia
 | .ins _ _ _=>ia
 | .set _ _=>ia
 | .tbl _=>ia
 |_=>kb
def wQ (H H':Hp):Prop:=∀b u,H b=f7 u->u.mu=kb->H' b=f7 u
theorem wQ.refl (H:Hp):wQ H H:=λ_ _ e _=>e
theorem wQ.trans {H H1 H2:Hp} (a:wQ H H1) (b:wQ H1 H2):wQ H H2:=λx u e m=>b x u (a x u e m) m
theorem wQ.same {H H':Hp} (S:Xl H H'):wQ H H':=λb u e _=>S b u e
structure Ext (j:List Addr) (H:Hp) (j':List Addr) (H':Hp):Prop where
 pre:∀(n:Nat) a,j[n]? =f7 a->j'[n]? =f7 a
 imm:wQ H H'
theorem Ext.refl {j:List Addr} {H:Hp}:Ext j H j H:=⟨λ_ _ e=>e,wQ.refl _⟩
theorem Ext.trans {j j1 j2:List Addr} {H H1 H2:Hp} (a:Ext j H j1 H1) (b:Ext j1 H1 j2 H2):Ext j H j2 H2:=⟨λn x e=>b.pre n x (a.pre n x e),a.imm.trans b.imm⟩
theorem Ext.same {j:List Addr} {H H':Hp} (S:Xl H H'):Ext j H j H':=⟨λ_ _ e=>e,wQ.same S⟩
def Uy (H:Hp) (q:Str) (c:Addr):Prop:=∃(oc:Obj) (fs:Array Value) (t:Tok),H c=f7 (.frz oc (.own 0))/\oc.data= .fields fs/\fs[1]? =f7 (.str q t)
structure zbH (H:Hp) (L:xq) (f:Addr) (vs:List V):Prop where
 ex:∃(bG:List (Str×Addr)) (pm eD:Value) (c:Addr),H f=f7 (.frz (Am "<lambda>" L.q L.par L.body L.sc bG pm c eD) (.own 0))/\Uy H L.q c/\
  (∀(i:Nat) x v,L.fr[i]? =f7 x->vs[i]? =f7 v->∃(a:Addr) (o:Obj) (u:Value),bG.lookup x=f7 a/\H a=f7 (.frz o (.own 0))/\o.data= .cell (f7 u)/\zW v u)/\
  (∀x y a,bG.lookup x=f7 a->bG.lookup y=f7 a->x=y)/\(∀y∈L.sc.names,y.2= .free->∃a,bG.lookup y.1=f7 a)/\
  ∀x a,bG.lookup x=f7 a->∃(o:Obj) (u:Option Value),H a=f7 (.frz o (.own 0))/\o.data= .cell u
theorem Uy.mono {H H':Hp} {q:Str} {c:Addr} (k:wQ H H') (h:Uy H q c):Uy H' q c:=by
 obtain⟨oc,fs,t,e,r⟩:=h;exact⟨oc,fs,t,k _ _ e rfl,r⟩
theorem zbH.mono {H H':Hp} {L:xq} {f:Addr} {vs:List V} (k:wQ H H') (h:zbH H L f vs):zbH H' L f vs:=by
 obtain⟨bG,pm,eD,c,h1,h2,h3,h4,h5,h6⟩:=h.ex;refine⟨bG,pm,eD,c,k _ _ h1 rfl,h2.mono k,λi x v e1 e2=> ?_,h4,h5,λx a e=> ?_⟩
 .obtain⟨a,o,u,e3,e4,r⟩:=h3 i x v e1 e2;exact⟨a,o,u,e3,k _ _ e4 rfl,r⟩
 .obtain⟨o,u,e3,r⟩:=h6 x a e;exact⟨o,u,k _ _ e3 rfl,r⟩
mutual
inductive Xis (K:u5) (j:List Addr) (H:Hp):Xv->V->Prop where
 |non:Xis K j H .non .non
 |bl (b:Bool):Xis K j H (.bl b) (.bl b)
 |int (i:Int):Xis K j H (.int i) (.int i)
 |str (x:Str):Xis K j H (.str x) (.str x)
 |tup {a:Addr} {vs:List V} {xs:List Xv}:H a=f7 (.tup vs)->yc K j H xs vs->Xis K j H (.tup xs) (.ref a)
 |ct {a:Addr} {vs:List V} {xs:List Xv}:(∀H,SqT K H a vs)->yc K j H xs vs->Xis K j H (.ct xs) (.ref a)
 |ref {n:Nat} {a:Addr}:j[n]? =f7 a->Xis K j H (.ref n) (.ref a)
 |lam {f:Addr} {vs:List V} {L:xq} {xs:List Xv}:zbH H L f vs->yc K j H xs vs->Xis K j H (.lam L xs) (.ref f)
inductive yc (K:u5) (j:List Addr) (H:Hp):List Xv->List V->Prop where
 |nil:yc K j H [] []
 |cons {x:Xv} {v:V} {xs:List Xv} {vs:List V}:Xis K j H x v->yc K j H xs vs->yc K j H (x::xs) (v::vs)
end
theorem Xis.mono {K:u5} {j j':List Addr} {H H':Hp} (S:Ext j H j' H') {x:Xv} {v:V} (h:Xis K j H x v):Xis K j' H' x v:=
 Xis.rec (motive_1:=λx v _=>Xis K j' H' x v) (motive_2:=λxs vs _=>yc K j' H' xs vs) .non .bl .int .str (λh _ l=> .tup (S.imm _ _ h rfl) l) (λh _ l=> .ct h l) (λh=> .ref (S.pre _ _ h)) (λh _ l=> .lam (h.mono S.imm) l) .nil (λ_ _ h l=> .cons h l) h
theorem yc.ind {K:u5} {j:List Addr} {H:Hp} {m:List Xv->List V->Prop} (h0:m [] []) (h1:∀{x:Xv} {v:V} {xs:List Xv} {vs:List V},Xis K j H x v->yc K j H xs vs->m xs vs->m (x::xs) (v::vs)) {xs:List Xv} {vs:List V} (h:yc K j H xs vs):m xs vs:=
 yc.rec (motive_1:=λ_ _ _=>True) (motive_2:=λxs vs _=>m xs vs) trivial (λ_=>trivial) (λ_=>trivial) (λ_=>trivial) (λ_ _ _=>trivial) (λ_ _ _=>trivial) (λ_=>trivial) (λ_ _ _=>trivial) h0 (λa b _ c=>h1 a b c) h
theorem yc.mono {K:u5} {j j':List Addr} {H H':Hp} (S:Ext j H j' H') {xs:List Xv} {vs:List V} (h:yc K j H xs vs):yc K j' H' xs vs:=h.ind (m:=yc K j' H') .nil λa _ c=> .cons (a.mono S) c
section
variable {K:u5} {j:List Addr} {H:Hp}
theorem yc.len {xs:List Xv} {vs:List V} (h:yc K j H xs vs):vs.length=xs.length:=h.ind (m:=λxs vs=>vs.length=xs.length) rfl λ_ _ e=>congrArg (· +1) e
theorem yc.get {xs:List Xv} {vs:List V} {i:Nat} {x:Xv} (h:yc K j H xs vs):xs[i]? =f7 x->∃v,vs[i]? =f7 v/\Xis K j H x v:=
 h.ind (m:=λxs vs=>∀i,xs[i]? =f7 x->∃v,vs[i]? =f7 v/\Xis K j H x v) (λi e=>by simp at e) (λa _ ih i e=>by
  cases i with
  |zero=>simp at e;subst e;exact⟨_,rfl,a⟩
  |succ i=>exact ih i e) i
theorem yc.append {xs ys:List Xv} {vs ws:List V} (h:yc K j H xs vs) (k:yc K j H ys ws):yc K j H (xs++ys) (vs++ws):=h.ind (m:=λxs vs=>yc K j H (xs++ys) (vs++ws)) k λa _ c=> .cons a c
theorem yc.one {v:V} {x:Xv} (h:Xis K j H x v):yc K j H [x] [v]:= .cons h .nil
theorem yc.take {xs:List Xv} {vs:List V} (n:Nat) (h:yc K j H xs vs):yc K j H (xs.take n) (vs.take n):=
 h.ind (m:=λxs vs=>∀n,yc K j H (xs.take n) (vs.take n)) (λn=>by cases n<;>exact .nil) (λa _ ih n=>by
  cases n with
  |zero=>exact .nil
  |succ n=>exact .cons a (ih n)) n
theorem yc.drop {xs:List Xv} {vs:List V} (n:Nat) (h:yc K j H xs vs):yc K j H (xs.drop n) (vs.drop n):=
 h.ind (m:=λxs vs=>∀n,yc K j H (xs.drop n) (vs.drop n)) (λn=>by cases n<;>exact .nil) (λa b ih n=>by
  cases n with
  |zero=>exact .cons a b
  |succ n=>exact ih n) n
theorem yc.ints (ns:List Int):yc K j H (ns.map Xv.int) (ns.map V.int):=by
 induction ns with
 |nil=>exact .nil
 |cons n r ih=>exact .cons (.int n) ih
theorem yc.reverse {xs:List Xv} {vs:List V} (h:yc K j H xs vs):yc K j H xs.reverse vs.reverse:=
 h.ind (m:=λxs vs=>yc K j H xs.reverse vs.reverse) .nil λa _ c=>by
  rw[Bo,Bo];exact c.append (.one a)
theorem yc.set {v:V} {x:Xv} (hv:Xis K j H x v) {xs:List Xv} {vs:List V} (n:Nat) (h:yc K j H xs vs):yc K j H (xs.set n x) (vs.set n v):=
 h.ind (m:=λxs vs=>∀n,yc K j H (xs.set n x) (vs.set n v)) (λ_=> .nil) (λa b ih n=>by
  cases n with
  |zero=>exact .cons hv b
  |succ n=>exact .cons a (ih n)) n
theorem yc.dropLast {xs:List Xv} {vs:List V} (h:yc K j H xs vs):yc K j H xs.dropLast vs.dropLast:=by
 rw[Cz,Cz,h.len];exact h.take _
theorem yc.at_ {xs:List Xv} {vs:List V} {i:Int} {x:Xv} (h:yc K j H xs vs) (e:atI xs i=f7 x):∃v,atI vs i=f7 v/\Xis K j H x v:=by
 unfold atI at e ⊢;rw[h.len];cases e1:ixN xs.length i with
 |none=>rw[e1] at e;cases e
 |some m=>
  rw[e1] at e;obtain⟨v,e3,e4⟩:=h.get (i:=m) e;exact⟨v,e3,e4⟩
theorem Xis.int_inv {v:V} {i:Int} (h:Xis K j H (.int i) v):v= .int i:=by cases h;rfl
theorem Xis.bl_inv {v:V} {b:Bool} (h:Xis K j H (.bl b) v):v= .bl b:=by cases h;rfl
theorem Xis.str_inv {v:V} {b:Str} (h:Xis K j H (.str b) v):v= .str b:=by cases h;rfl
theorem Xis.non_inv {v:V} (h:Xis K j H .non v):v= .non:=by cases h;rfl
theorem Xis.ref_inv {v:V} {n:Nat} (h:Xis K j H (.ref n) v):∃a,v= .ref a/\j[n]? =f7 a:=by cases h with|ref e=>exact⟨_,rfl,e⟩
theorem Xis.tup_inv {v:V} {xs:List Xv} (h:Xis K j H (.tup xs) v):∃a vs,v= .ref a/\H a=f7 (.tup vs)/\yc K j H xs vs:=by cases h with|tup a b=>exact⟨_,_,rfl,a,b⟩
theorem yc.cons_inv {vs:List V} {x:Xv} {xs:List Xv} (h:yc K j H (x::xs) vs):∃v r,vs=v::r/\Xis K j H x v/\yc K j H xs r:=by cases h with|cons a b=>exact⟨_,_,rfl,a,b⟩
theorem yc.nil_inv {vs:List V} (h:yc K j H [] vs):vs=[]:=by cases h;rfl
theorem yc.d1 {vs:List V} {a:Xv} (h:yc K j H [a] vs):∃x,vs=[x]/\Xis K j H a x:=by
 obtain⟨x,r,rfl,hx,h⟩:=h.cons_inv;obtain rfl:=h.nil_inv;exact⟨x,rfl,hx⟩
theorem yc.d2 {vs:List V} {a b:Xv} (h:yc K j H [a,b] vs):∃x y,vs=[x,y]/\Xis K j H a x/\Xis K j H b y:=by
 obtain⟨x,r,rfl,hx,h⟩:=h.cons_inv;obtain⟨y,rfl,hy⟩:=h.d1;exact⟨x,y,rfl,hx,hy⟩
noncomputable def Xv.tupOf:Xv->Option (List Xv)
 | .tup xs=>f7 xs
 | .ct xs=>f7 xs
 |_=>gC
theorem Xis.tupO {v:V} {x:Xv} {xs:List Xv} (h:Xis K j H x v) (e:x.tupOf=f7 xs):∃a vs,v= .ref a/\SqT K H a vs/\yc K j H xs vs:=by
 cases h with
 |tup h l=>simp[Xv.tupOf] at e;subst e;exact⟨_,_,rfl,SqT.of h,l⟩
 |ct h l=>simp[Xv.tupOf] at e;subst e;exact⟨_,_,rfl,h H,l⟩
 |_=>simp[Xv.tupOf] at e
end
inductive KX {κ:Type} (K:u5) (j:List Addr) (H:Hp):List (κ×Xv)->List (κ×V)->Prop where
 |nil:KX K j H [] []
 |cons {k:κ} {x:Xv} {v:V} {r:List (κ×Xv)} {rs:List (κ×V)}:Xis K j H x v->KX K j H r rs->KX K j H ((k,x)::r) ((k,v)::rs)
theorem KX.mono {κ:Type} {K:u5} {j j':List Addr} {H H':Hp} (S:Ext j H j' H') {xs:List (κ×Xv)} {vs:List (κ×V)} (h:KX K j H xs vs):KX K j' H' xs vs:=by
 induction h with
 |nil=>exact .nil
 |cons h _ ih=>exact .cons (h.mono S) ih
mutual
noncomputable def Yi:Xv->Option NK
 | .int i=>f7 (.int i)
 | .str x=>f7 (.str x)
 | .tup l=>(XR l).map .tup
 | .ct l=>(XR l).map .tup
 | .non=>gC
 | .bl _=>gC
 | .ref _=>gC
 | .lam _ _=>gC
noncomputable def XR:List Xv->Option (List NK)
 |[]=>f7 []
 |x::r=>(Yi x).bind λk=>(XR r).map (k:: ·)
end
inductive NX (K:u5) (j:List Addr) (H:Hp):List (NK×Xv×Xv)->List (NK×Addr×V)->Prop where
 |nil:NX K j H [] []
 |cons {k:NK} {x y:Xv} {b:Addr} {v:V} {r:List (NK×Xv×Xv)} {rs:List (NK×Addr×V)}:Yi x=f7 k/\vW k<=8->Xis K j H x (.ref b)->Xis K j H y v->NX K j H r rs->NX K j H ((k,x,y)::r) ((k,b,v)::rs)
theorem NX.mono {K:u5} {j j':List Addr} {H H':Hp} (S:Ext j H j' H') {xs:List (NK×Xv×Xv)} {vs:List (NK×Addr×V)} (h:NX K j H xs vs):NX K j' H' xs vs:=by
 induction h with
 |nil=>exact .nil
 |cons e h1 h2 _ ih=>exact .cons e (h1.mono S) (h2.mono S) ih
def zbI (K:u5) (j:List Addr) (H:Hp) (a:Addr):Ce->Prop
 | .lst xs=>∃vs,H a=f7 (.lst vs)/\yc K j H xs vs
 | .frz xs=>∃vs,((∃o,H a=f7 (.frz o (.lst vs)))\/∀H,SqX K H a vs)/\yc K j H xs vs
 | .dk ae=>∃ks:List (Key×V),H a=f7 (.dK ks)/\KX K j H ae ks
 | .dt ae=>∃ks:List (List Key×V),H a=f7 (.dT ks)/\KX K j H ae ks
 | .ins nm fs=>∃(C dx:Addr) (vs:List (Str×V)),um K mainGlobals nm=f7 (f7 (.ref C))/\H a=f7 (.ins C dx vs)/\KX K j H fs vs
 | .fdk ae=>∃(o:Obj) (ks:List (Key×V)),H a=f7 (.frz o (.dK ks))/\KX K j H ae ks
 | .dn ae=>∃ks:List (NK×Addr×V),H a=f7 (.dN ks)/\NX K j H ae ks
 | .fdn ae=>∃(o:Obj) (ks:List (NK×Addr×V)),H a=f7 (.frz o (.dN ks))/\NX K j H ae ks
 | .exc nm=>∃C:Addr,um K mainGlobals nm=f7 (f7 (.ref C))/\H a=f7 (zd0 a (.ref C))
 | .tab t=>∃(ps:Array Value) (d:Addr),H a=f7 (.tbl ps)/\vZ K t=f7 (d,a)/\TriplesOk ps.toList/\∀pos cv,codeAmong pos ps.toList=f7 cv->∃c,cv= .ref c/\Uy H t.q c
theorem zbI.mu {K:u5} {j:List Addr} {H:Hp} {a:Addr} {c:Ce} (h:zbI K j H a c) (z:c.fz=kb):∃o,H a=f7 o/\o.mu=ia:=by
 cases c with
 |lst l=>obtain⟨_,e,_⟩:=h;exact⟨_,e,rfl⟩
 |dk l=>obtain⟨_,e,_⟩:=h;exact⟨_,e,rfl⟩
 |dt l=>obtain⟨_,e,_⟩:=h;exact⟨_,e,rfl⟩
 |ins n l=>obtain⟨_,_,_,_,e,_⟩:=h;exact⟨_,e,rfl⟩
 |dn l=>obtain⟨_,e,_⟩:=h;exact⟨_,e,rfl⟩
 |tab t=>obtain⟨_,_,e,_⟩:=h;exact⟨_,e,rfl⟩
 |_=>cases z
theorem zbI.mono {K:u5} {j j':List Addr} {H H':Hp} {a:Addr} (S:Ext j H j' H') {c:Ce} (h:c.fz=kb->H' a=H a) (k:zbI K j H a c):zbI K j' H' a c:=by
 cases c with
 |lst l=>obtain⟨_,e,l⟩:=k;exact⟨_,(h rfl).trans e,l.mono S⟩
 |frz l=>
  obtain⟨_,e,l⟩:=k;rcases e with⟨o,e⟩|e
  .exact⟨_,.inl ⟨o,S.imm _ _ e rfl⟩,l.mono S⟩
  .exact⟨_,.inr e,l.mono S⟩
 |dk l=>obtain⟨_,e,l⟩:=k;exact⟨_,(h rfl).trans e,l.mono S⟩
 |dt l=>obtain⟨_,e,l⟩:=k;exact⟨_,(h rfl).trans e,l.mono S⟩
 |ins n l=>obtain⟨_,_,_,n,e,l⟩:=k;exact⟨_,_,_,n,(h rfl).trans e,l.mono S⟩
 |fdk l=>obtain⟨_,_,e,l⟩:=k;exact⟨_,_,S.imm _ _ e rfl,l.mono S⟩
 |dn l=>obtain⟨_,e,l⟩:=k;exact⟨_,(h rfl).trans e,l.mono S⟩
 |fdn l=>obtain⟨_,_,e,l⟩:=k;exact⟨_,_,S.imm _ _ e rfl,l.mono S⟩
 |exc c=>obtain⟨C,n,e⟩:=k;exact⟨C,n,S.imm _ _ e rfl⟩
 |tab t=>
  obtain⟨ps,d,e,x,t,r⟩:=k;refine⟨ps,d,(h rfl).trans e,x,t,λpos cv q=> ?_⟩;obtain⟨c,e1,e2⟩:=r pos cv q;exact⟨c,e1,e2.mono S.imm⟩
structure Fm where
 H0:Hp
 j0:List Addr
 S0:Sto
structure En (K:u5) (F:Fm) (j:List Addr) (H:Hp) (σ:St) (ρ:Rho) (S:Sto):Prop where
 len:σ.length=ρ.length
 slot:∀(i:Nat) x,ρ[i]? =f7 (f7 x)->∃v,σ[i]? =f7 (f7 v)/\Xis K j H x v
 jl:j.length=S.length
 inj:∀(n m:Nat) a c d,j[n]? =f7 a->j[m]? =f7 a->S[n]? =f7 c->S[m]? =f7 d->c.fz=kb->d.fz=kb->n=m
 cel:∀(n:Nat) c a,S[n]? =f7 c->j[n]? =f7 a->zbI K j H a c
 ext:Ext F.j0 F.H0 j H
 old:∀(n:Nat) c,F.S0[n]? =f7 c->∃c',S[n]? =f7 c'/\(c'.fz=kb->c.fz=kb)/\(c.fz=ia->c'=c)
 l0:F.j0.length=F.S0.length
 keep:∀b u,F.H0 b=f7 u->H b=f7 u\/∃(n:Nat) (c:Ce),F.j0[n]? =f7 b/\F.S0[n]? =f7 c/\c.fz=kb
 fresh:∀(n:Nat) a,F.j0.length<=n->j[n]? =f7 a->F.H0 a=gC
 dom:∀b,H b=gC->F.H0 b=gC
section
variable {K:u5} {F:Fm} {j j':List Addr} {H H':Hp} {σ σ':St} {ρ ρ':Rho} {S S':Sto} {v:V} {x:Xv} {a p:Addr} {o:HO} {i n:Nat} {c c':Ce}
theorem En.heap (E:En K F j H σ ρ S) (Sm:Xl H H'):En K F j H' σ ρ S:=by
 have X:Ext j H j H':=Ext.same Sm;refine⟨E.len,λi x e=> ?_,E.jl,E.inj,λn c a e1 e2=> ?_,E.ext.trans X,E.old,E.l0,λb u e=> ?_,E.fresh,λb e=>E.dom b ?_⟩
 .obtain⟨v,e1,e2⟩:=E.slot i x e;exact⟨v,e1,e2.mono X⟩
 .have h:=E.cel n c a e1 e2;refine h.mono X λz=> ?_;obtain⟨o,e,_⟩:=h.mu z;exact (Sm _ _ e).trans e.symm
 .rcases E.keep b u e with h|h
  .exact .inl (Sm _ _ h)
  .exact .inr h
 .cases e':H b with
  |none=>rfl
  |some u=>rw[Sm b u e'] at e;cases e
theorem En.new (E:En K F j H σ ρ S) (h:H p=gC):En K F j (upd H p o) σ ρ S/\Ext j H j (upd H p o):=⟨E.heap (vz h),Ext.same (vz h)⟩
theorem En.cell (E:En K F j H σ ρ S) (h:H p=gC) (hc:zbI K (j++[p]) (upd H p o) p c):En K F (j++[p]) (upd H p o) σ ρ (S++[c])/\Ext j H (j++[p]) (upd H p o):=by
 have X:Ext j H (j++[p]) (upd H p o):=⟨λn a e=>by rw[uc (u9.1 e).1];exact e,wQ.same (vz h)⟩;have jr:∀{n:Nat} {a:Addr},(j++[p])[n]? =f7 a->j[n]? =f7 a\/(n=j.length/\a=p):=λ{n a} e=>by
  by_cases hn:n<j.length
  .rw[uc hn] at e;exact .inl e
  .rw[ur ⋯] at e;cases hm:n-j.length with
   |zero=>rw[hm] at e;simp at e;exact .inr ⟨⋯,e.symm⟩
   |succ m=>rw[hm] at e;simp at e
 have sat:∀{n:Nat} {d:Ce},(S++[c])[n]? =f7 d->S[n]? =f7 d\/(n=S.length/\d=c):=λ{n d} e=>by
  by_cases hn:n<S.length
  .rw[uc hn] at e;exact .inl e
  .rw[ur ⋯] at e;cases hm:n-S.length with
   |zero=>rw[hm] at e;simp at e;exact .inr ⟨⋯,e.symm⟩
   |succ m=>rw[hm] at e;simp at e
 have lt:∀{n:Nat} {d:Ce},S[n]? =f7 d->n<S.length:=λe=>(u9.1 e).1;have jJ:∀{n:Nat} {a:Addr} {d:Ce},j[n]? =f7 a->S[n]? =f7 d->d.fz=kb->a≠p:=λ{n a d} e1 e2 z q=>by
  subst q;obtain⟨o',e,_⟩:=(E.cel n d a e2 e1).mu z;rw[h] at e;cases e
 refine⟨⟨E.len,λi x e=> ?_,by simp[E.jl],λn m a c1 c2 e1 e2 e3 e4 z1 z2=> ?_,λn d a e1 e2=> ?_,E.ext.trans X,λn d e=> ?_,E.l0,λb u e=> ?_,λn a hn e=> ?_,λb e=> ?_⟩,X⟩
 .obtain⟨v,e1,e2⟩:=E.slot i x e;exact⟨v,e1,e2.mono X⟩
 .rcases sat e3 with e3|⟨e3,_⟩
  .have h1:j[n]? =f7 a:=by
    rcases jr e1 with h1|⟨h1,_⟩
    .exact h1
    .have:=lt e3;rw[E.jl] at h1;omega
   rcases sat e4 with e4|⟨e4,_⟩
   .have h2:j[m]? =f7 a:=by
     rcases jr e2 with h2|⟨h2,_⟩
     .exact h2
     .have:=lt e4;rw[E.jl] at h2;omega
    exact E.inj n m a c1 c2 h1 h2 e3 e4 z1 z2
   .have:a=p:=by
     rcases jr e2 with h2|⟨_,h2⟩
     .have:=(u9.1 h2).1;rw[E.jl] at this;omega
     .exact h2
    exact absurd this (jJ h1 e3 z1)
  .have:a=p:=by
    rcases jr e1 with h2|⟨_,h2⟩
    .have:=(u9.1 h2).1;rw[E.jl] at this;omega
    .exact h2
   rcases sat e4 with e4|⟨e4,_⟩
   .have h2:j[m]? =f7 a:=by
     rcases jr e2 with h2|⟨h2,_⟩
     .exact h2
     .have:=lt e4;rw[E.jl] at h2;omega
    exact absurd this (jJ h2 e4 z2)
   .rw[e3,e4]
 .rcases sat e1 with e1|⟨e1,rfl⟩
  .have h2:j[n]? =f7 a:=by
    rcases jr e2 with h2|⟨h2,_⟩
    .exact h2
    .have:=lt e1;rw[E.jl] at h2;omega
   have hh:=E.cel n d a e1 h2;exact hh.mono X λz=>zB (jJ h2 e1 z)
  .have:a=p:=by
    rcases jr e2 with h2|⟨_,h2⟩
    .have:=(u9.1 h2).1;rw[E.jl] at this;omega
    .exact h2
   subst this;exact hc
 .obtain⟨d',e1,e2⟩:=E.old n d e;exact⟨d',by rw[uc (lt e1)];exact e1,e2⟩
 .rcases E.keep b u e with h'|h'
  .exact .inl (vz h _ _ h')
  .exact .inr h'
 .rcases jr e with e|⟨_,rfl⟩
  .exact E.fresh n a hn e
  .exact E.dom _ h
 .refine E.dom b ?_;cases e':H b with
  |none=>rfl
  |some u=>rw[vz h b u e'] at e;cases e
theorem En.writeF (E:En K F j H σ ρ S) (hs:S[n]? =f7 c) (z:c.fz=kb) (hj:j[n]? =f7 a) (hc:∀X:Ext j H j (upd H a o),zbI K j (upd H a o) a c'):En K F j (upd H a o) σ ρ (S.set n c')/\Ext j H j (upd H a o):=by
 obtain⟨o0,h0,m0⟩:=(E.cel n c a hs hj).mu z
 have X:Ext j H j (upd H a o):=⟨λ_ _ e=>e,λb u e m=>by
  have:b≠a:=λq=>by subst q;rw[h0] at e;cases e;rw[m] at m0;cases m0
  rw[zB this];exact e⟩
 have sat:∀{m:Nat} {d:Ce},(S.set n c')[m]? =f7 d->(m=n/\d=c')\/(m≠n/\S[m]? =f7 d):=λ{m d} e=>by
  rw[uZ] at e;split at e
  .rename_i q;split at e
   .cases e;exact .inl ⟨q.symm,rfl⟩
   .cases e
  .rename_i q;exact .inr ⟨λr=>q r.symm,e⟩
 have pP:∀{m:Nat} {d:Ce},(S.set n c')[m]? =f7 d->∃d',S[m]? =f7 d'/\(d.fz=kb->d'.fz=kb):=λ{m d} e=>by
  rcases sat e with⟨rfl,rfl⟩|⟨_,e⟩
  .exact⟨c,hs,λ_=>z⟩
  .exact⟨d,e,λy=>y⟩
 refine⟨⟨E.len,λi x e=> ?_,by simp[E.jl],λk m b c1 c2 e1 e2 e3 e4 z1 z2=> ?_,λm d b e1 e2=> ?_,E.ext.trans X,λm d e=> ?_,E.l0,λb u e=> ?_,E.fresh,λb e=> ?_⟩,X⟩
 .obtain⟨v,e1,e2⟩:=E.slot i x e;exact⟨v,e1,e2.mono X⟩
 .obtain⟨d1,f1,g1⟩:=pP e3;obtain⟨d2,f2,g2⟩:=pP e4;exact E.inj k m b d1 d2 e1 e2 f1 f2 (g1 z1) (g2 z2)
 .rcases sat e1 with⟨rfl,rfl⟩|⟨q,e1⟩
  .rw[hj] at e2;cases e2;exact hc X
  .refine (E.cel m d b e1 e2).mono X λzd=>zB λr=> ?_;subst r;exact q (E.inj m n b d c e2 hj e1 hs zd z)
 .obtain⟨d',e1,e2,e3⟩:=E.old m d e;by_cases q:m=n
  .subst q;rw[hs] at e1;cases e1;refine⟨c',by rw[uZ,if_pos rfl,if_pos (u9.1 hs).1],λ_=>e2 z,λy=> ?_⟩;rw[e2 z] at y;cases y
  .exact⟨d',by rw[uZ,if_neg (λr=>q r.symm)];exact e1,e2,e3⟩
 .by_cases q:b=a
  .subst q;by_cases hn:n<F.j0.length
   .have rV:F.j0[n]? =f7 b:=by
     have e1:F.j0[n]? =f7 F.j0[n]:=u6 hn;have e2:=E.ext.pre n _ e1;rw[hj] at e2;cases e2;exact e1
    have fq:n<F.S0.length:=by rw[<-E.l0];exact hn
    obtain⟨d',f1,f2,_⟩:=E.old n _ (u6 fq);rw[hs] at f1;cases f1;exact .inr ⟨n,_,rV,u6 fq,f2 z⟩
   .rw[E.fresh n b ⋯ hj] at e;cases e
  .rcases E.keep b u e with h|h
   .exact .inl (by rw[zB q];exact h)
   .exact .inr h
 .by_cases q:b=a
  .subst q;rw[zJ] at e;cases e
  .rw[zB q] at e;exact E.dom b e
theorem En.write (E:En K F j H σ ρ S) (hs:S[n]? =f7 c) (z:c.fz=kb) (hj:j[n]? =f7 a) (_:c'.fz=kb) (hc:∀X:Ext j H j (upd H a o),zbI K j (upd H a o) a c'):En K F j (upd H a o) σ ρ (S.set n c')/\Ext j H j (upd H a o):=E.writeF hs z hj hc
theorem En.slots (E:En K F j H σ ρ S) (hl:σ'.length=ρ'.length) (h:∀(i:Nat) x,ρ'[i]? =f7 (f7 x)->∃v,σ'[i]? =f7 (f7 v)/\Xis K j H x v):En K F j H σ' ρ' S:=
 ⟨hl,h,E.jl,E.inj,E.cel,E.ext,E.old,E.l0,E.keep,E.fresh,E.dom⟩
theorem En.back (E:En K F j H σ ρ S) (X:En K F j' H' σ' ρ' S') (e:Ext j H j' H'):En K F j' H' σ ρ S':=X.slots E.len λi x h=>by
 obtain⟨v,e1,e2⟩:=E.slot i x h;exact⟨v,e1,e2.mono e⟩
theorem En.set (E:En K F j H σ ρ S) (h:Xis K j H x v):En K F j H (σ.set i (f7 v)) (ρ.set i (f7 x)) S:=E.slots (by simp[E.len]) λk y e=>by
 rw[uZ] at e ⊢;split at e
 .rename_i q;subst q;split at e
  .rename_i hl;cases e;rw[if_pos rfl,if_pos (by rw[E.len];exact hl)];exact⟨v,rfl,h⟩
  .cases e
 .rename_i q;rw[if_neg q];exact E.slot k y e
theorem En.enter (E:En K F j H σ ρ S) (hl:σ'.length=ρ'.length) (h:∀(i:Nat) x,ρ'[i]? =f7 (f7 x)->∃v,σ'[i]? =f7 (f7 v)/\Xis K j H x v):En K ⟨H,j,S⟩ j H σ' ρ' S:=
 ⟨hl,h,E.jl,E.inj,E.cel,Ext.refl,λn c e=>⟨c,e,λz=>z,λ_=>rfl⟩,E.jl,λb u e=> .inl e,λn a hn e=>by have:=(u9.1 e).1;dsimp only at hn;omega,λb e=>e⟩
theorem En.leave (E:En K F j H σ ρ S) (X:En K ⟨H,j,S⟩ j' H' σ' ρ' S'):En K F j' H' σ ρ S'/\Ext j H j' H':=by
 have e:Ext j H j' H':=X.ext;refine⟨⟨E.len,λi x h=> ?_,X.jl,X.inj,X.cel,E.ext.trans e,λn c h=> ?_,E.l0,λb u h=> ?_,λn a hn h=> ?_,λb h=>E.dom b (X.dom b h)⟩,e⟩
 .obtain⟨v,e1,e2⟩:=E.slot i x h;exact⟨v,e1,e2.mono e⟩
 .obtain⟨c1,e1,e2,e3⟩:=E.old n c h;obtain⟨c2,f1,f2,f3⟩:=X.old n c1 e1;refine⟨c2,f1,λz=>e2 (f2 z),λz=> ?_⟩;obtain rfl:=e3 z;exact f3 z
 .rcases E.keep b u h with h1|h1
  .rcases X.keep b u h1 with h2|⟨n,c,h2,h3,h4⟩
   .exact .inl h2
   .by_cases hn:n<F.j0.length
    .have e1:F.j0[n]? =f7 F.j0[n]:=u6 hn;have e2:=E.ext.pre n _ e1;have kz:j[n]? =f7 b:=h2;rw[kz] at e2;cases e2;have fq:n<F.S0.length:=by rw[<-E.l0];exact hn
     obtain⟨c1,f1,f2,_⟩:=E.old n _ (u6 fq);have ka:S[n]? =f7 c:=h3;rw[ka] at f1;cases f1;exact .inr ⟨n,_,e1,u6 fq,f2 h4⟩
    .have:=E.fresh n b ⋯ h2;rw[this] at h;cases h
  .exact .inr h1
 .by_cases hm:n<j.length
  .have e1:j[n]? =f7 j[n]:=u6 hm;have e2:=e.pre n _ e1;rw[h] at e2;cases e2;exact E.fresh n _ hn e1
  .exact E.dom a (X.fresh n a (by dsimp only;omega) h)
theorem En.grow {k:Nat} (E:En K F j H σ ρ S):En K F j H (σ++uJ k gC) (ρ++uJ k gC) S:=E.slots (by simp[E.len]) λi x e=>by
 by_cases hi:i<ρ.length
 .rw[uc hi] at e;rw[uc (by rw[E.len];exact hi)];exact E.slot i x e
 .rw[ur ⋯,AF] at e;split at e
  .cases e
  .cases e
end
inductive Rs (α:Type) where
 |ok (a:α) (S:Sto)
 |ex (c:Str) (S:Sto)
abbrev TwE:=Rho->Sto->Option (Rs Xv)
abbrev TwT:=Rho->Sto->Option (Rs Bool)
abbrev TwL:=Rho->Sto->Option (Rs (List Xv))
abbrev TwO:=Rho->Sto->Option (Rs (Option Int))
abbrev TwG:=Xv->Rho->Sto->Option (Rs Rho)
abbrev zq1:=List Xv->Rho->Sto->Option (Rs Rho)
abbrev TwI:=Rho->Sto->Option (Rs (Sto->Option (List Xv)))
inductive Fl where
 |nx (ρ:Rho) (S:Sto)
 |bk (ρ:Rho) (S:Sto)
 |ct (ρ:Rho) (S:Sto)
 |rt (x:Xv) (S:Sto)
 |ex (c:Str) (S:Sto)
abbrev TwS:=Rho->Sto->Option Fl
noncomputable def rb {α β:Type} (m:Option (Rs α)) (f:α->Sto->Option (Rs β)):Option (Rs β):=match m with
 |some (.ok a S)=>f a S
 |some (.ex c S)=>f7 (.ex c S)
 |none=>gC
noncomputable def sb {α:Type} (m:Option (Rs α)) (f:α->Sto->Option Fl):Option Fl:=match m with
 |some (.ok a S)=>f a S
 |some (.ex c S)=>f7 (.ex c S)
 |none=>gC
theorem zu {α β:Type} {m:Option (Rs α)} {f:α->Sto->Option (Rs β)} {r:Rs β} (h:rb m f=f7 r):(∃a S,m=f7 (.ok a S)/\f a S=f7 r)\/∃c S,m=f7 (.ex c S)/\r= .ex c S:=by
 unfold rb at h;split at h
 .exact .inl ⟨_,_,rfl,h⟩
 .cases h;exact .inr ⟨_,_,rfl,rfl⟩
 .cases h
theorem xo {α:Type} {m:Option (Rs α)} {f:α->Sto->Option Fl} {r:Fl} (h:sb m f=f7 r):(∃a S,m=f7 (.ok a S)/\f a S=f7 r)\/∃c S,m=f7 (.ex c S)/\r= .ex c S:=by
 unfold sb at h;split at h
 .exact .inl ⟨_,_,rfl,h⟩
 .cases h;exact .inr ⟨_,_,rfl,rfl⟩
 .cases h
def PX (K:u5) (F:Fm) (j:List Addr) (H:Hp) (E:XK) (c:Str) (S':Sto):Prop:=
 ∀j' H' σ' ρ' C,Ext j H j' H'->En K F j' H' σ' ρ' S'->um K mainGlobals c=f7 (f7 (.ref C))->E (.ref C) gC H'
theorem PX.mono {K:u5} {F:Fm} {j j1:List Addr} {H H1:Hp} {E:XK} {c:Str} {S':Sto} (h:PX K F j H E c S') (e:Ext j H j1 H1):PX K F j1 H1 E c S':=λj' H' σ' ρ' C x y z=>h j' H' σ' ρ' C (e.trans x) y z
def Po {α:Type} (K:u5) (F:Fm) (j:List Addr) (H:Hp) (σ:St) (ρ:Rho) (E:XK) (P:α->List Addr->Hp->Prop):Rs α->Prop
 | .ok a S'=>∀j' H',Ext j H j' H'->En K F j' H' σ ρ S'->P a j' H'
 | .ex c S'=>PX K F j H E c S'
theorem Po.step {α:Type} {K:u5} {F:Fm} {j j1:List Addr} {H H1:Hp} {σ:St} {ρ:Rho} {E:XK} {P:α->List Addr->Hp->Prop}:∀{r:Rs α},Po K F j H σ ρ E P r->Ext j H j1 H1->Po K F j1 H1 σ ρ E P r
 | .ok a S',h,e=>λj' H' x y=>h j' H' (e.trans x) y
 | .ex c S',h,e=>PX.mono h e
noncomputable abbrev PoV (K:u5) (Q:VK):Xv->List Addr->Hp->Prop:=λx j' H'=>∀v,Xis K j' H' x v->Q v H'
def RE (K:u5) (E:XK) (t:TE) (m:TwE):Prop:=∀{F:Fm} {j:List Addr} {σ:St} {H:Hp} {ρ:Rho} {S:Sto} {r:Rs Xv} {Q:VK},En K F j H σ ρ S->m ρ S=f7 r->Po K F j H σ ρ E (PoV K Q) r->t σ H Q
def RT (K:u5) (E:XK) (t:TT) (m:TwT):Prop:=∀{F:Fm} {j:List Addr} {σ:St} {H:Hp} {ρ:Rho} {S:Sto} {r:Rs Bool} {Q:Bool->Hp->Prop},En K F j H σ ρ S->m ρ S=f7 r->Po K F j H σ ρ E (λb _ H'=>Q b H') r->t σ H Q
def RL (K:u5) (E:XK) (t:TA) (m:TwL):Prop:=∀{F:Fm} {j:List Addr} {σ:St} {H:Hp} {ρ:Rho} {S:Sto} {r:Rs (List Xv)} {Q:List V->Hp->Prop},En K F j H σ ρ S->m ρ S=f7 r->Po K F j H σ ρ E (λxs j' H'=>∀vs,yc K j' H' xs vs->Q vs H') r->t σ H Q
def RO (K:u5) (E:XK) (t:TO) (m:TwO):Prop:=∀{F:Fm} {j:List Addr} {σ:St} {H:Hp} {ρ:Rho} {S:Sto} {r:Rs (Option Int)} {Q:Option Int->Hp->Prop},En K F j H σ ρ S->m ρ S=f7 r->Po K F j H σ ρ E (λo _ H'=>Q o H') r->t σ H Q
def PoG (K:u5) (F:Fm) (j:List Addr) (H:Hp) (E:XK) (R:St->Hp->Prop):Rs Rho->Prop
 | .ok ρ' S'=>∀σ' j' H',Ext j H j' H'->En K F j' H' σ' ρ' S'->R σ' H'
 | .ex c S'=>PX K F j H E c S'
def RG (K:u5) (E:XK) (t:TG) (g:TwG):Prop:=∀{F:Fm} {j:List Addr} {σ:St} {H:Hp} {ρ:Rho} {S:Sto} {r:Rs Rho} {x:Xv} {v:V} {R:St->Hp->Prop},En K F j H σ ρ S->Xis K j H x v->g x ρ S=f7 r->PoG K F j H E R r->t v σ H R
def zms (K:u5) (F:Fm) (j:List Addr) (H:Hp) (E:XK) (D':UJ):Fl->Prop
 | .nx ρ S=>∀σ j' H',Ext j H j' H'->En K F j' H' σ ρ S->D'.nx σ H'
 | .bk ρ S=>∀σ j' H',Ext j H j' H'->En K F j' H' σ ρ S->D'.bk σ H'
 | .ct ρ S=>∀σ j' H',Ext j H j' H'->En K F j' H' σ ρ S->D'.ct σ H'
 | .rt x S=>∀v σ ρ j' H',Ext j H j' H'->En K F j' H' σ ρ S->Xis K j' H' x v->D'.rt v H'
 | .ex c S=>PX K F j H E c S
theorem zms.step {K:u5} {F:Fm} {j j1:List Addr} {H H1:Hp} {E:XK} {D':UJ}:∀{fl:Fl},zms K F j H E D' fl->Ext j H j1 H1->zms K F j1 H1 E D' fl
 | .nx _ _,h,e=>λσ j' H' x y=>h σ j' H' (e.trans x) y
 | .bk _ _,h,e=>λσ j' H' x y=>h σ j' H' (e.trans x) y
 | .ct _ _,h,e=>λσ j' H' x y=>h σ j' H' (e.trans x) y
 | .rt _ _,h,e=>λv σ ρ j' H' x y z=>h v σ ρ j' H' (e.trans x) y z
 | .ex _ _,h,e=>PX.mono h e
def RS (K:u5) (E:XK) (t:TS) (m:TwS):Prop:=∀{F:Fm} {j:List Addr} {D':UJ} {σ:St} {H:Hp} {ρ:Rho} {S:Sto} {fl:Fl},En K F j H σ ρ S->m ρ S=f7 fl->zms K F j H E D' fl->t D' σ H
def To (K:u5) (j:List Addr) (H:Hp) (J:It) (get:Sto->Option (List Xv)):Prop:=∀{F:Fm} {j':List Addr} {H':Hp} {σ:St} {ρ:Rho} {S:Sto} {xs:List Xv} (i:Nat),Ext j H j' H'->En K F j' H' σ ρ S->get S=f7 xs->
 (∀x,xs[i]? =f7 x->J.go i H'/\∀v H'',J.yld i H' v H''->Xl H' H''/\Xis K j' H'' x v)/\(i=xs.length->J.stop i H')
def RI (K:u5) (E:XK) (t:TI) (m:TwI):Prop:=∀{F:Fm} {j:List Addr} {σ:St} {H:Hp} {ρ:Rho} {S:Sto} {r:Rs (Sto->Option (List Xv))} {R:It->Hp->Prop},En K F j H σ ρ S->m ρ S=f7 r->Po K F j H σ ρ E (λget j' H'=>∀J,To K j' H' J get->R J H') r->t σ H R
abbrev Op2:=Xv->Xv->Sto->Option (Xv×Sto)
abbrev Opn:=List Xv->Sto->Option (Xv×Sto)
def XS (K:u5) (r:R2) (f:Op2):Prop:=∀{F:Fm} {j:List Addr} {σ:St} {H:Hp} {ρ:Rho} {S S':Sto} {x y z:Xv} {u v:V} {Q:VK},En K F j H σ ρ S->Xis K j H x u->Xis K j H y v->f x y S=f7 (z,S')->(∀w j' H',Ext j H j' H'->En K F j' H' σ ρ S'->Xis K j' H' z w->Q w H')->r u v H Q
def zpX (K:u5) (r:V->Hp->VK->Prop) (f:Xv->Sto->Option (Xv×Sto)):Prop:=∀{F:Fm} {j:List Addr} {σ:St} {H:Hp} {ρ:Rho} {S S':Sto} {x z:Xv} {u:V} {Q:VK},En K F j H σ ρ S->Xis K j H x u->f x S=f7 (z,S')->(∀w j' H',Ext j H j' H'->En K F j' H' σ ρ S'->Xis K j' H' z w->Q w H')->r u H Q
def zaw (K:u5) (r:List V->Hp->VK->Prop) (f:Opn):Prop:=∀{F:Fm} {j:List Addr} {σ:St} {H:Hp} {ρ:Rho} {S S':Sto} {xs:List Xv} {z:Xv} {vs:List V} {Q:VK},En K F j H σ ρ S->yc K j H xs vs->f xs S=f7 (z,S')->(∀w j' H',Ext j H j' H'->En K F j' H' σ ρ S'->Xis K j' H' z w->Q w H')->r vs H Q
noncomputable def za (i:Nat):TwE:=λρ S=>match ρ[i]? with
 |some (f7 x)=>f7 (.ok x S)
 |_=>gC
noncomputable def eC (x:Xv):TwE:=λ_ S=>f7 (.ok x S)
noncomputable def okP (o:Option (Xv×Sto)):Option (Rs Xv):=o.map λp=> .ok p.1 p.2
theorem vA {o:Option (Xv×Sto)} {r:Rs Xv} (h:okP o=f7 r):∃z S,o=f7 (z,S)/\r= .ok z S:=by
 cases o with
 |none=>cases h
 |some p=>cases h;exact⟨_,_,rfl,rfl⟩
def eOp (f:Op2) (a b:TwE):TwE:=λρ S=>rb (a ρ S) λx S1=>rb (b ρ S1) λy S2=>okP (f x y S2)
def eUn (f:Xv->Sto->Option (Xv×Sto)) (a:TwE):TwE:=λρ S=>rb (a ρ S) λx S1=>okP (f x S1)
noncomputable def bE (m:TwE):TwT:=λρ S=>rb (m ρ S) λx S1=>match x with
 | .bl b=>f7 (.ok b S1)
 |_=>gC
noncomputable def eB (m:TwT):TwE:=λρ S=>rb (m ρ S) λb S1=>f7 (.ok (.bl b) S1)
noncomputable def ziW (a b:TwT):TwT:=λρ S=>rb (a ρ S) λx S1=>if x then b ρ S1 else f7 (.ok kb S1)
noncomputable def bOr (a b:TwT):TwT:=λρ S=>rb (a ρ S) λx S1=>if x then f7 (.ok ia S1) else b ρ S1
noncomputable def Tp (a:TwT):TwT:=λρ S=>rb (a ρ S) λx S1=>f7 (.ok (!x) S1)
def ziX (a b:TwE):TwE:=λρ S=>rb (bE a ρ S) λx S1=>if x then b ρ S1 else f7 (.ok (.bl kb) S1)
noncomputable def eIf (c:TwT) (a b:TwE):TwE:=λρ S=>rb (c ρ S) λx S1=>if x then a ρ S1 else b ρ S1
noncomputable def evL:List TwE->TwL
 |[]=>λ_ S=>f7 (.ok [] S)
 |m::r=>λρ S=>rb (m ρ S) λx S1=>rb (evL r ρ S1) λxs S2=>f7 (.ok (x::xs) S2)
noncomputable def yz (ms:List TwE):TwE:=λρ S=>rb (evL ms ρ S) λxs S1=>f7 (.ok (.tup xs) S1)
noncomputable def zbJ (ms:List TwE):TwE:=λρ S=>rb (evL ms ρ S) λxs S1=>f7 (.ok (.ref S1.length) (S1++[.lst xs]))
def eFn (f:Opn) (ms:List TwE):TwE:=λρ S=>rb (evL ms ρ S) λxs S1=>okP (f xs S1)
noncomputable def zpY (f:Xv->Xv->Option Xv):Op2:=λx y S=>(f x y).map λz=>(z,S)
noncomputable def zqP (f:Xv->Option Xv):Xv->Sto->Option (Xv×Sto):=λx S=>(f x).map λz=>(z,S)
theorem zkr {o:Option Xv} {S S':Sto} {z:Xv} (h:(o.map λz=>(z,S))=f7 (z,S')):o=f7 z/\S'=S:=by
 cases o with
 |none=>cases h
 |some p=>cases h;exact⟨rfl,rfl⟩
section
variable {K:u5} {E:XK} {F:Fm} {j:List Addr} {H:Hp} {σ:St} {ρ:Rho} {S:Sto}
theorem Po.val {Q:VK} {x:Xv} {v:V} (k:Po K F j H σ ρ E (PoV K Q) (.ok x S)) (En0:En K F j H σ ρ S) (h:Xis K j H x v):Q v H:=k j H Ext.refl En0 v h
theorem zk (i:Nat):RE K E (zlX i) (za i):=by
 intro F j σ H ρ S r Q En0 e k;unfold za at e;split at e
 .rename_i x ex;cases e;obtain⟨v,e1,e2⟩:=En0.slot i _ ex;exact⟨v,e1,k.val En0 e2⟩
 .cases e
theorem ziY {v:V} {x:Xv} (h:∀j H,Xis K j H x v):RE K E (tC v) (eC x):=λEn0 e k=>by
 cases e;exact k.val En0 (h _ _)
theorem vi (i:Int):RE K E (tC (.int i)) (eC (.int i)):=ziY λ_ _=> .int i
theorem zks (x:Str):RE K E (tC (.str x)) (eC (.str x)):=ziY λ_ _=> .str x
theorem zhV (b:Bool):RE K E (tC (.bl b)) (eC (.bl b)):=ziY λ_ _=> .bl b
theorem zkt:RE K E (tC .non) (eC .non):=ziY λ_ _=> .non
theorem wm {r:R2} {f:Op2} {ta tb:TE} {a b:TwE} (ho:XS K r f) (ha:RE K E ta a) (hb:RE K E tb b):RE K E (tOp r ta tb) (eOp f a b):=by
 intro F j σ H ρ S r Q En0 e k;rcases zu e with⟨x,S1,e1,e⟩|⟨c,S1,e1,rfl⟩
 .refine ha En0 e1 λj1 H1 X1 E1 u hu=> ?_;rcases zu e with⟨y,S2,e2,e⟩|⟨c,S2,e2,rfl⟩
  .obtain⟨z,S3,e3,rfl⟩:=vA e;exact hb E1 e2 λj2 H2 X2 E2 v hv=>ho E2 (hu.mono X2) hv e3 λw j3 H3 X3 E3 hw=>k _ _ (X1.trans (X2.trans X3)) E3 _ hw
  .exact hb E1 e2 (PX.mono k X1)
 .exact ha En0 e1 k
theorem zku {r:V->Hp->VK->Prop} {f:Xv->Sto->Option (Xv×Sto)} {ta:TE} {a:TwE} (ho:zpX K r f) (ha:RE K E ta a):RE K E (tUn r ta) (eUn f a):=by
 intro F j σ H ρ S r Q En0 e k;rcases zu e with⟨x,S1,e1,e⟩|⟨c,S1,e1,rfl⟩
 .obtain⟨z,S3,e3,rfl⟩:=vA e;exact ha En0 e1 λj1 H1 X1 E1 u hu=>ho E1 hu e3 λw j3 H3 X3 E3 hw=>k _ _ (X1.trans X3) E3 _ hw
 .exact ha En0 e1 k
theorem ziZ {t:TE} {m:TwE} (h:RE K E t m):RT K E (tB t) (bE m):=by
 intro F j σ H ρ S r Q En0 e k;rcases zu e with⟨x,S1,e1,e⟩|⟨c,S1,e1,rfl⟩
 .split at e
  .cases e;exact h En0 e1 λj1 H1 X1 E1 u hu=>⟨_,hu.bl_inv,k _ _ X1 E1⟩
  .cases e
 .exact h En0 e1 k
theorem zhW {t:TE} {m:TwE} (h:RE K E t m):RT K E (zny t) (bE m):=ziZ h
theorem zov {t u:TT} {a b:TwT} (ha:RT K E t a) (hb:RT K E u b):RT K E (zpB t u) (ziW a b):=by
 intro F j σ H ρ S r Q En0 e k;rcases zu e with⟨x,S1,e1,e⟩|⟨c,S1,e1,rfl⟩
 .refine ha En0 e1 λj1 H1 X1 E1=> ?_;cases x with
  |true=>exact hb E1 e (k.step X1)
  |false=>cases e;exact k _ _ X1 E1
 .exact ha En0 e1 k
theorem zpZ {t u:TT} {a b:TwT} (ha:RT K E t a) (hb:RT K E u b):RT K E (tOr t u) (bOr a b):=by
 intro F j σ H ρ S r Q En0 e k;rcases zu e with⟨x,S1,e1,e⟩|⟨c,S1,e1,rfl⟩
 .refine ha En0 e1 λj1 H1 X1 E1=> ?_;cases x with
  |true=>cases e;exact k _ _ X1 E1
  |false=>exact hb E1 e (k.step X1)
 .exact ha En0 e1 k
theorem zow {t:TT} {a:TwT} (ha:RT K E t a):RT K E (zpC t) (Tp a):=by
 intro F j σ H ρ S r Q En0 e k;rcases zu e with⟨x,S1,e1,e⟩|⟨c,S1,e1,rfl⟩
 .cases e;exact ha En0 e1 λj1 H1 X1 E1=>k _ _ X1 E1
 .exact ha En0 e1 k
theorem zox {ta tb:TE} {a b:TwE} (ha:RE K E ta a) (hb:RE K E tb b):RE K E (znt ta tb) (ziX a b):=by
 intro F j σ H ρ S r Q En0 e k;rcases zu e with⟨x,S1,e1,e⟩|⟨c,S1,e1,rfl⟩
 .rcases zu e1 with⟨y,S2,e2,e1⟩|⟨c,S2,e2,z⟩
  .split at e1
   .cases e1;refine ha En0 e2 λj1 H1 X1 E1 u hu=>⟨_,hu.bl_inv,?_⟩;cases x with
    |true=>exact hb E1 e (k.step X1)
    |false=>cases e;exact k _ _ X1 E1 _ (.bl kb)
   .cases e1
  .cases z
 .rcases zu e1 with⟨y,S2,e2,e1⟩|⟨c,S2,e2,z⟩
  .split at e1<;>cases e1
  .cases z;exact ha En0 e2 k
theorem zoy {ta:TE} {a:TwE} (ha:RE K E ta a):RE K E (znu ta) (eB (Tp (bE a))):=by
 intro F j σ H ρ S r Q En0 e k;rcases zu e with⟨x,S1,e1,e⟩|⟨c,S1,e1,rfl⟩
 .rcases zu e1 with⟨y,S2,e2,e1⟩|⟨c,S2,e2,z⟩
  .rcases zu e2 with⟨z,S3,e3,e2⟩|⟨c,S3,e3,z⟩
   .split at e2
    .cases e2;cases e1;cases e;exact ha En0 e3 λj1 H1 X1 E1 u hu=>⟨_,hu.bl_inv,k _ _ X1 E1 _ (.bl _)⟩
    .cases e2
   .cases z
  .cases z
 .rcases zu e1 with⟨y,S2,e2,e1⟩|⟨c,S2,e2,z⟩
  .cases e1
  .cases z;rcases zu e2 with⟨z,S3,e3,e2⟩|⟨c,S3,e3,z⟩
   .split at e2<;>cases e2
   .cases z;exact ha En0 e3 k
theorem znJ {t:TT} {c:TwT} {ta tb:TE} {a b:TwE} (hc:RT K E t c) (ha:RE K E ta a) (hb:RE K E tb b):RE K E (tIf t ta tb) (eIf c a b):=by
 intro F j σ H ρ S r Q En0 e k;rcases zu e with⟨x,S1,e1,e⟩|⟨c,S1,e1,rfl⟩
 .refine hc En0 e1 λj1 H1 X1 E1=> ?_;cases x with
  |true=>exact ha E1 e (k.step X1)
  |false=>exact hb E1 e (k.step X1)
 .exact hc En0 e1 k
noncomputable def Xv.isNon:Xv->Bool
 | .non=>ia
 |_=>kb
noncomputable def zgR:Xv->Sto->Option (Xv×Sto):=zqP λx=>f7 (.bl x.isNon)
theorem zmt {x:Xv} {v:V} (h:Xis K j H x v):decide (v= .non)=x.isNon:=by cases h<;>simp[Xv.isNon]
theorem zkv {ta:TE} {a:TwE} (ha:RE K E ta a):RE K E (zpA ta) (eUn zgR a):=by
 intro F j σ H ρ S r Q En0 e k;rcases zu e with⟨x,S1,e1,e⟩|⟨c,S1,e1,rfl⟩
 .cases e;exact ha En0 e1 λj1 H1 X1 E1 u hu=>k _ _ X1 E1 _ (by rw[zmt hu];exact .bl _)
 .exact ha En0 e1 k
theorem yg:RL K E zdP (evL []):=λEn0 e k=>by
 cases e;exact k _ _ Ext.refl En0 [] .nil
theorem zm {ta:TE} {tr:TA} {m:TwE} {ms:List TwE} (ha:RE K E ta m) (hr:RL K E tr (evL ms)):RL K E (YN ta tr) (evL (m::ms)):=by
 intro F j σ H ρ S r Q En0 e k;rcases zu e with⟨x,S1,e1,e⟩|⟨c,S1,e1,rfl⟩
 .refine ha En0 e1 λj1 H1 X1 E1 u hu=> ?_;rcases zu e with⟨xs,S2,e2,e⟩|⟨c,S2,e2,rfl⟩
  .cases e;exact hr E1 e2 λj2 H2 X2 E2 vs hv=>k _ _ (X1.trans X2) E2 (u::vs) (.cons (hu.mono X2) hv)
  .exact hr E1 e2 (PX.mono k X1)
 .exact ha En0 e1 k
theorem ZQ:∀{ms:List TwE} {ρ:Rho} {S S':Sto} {xs:List Xv},evL ms ρ S=f7 (.ok xs S')->xs.length=ms.length
 |[],_,_,_,_,h=>by cases h;rfl
 |m::ms,ρ,S,S',xs,h=>by
  rcases zu h with⟨x,S1,e1,h⟩|⟨c,S1,e1,z⟩
  .rcases zu h with⟨ys,S2,e2,h⟩|⟨c,S2,e2,z⟩
   .cases h;simp[ZQ e2]
   .cases z
  .cases z
theorem Yj {t:TA} {ms:List TwE} (h:RL K E t (evL ms)) (hl:ms.length<=1000:=by simp):RE K E (zoe t) (yz ms):=by
 intro F j σ H ρ S r Q En0 e k;rcases zu e with⟨xs,S1,e1,e⟩|⟨c,S1,e1,rfl⟩
 .cases e;refine h En0 e1 λj1 H1 X1 E1 vs hv=>⟨?_,λp hp=> ?_⟩
  .rw[hv.len,ZQ e1];exact uC hl ∅
  .obtain⟨E2,X2⟩:=E1.new (o:= .tup vs) hp;exact k _ _ (X1.trans X2) E2 _ (.tup zJ (hv.mono X2))
 .exact h En0 e1 k
theorem En.lst {xs:List Xv} {vs:List V} {p:Addr} (En0:En K F j H σ ρ S) (hv:yc K j H xs vs) (hp:H p=gC):En K F (j++[p]) (upd H p (.lst vs)) σ ρ (S++[.lst xs])/\Ext j H (j++[p]) (upd H p (.lst vs))/\Xis K (j++[p]) (upd H p (.lst vs)) (.ref S.length) (.ref p):=by
 have X:Ext j H (j++[p]) (upd H p (.lst vs)):=⟨λn a e=>by rw[uc (u9.1 e).1];exact e,wQ.same (vz hp)⟩;obtain⟨E1,_⟩:=En0.cell (o:= .lst vs) (c:= .lst xs) hp ⟨vs,zJ,hv.mono X⟩;exact⟨E1,X,.ref (by rw[<-En0.jl];simp)⟩
theorem zoz {t:TA} {ms:List TwE} (h:RL K E t (evL ms)) (hl:ms.length<=1000:=by simp):RE K E (zpL t) (zbJ ms):=by
 intro F j σ H ρ S r Q En0 e k;rcases zu e with⟨xs,S1,e1,e⟩|⟨c,S1,e1,rfl⟩
 .cases e;refine h En0 e1 λj1 H1 X1 E1 vs hv=>⟨?_,λp hp=> ?_⟩
  .rw[hv.len,ZQ e1];exact uC hl ∅
  .obtain⟨E2,X2,h2⟩:=E1.lst hv hp;exact k _ _ (X1.trans X2) E2 _ h2
 .exact h En0 e1 k
theorem zfl {t:TA} {ms:List TwE} {r:List V->Hp->VK->Prop} {f:Opn} (hr:zaw K r f) (h:RL K E t (evL ms)):RE K E (tCB r t) (eFn f ms):=by
 intro F j σ H ρ S r Q En0 e k;rcases zu e with⟨xs,S1,e1,e⟩|⟨c,S1,e1,rfl⟩
 .obtain⟨z,S3,e3,rfl⟩:=vA e;exact h En0 e1 λj1 H1 X1 E1 vs hv=>hr E1 hv e3 λw j3 H3 X3 E3 hw=>k _ _ (X1.trans X3) E3 _ hw
 .exact h En0 e1 k
end
noncomputable def yx (S:Sto):Xv->Option (List Xv)
 | .ref n=>match S[n]? with
  |some (.lst xs)=>f7 xs
  |some (.frz xs)=>f7 xs
  |_=>gC
 |_=>gC
noncomputable def ZK (S:Sto) (x:Xv):Option (List Xv):=match x.tupOf with
 |some xs=>f7 xs
 |none=>yx S x
noncomputable def UM (S:Sto):Xv->Option (Nat×List Xv)
 | .ref n=>match S[n]? with
  |some (.lst xs)=>f7 (n,xs)
  |_=>gC
 |_=>gC
section
variable {K:u5} {E:XK} {F:Fm} {j:List Addr} {H:Hp} {σ:St} {ρ:Rho} {S:Sto} {x:Xv} {v:V}
theorem En.lstAt {xs:List Xv} (E0:En K F j H σ ρ S) (hx:Xis K j H x v) (h:L2.yx S x=f7 xs):∃a vs,v= .ref a/\SqX K H a vs/\yc K j H xs vs:=by
 cases x<;>simp only[L2.yx,reduceCtorEq] at h
 obtain⟨a,rfl,hj⟩:=hx.ref_inv;split at h
 .cases h;obtain⟨vs,e1,e2⟩:=E0.cel _ _ _ (by assumption) hj;exact⟨a,vs,rfl,SqX.of e1,e2⟩
 .cases h;obtain⟨vs,e1,e2⟩:=E0.cel _ _ _ (by assumption) hj;refine⟨a,vs,rfl,?_,e2⟩;rcases e1 with⟨o,e1⟩|e1
  .exact .inl (.inr ⟨o,e1⟩)
  .exact e1 H
 .cases h
theorem En.seqAt {xs:List Xv} (E0:En K F j H σ ρ S) (hx:Xis K j H x v) (h:L2.ZK S x=f7 xs):∃a vs,v= .ref a/\(SqX K H a vs\/SqT K H a vs)/\yc K j H xs vs:=by
 unfold L2.ZK at h;split at h
 .cases h;obtain⟨a,vs,e1,e2,e3⟩:=hx.tupO (by assumption);exact⟨a,vs,e1,.inr e2,e3⟩
 .obtain⟨a,vs,e1,e2,e3⟩:=E0.lstAt hx h;exact⟨a,vs,e1,.inl e2,e3⟩
theorem zdd {n:Nat} {xs:List Xv} (h:UM S x=f7 (n,xs)):x= .ref n/\S[n]? =f7 (.lst xs):=by
 cases x<;>simp only[UM,reduceCtorEq] at h
 split at h
 .cases h;exact⟨rfl,by assumption⟩
 .cases h
theorem En.wl {n:Nat} {xs:List Xv} (E0:En K F j H σ ρ S) (hx:Xis K j H x v) (h:UM S x=f7 (n,xs)):∃a vs,v= .ref a/\j[n]? =f7 a/\H a=f7 (.lst vs)/\yc K j H xs vs:=by
 obtain⟨rfl,hs⟩:=zdd h;obtain⟨a,rfl,hj⟩:=hx.ref_inv;obtain⟨vs,e1,e2⟩:=E0.cel _ _ _ hs hj;exact⟨a,vs,rfl,hj,e1,e2⟩
theorem En.wr {n:Nat} {xs ys:List Xv} {ws:List V} {a:Addr} (E0:En K F j H σ ρ S) (h:UM S x=f7 (n,xs)) (hj:j[n]? =f7 a) (hw:yc K j H ys ws):En K F j (upd H a (.lst ws)) σ ρ (S.set n (.lst ys))/\Ext j H j (upd H a (.lst ws)):=
 E0.write (zdd h).2 rfl hj rfl λX=>⟨ws,zJ,hw.mono X⟩
theorem tyL {a:Addr} {vs:List V} (h:SqL K H a vs):tyV K "list" (.ref a) H:= .inl ⟨rfl,vs,h⟩
noncomputable def zM:Op2:=λx y S=>match x.tupOf,y with
 |some xs,.int i=>(atI xs i).map λz=>(z,S)
 |_,_=>gC
noncomputable def Yk:Op2:=λx y S=>match yx S x,y with
 |some xs,.int i=>(atI xs i).map λz=>(z,S)
 |_,_=>gC
def zfm:Op2:=zpY λx y=>match x,y with
 | .str z,.int i=>if z.length<=sizeLine then (atI z.cps.toList i).map λc=> .str ⟨#[c]⟩ else gC
 |_,_=>gC
theorem Za:XS K (zmc K) zM:=by
 intro F j σ H ρ S S' x y z u v Q E0 hx hy h k;unfold zM at h;split at h
 .rename_i xs i ex;cases e:atI xs i with
  |none=>rw[e] at h;cases h
  |some z'=>
   rw[e] at h;cases h;obtain⟨a,vs,rfl,h1,h2⟩:=hx.tupO ex;obtain⟨w,e1,e2⟩:=h2.at_ e;exact⟨a,vs,_,w,rfl,hy.int_inv,h1,e1,k _ _ _ Ext.refl E0 e2⟩
 .cases h
theorem zbK:XS K (zmb K) Yk:=by
 intro F j σ H ρ S S' x y z u v Q E0 hx hy h k;unfold Yk at h;split at h
 .rename_i xs i ex;cases e:atI xs i with
  |none=>rw[e] at h;cases h
  |some z'=>
   rw[e] at h;cases h;obtain⟨a,vs,rfl,h1,h2⟩:=E0.lstAt hx ex;obtain⟨w,e1,e2⟩:=h2.at_ e;exact⟨a,vs,_,w,rfl,hy.int_inv,h1.sql,e1,k _ _ _ Ext.refl E0 e2⟩
 .cases h
theorem zkw:XS K zoi zfm:=by
 intro F j σ H ρ S S' x y z u v Q E0 hx hy h k;obtain⟨h',rfl⟩:=zkr h;dsimp only at h';split at h'
 .split at h'
  .rename_i zz i hz;cases e:atI zz.cps.toList i with
   |none=>rw[e] at h';cases h'
   |some c=>
    rw[e] at h';cases h';exact⟨zz,i,c,hx.str_inv,hy.int_inv,hz,e,k _ _ _ Ext.refl E0 (.str _)⟩
  .cases h'
 .cases h'
noncomputable def zfn:Op2:=λx y S=>match ZK S x,y with
 |some xs,.int i=>(atI xs i).map λz=>(z,S)
 |_,_=>gC
theorem zkx:XS K (rIx K) zfn:=by
 intro F j σ H ρ S S' x y z u v Q E0 hx hy h k;unfold zfn at h;split at h
 .rename_i xs i ex;cases e:atI xs i with
  |none=>rw[e] at h;cases h
  |some z'=>
   rw[e] at h;cases h;obtain⟨a,vs,rfl,h1,h2⟩:=E0.seqAt hx ex;obtain⟨w,e1,e2⟩:=h2.at_ e;rcases h1 with h1|h1
   .exact .inl ⟨a,vs,_,w,rfl,hy.int_inv,h1.sql,e1,k _ _ _ Ext.refl E0 e2⟩
   .exact .inr (.inl ⟨a,vs,_,w,rfl,hy.int_inv,h1,e1,k _ _ _ Ext.refl E0 e2⟩)
 .cases h
noncomputable def oNo:TwO:=λ_ S=>f7 (.ok gC S)
noncomputable def WU (m:TwE):TwO:=λρ S=>rb (m ρ S) λx S1=>match x with
 | .int i=>f7 (.ok (f7 i) S1)
 |_=>gC
theorem zp0:RO K E zhI oNo:=λE0 e k=>by
 cases e;exact k _ _ Ext.refl E0
theorem zmu {t:TE} {m:TwE} (h:RE K E t m):RO K E (znA t) (WU m):=by
 intro F j σ H ρ S r Q En0 e k;rcases zu e with⟨x,S1,e1,e⟩|⟨c,S1,e1,rfl⟩
 .split at e
  .cases e;exact h En0 e1 λj1 H1 X1 E1 u hu=>⟨_,hu.int_inv,k _ _ X1 E1⟩
  .cases e
 .exact h En0 e1 k
noncomputable def Tq {α:Type} (xs:List α) (lo hi:Option Int):List α:=(xs.drop (HT.sIx xs.length 0 lo)).take (HT.sIx xs.length xs.length hi-HT.sIx xs.length 0 lo)
theorem yc.cut {xs:List Xv} {vs:List V} (h:yc K j H xs vs) (lo hi:Option Int):yc K j H (Tq xs lo hi) (zcz vs lo hi):=by
 unfold zcz Tq;rw[h.len];exact (h.drop _).take _
def eSl (f:Xv->Option Int->Option Int->Sto->Option (Xv×Sto)) (m:TwE) (lo hi:TwO):TwE:=λρ S=>rb (m ρ S) λx S1=>rb (lo ρ S1) λy S2=>rb (hi ρ S2) λz S3=>okP (f x y z S3)
def zhX (K:u5) (r:V->Option Int->Option Int->Hp->VK->Prop) (f:Xv->Option Int->Option Int->Sto->Option (Xv×Sto)):Prop:=∀{F:Fm} {j:List Addr} {σ:St} {H:Hp} {ρ:Rho} {S S':Sto} {x z:Xv} {lo hi:Option Int} {u:V} {Q:VK},En K F j H σ ρ S->Xis K j H x u->f x lo hi S=f7 (z,S')->(∀w j' H',Ext j H j' H'->En K F j' H' σ ρ S'->Xis K j' H' z w->Q w H')->r u lo hi H Q
theorem zky {r:V->Option Int->Option Int->Hp->VK->Prop} {f:Xv->Option Int->Option Int->Sto->Option (Xv×Sto)} {te:TE} {tl th:TO} {m:TwE} {lo hi:TwO} (ho:zhX K r f) (hm:RE K E te m) (hl:RO K E tl lo) (hh:RO K E th hi):RE K E (tSl r te tl th) (eSl f m lo hi):=by
 intro F j σ H ρ S r Q En0 e k;rcases zu e with⟨x,S1,e1,e⟩|⟨c,S1,e1,rfl⟩
 .refine hm En0 e1 λj1 H1 X1 E1 u hu=> ?_;rcases zu e with⟨y,S2,e2,e⟩|⟨c,S2,e2,rfl⟩
  .refine hl E1 e2 λj2 H2 X2 E2=> ?_;rcases zu e with⟨z,S3,e3,e⟩|⟨c,S3,e3,rfl⟩
   .obtain⟨w,S4,e4,rfl⟩:=vA e;exact hh E2 e3 λj3 H3 X3 E3=>ho E3 (hu.mono (X2.trans X3)) e4 λw j4 H4 X4 E4 hw=>k _ _ (X1.trans (X2.trans (X3.trans X4))) E4 _ hw
   .exact hh E2 e3 (PX.mono k (X1.trans X2))
  .exact hl E1 e2 (PX.mono k X1)
 .exact hm En0 e1 k
noncomputable def zgS:Xv->Option Int->Option Int->Sto->Option (Xv×Sto):=λx lo hi S=>(yx S x).map λxs=>(.ref S.length,S++[.lst (Tq xs lo hi)])
theorem zp1:zhX K (zjS K) zgS:=by
 intro F j σ H ρ S S' x z lo hi u Q E0 hx h k;unfold zgS at h;cases e:yx S x with
 |none=>rw[e] at h;cases h
 |some xs=>
  rw[e] at h;cases h;obtain⟨a,vs,rfl,h1,h2⟩:=E0.lstAt hx e;refine⟨a,vs,rfl,h1.sql,λp hp=> ?_⟩;obtain⟨E1,X1,h3⟩:=E0.lst (h2.cut lo hi) hp;exact k _ _ _ X1 E1 h3
noncomputable def zbL:Xv->Option Int->Option Int->Sto->Option (Xv×Sto):=λx lo hi S=>match x with
 | .str z=>if z.length<=sizeLine then f7 (.str (Txt.slice z lo hi),S) else gC
 |_=>gC
theorem zp2:zhX K zml zbL:=by
 intro F j σ H ρ S S' x z lo hi u Q E0 hx h k;unfold zbL at h;split at h
 .split at h
  .cases h;exact⟨_,hx.str_inv,by assumption,k _ _ _ Ext.refl E0 (.str _)⟩
  .cases h
 .cases h
noncomputable def zgT:Xv->Option Int->Option Int->Sto->Option (Xv×Sto):=λx lo hi S=>match x with
 | .tup xs=>f7 (.tup (Tq xs lo hi),S)
 |_=>gC
theorem zi0 {α:Type} {xs:List α} {lo hi:Option Int} (h:HT.sIx xs.length 0 lo=0/\HT.sIx xs.length xs.length hi=xs.length):Tq xs lo hi=xs:=by
 unfold Tq;rw[h.1,h.2];simp
theorem zp3:zhX K (zmp K) zgT:=by
 intro F j σ H ρ S S' x z lo hi u Q E0 hx h k;unfold zgT at h;split at h
 .rename_i xs;cases h;obtain⟨a,vs,rfl,h1,h2⟩:=hx.tup_inv;refine⟨a,vs,rfl,SqT.of h1,λhw=>k _ _ _ Ext.refl E0 ?_,λ_ p hp=> ?_⟩
  .rw[h2.len] at hw;rw[zi0 hw];exact hx
  .obtain⟨E1,X1⟩:=E0.new (o:= .tup (zcz vs lo hi)) hp;exact k _ _ _ X1 E1 (.tup zJ ((h2.cut lo hi).mono X1))
 .cases h
theorem zoA {te:TE} {tl th:TO} {m:TwE} {lo hi:TwO} (hm:RE K E te m) (hl:RO K E tl lo) (hh:RO K E th hi):RE K E (tSl (zjS K) te tl th) (eSl zgS m lo hi):= @zky K E (zjS K) zgS te tl th m lo hi (@zp1 K) hm hl hh
theorem zoB {te:TE} {tl th:TO} {m:TwE} {lo hi:TwO} (hm:RE K E te m) (hl:RO K E tl lo) (hh:RO K E th hi):RE K E (tSl zml te tl th) (eSl zbL m lo hi):= @zky K E zml zbL te tl th m lo hi (@zp2 K) hm hl hh
theorem zoC {te:TE} {tl th:TO} {m:TwE} {lo hi:TwO} (hm:RE K E te m) (hl:RO K E tl lo) (hh:RO K E th hi):RE K E (tSl (zmp K) te tl th) (eSl zgT m lo hi):= @zky K E (zmp K) zgT te tl th m lo hi (@zp3 K) hm hl hh
abbrev OpM:=Xv->List Xv->Sto->Option (Xv×Sto)
def zi1 (K:u5) (r:V->List V->Hp->VK->Prop) (f:OpM):Prop:=∀{F:Fm} {j:List Addr} {σ:St} {H:Hp} {ρ:Rho} {S S':Sto} {x z:Xv} {ys:List Xv} {u:V} {vs:List V} {Q:VK},En K F j H σ ρ S->Xis K j H x u->yc K j H ys vs->f x ys S=f7 (z,S')->(∀w j' H',Ext j H j' H'->En K F j' H' σ ρ S'->Xis K j' H' z w->Q w H')->r u vs H Q
def eMt (f:OpM) (o:TwE) (ms:List TwE):TwE:=λρ S=>rb (o ρ S) λx S1=>(yx S1 x).bind λ_=>rb (evL ms ρ S1) λys S2=>okP (f x ys S2)
theorem zkz {r:V->List V->Hp->VK->Prop} {f:OpM} {to:TE} {t:TA} {o:TwE} {ms:List TwE} (hr:zi1 K r f) (ho:RE K E to o) (ht:RL K E t (evL ms)):RE K E (tBM K "list" r to t) (eMt f o ms):=by
 intro F j σ H ρ S r Q En0 e k;rcases zu e with⟨x,S1,e1,e⟩|⟨c,S1,e1,rfl⟩
 .refine ho En0 e1 λj1 H1 X1 E1 u hu=> ?_;cases el:L2.yx S1 x with
  |none=>rw[el] at e;cases e
  |some l=>
   rw[el] at e;obtain⟨a,vs,rfl,h1,_⟩:=E1.lstAt hu el;refine⟨tyL h1.sql,?_⟩;rcases zu e with⟨ys,S2,e2,e⟩|⟨c,S2,e2,rfl⟩
   .obtain⟨z,S3,e3,rfl⟩:=vA e;exact ht E1 e2 λj2 H2 X2 E2 ws hw=>hr E2 (hu.mono X2) hw e3 λw j3 H3 X3 E3 hz=>k _ _ (X1.trans (X2.trans X3)) E3 _ hz
   .exact ht E1 e2 (PX.mono k X1)
 .exact ho En0 e1 k
theorem zkA {r:V->List V->Hp->VK->Prop} {f:OpM} {to:TE} {o:TwE} (hr:zi1 K r f) (ho:RE K E to o):RE K E (zpP K "list" r to) (eMt f o []):=by
 intro F j σ H ρ S r Q En0 e k;exact zkz hr ho yg En0 e k
noncomputable def Wr:OpM:=λx ys S=>match UM S x,ys with
 |some (n,xs),[y]=>if xs.length<sizeLine then f7 (.non,S.set n (.lst (xs++[y]))) else gC
 |_,_=>gC
theorem zde:zi1 K zhL Wr:=by
 intro F j σ H ρ S S' x z ys u vs Q E0 hx hy h k;unfold Wr at h;split at h
 .rename_i n xs y e;split at h
  .rename_i hl;cases h;obtain⟨a,ws,rfl,hj,h1,h2⟩:=E0.wl hx e;obtain⟨w,rfl,hw⟩:=hy.d1;obtain⟨E1,X1⟩:=E0.wr e hj (h2.append (.one hw));exact⟨a,ws,w,rfl,rfl,h1,by rw[h2.len];exact hl,k _ _ _ X1 E1 .non⟩
  .cases h
 .cases h
noncomputable def zkB:OpM:=λx ys S=>match UM S x,ys with
 |some (n,xs),[]=>(xs[xs.length-1]?).map λy=>(y,S.set n (.lst xs.dropLast))
 |_,_=>gC
theorem zkC:zi1 K zpQ zkB:=by
 intro F j σ H ρ S S' x z ys u vs Q E0 hx hy h k;unfold zkB at h;split at h
 .rename_i n xs e;cases e1:xs[xs.length-1]? with
  |none=>rw[e1] at h;cases h
  |some y=>
   rw[e1] at h;cases h;obtain⟨a,ws,rfl,hj,h1,h2⟩:=E0.wl hx e;obtain rfl:=hy.nil_inv;obtain⟨w,f1,f2⟩:=h2.get e1;obtain⟨E1,X1⟩:=E0.wr e hj h2.dropLast;exact⟨a,ws,w,rfl,rfl,h1,by rw[h2.len];exact f1,k _ _ _ X1 E1 (f2.mono X1)⟩
 .cases h
noncomputable def YT:OpM:=λx ys S=>match UM S x,ys with
 |some (n,xs),[y]=>(ZK S y).bind λzs=>if xs.length+zs.length<=sizeLine then f7 (.non,S.set n (.lst (xs++zs))) else gC
 |_,_=>gC
theorem zdf:zi1 K (zfi K) YT:=by
 intro F j σ H ρ S S' x z ys u vs Q E0 hx hy h k;unfold YT at h;split at h
 .rename_i n xs y e;cases e1:ZK S y with
  |none=>rw[e1] at h;cases h
  |some zs=>
   rw[e1] at h;dsimp only[B8] at h;split at h
   .rename_i hl;cases h;obtain⟨a,ws,rfl,hj,h1,h2⟩:=E0.wl hx e;obtain⟨w,rfl,hw⟩:=hy.d1;obtain⟨b,ts,rfl,g1,g2⟩:=E0.seqAt hw e1;obtain⟨E1,X1⟩:=E0.wr e hj (h2.append g2);exact⟨a,b,ws,ts,rfl,rfl,h1,g1,by rw[h2.len,g2.len];exact hl,k _ _ _ X1 E1 .non⟩
   .cases h
 .cases h
noncomputable def zq (a b:TwS):TwS:=λρ S=>match a ρ S with
 |some (.nx ρ1 S1)=>b ρ1 S1
 |r=>r
noncomputable def zN:TwS:=λρ S=>f7 (.nx ρ S)
noncomputable def zbM:TwS:=λ_ _=>gC
def zH (m:TwE) (g:TwG):TwS:=λρ S=>sb (m ρ S) λx S1=>sb (g x ρ S1) λρ1 S2=>f7 (.nx ρ1 S2)
def zbN (m:TwE):TwS:=λρ S=>sb (m ρ S) λ_ S1=>f7 (.nx ρ S1)
def zO (m:TwE):TwS:=λρ S=>sb (m ρ S) λx S1=>f7 (.rt x S1)
def sIf (c:TwT) (a b:TwS):TwS:=λρ S=>sb (c ρ S) λx S1=>if x then a ρ S1 else b ρ S1
noncomputable def za2 (r:Option Fl) (go:Rho->Sto->Option Fl):Option Fl:=match r with
 |some (.nx ρ S)=>go ρ S
 |some (.ct ρ S)=>go ρ S
 |some (.bk ρ S)=>f7 (.nx ρ S)
 |r=>r
noncomputable def Uz (get:Sto->Option (List Xv)) (g:TwG) (b:TwS):Nat->Nat->Rho->Sto->Option Fl
 |0,_,_,_=>gC
 |f+1,i,ρ,S=>(get S).bind λxs=>match xs[i]? with
  |none=>if i=xs.length then f7 (.nx ρ S) else gC
  |some x=>sb (g x ρ S) λρ1 S1=>za2 (b ρ1 S1) λρ2 S2=>Uz get g b f (i+1) ρ2 S2
def Ws (m:TwI) (g:TwG) (b:TwS):TwS:=λρ S=>sb (m ρ S) λget S1=>(get S1).bind λxs=>Uz get g b (xs.length+1) 0 ρ S1
noncomputable def zbO (c:TwT) (b:TwS):Nat->Rho->Sto->Option Fl
 |0,_,_=>gC
 |n+1,ρ,S=>sb (c ρ S) λx S1=>if x then za2 (b ρ S1) λρ2 S2=>zbO c b n ρ2 S2 else f7 (.nx ρ S1)
noncomputable def sWh (n:Nat) (c:TwT) (b:TwS):TwS:=λρ S=>zbO c b n ρ S
noncomputable def gN (i:Nat):TwG:=λx ρ S=>f7 (.ok (ρ.set i (f7 x)) S)
noncomputable def zbP (o mi:TwE):TwG:=λd ρ S=>rb (o ρ S) λx S1=>rb (mi ρ S1) λy S2=>match UM S2 x,y with
 |some (n,xs),.int i=>(ixN xs.length i).map λk=> .ok ρ (S2.set n (.lst (xs.set k d)))
 |_,_=>gC
theorem xc {i:Nat}:RG K E (zhE i) (gN i):=λE0 hx e k=>by
 cases e;exact k _ _ _ Ext.refl (E0.set hx)
theorem zfo {to ti:TE} {o mi:TwE} (ho:RE K E to o) (hi:RE K E ti mi):RG K E (zpG to ti znB) (zbP o mi):=by
 intro F j σ H ρ S r d vd R E0 hd e k;rcases zu e with⟨x,S1,e1,e⟩|⟨c,S1,e1,rfl⟩
 .refine ho E0 e1 λj1 H1 X1 E1 u hu=> ?_;rcases zu e with⟨y,S2,e2,e⟩|⟨c,S2,e2,rfl⟩
  .refine hi E1 e2 λj2 H2 X2 E2 w hw=> ?_;split at e
   .rename_i n xs i ex;cases e3:ixN xs.length i with
    |none=>rw[e3] at e;cases e
    |some m=>
     rw[e3] at e;cases e;obtain⟨a,vs,rfl,hj,h1,h2⟩:=E2.wl (hu.mono X2) ex;obtain⟨E3,X3⟩:=E2.wr ex hj (h2.set (hd.mono (X1.trans X2)) m);exact⟨a,vs,i,m,rfl,hw.int_inv,h1,by rw[h2.len];exact e3,k _ _ _ (X1.trans (X2.trans X3)) E3⟩
   .cases e
  .exact hi E1 e2 (PX.mono k X1)
 .exact ho E0 e1 k
theorem Tr:RS K E znv zN:=λE0 e k=>by
 cases e;exact k _ _ _ Ext.refl E0
theorem zkD {t:TS}:RS K E t zbM:=λ_ e _=>by cases e
theorem xK {t u:TS} {a b:TwS} (ha:RS K E t a) (hb:RS K E u b):RS K E (zn1 t u) (zq a b):=by
 intro F j D' σ H ρ S fl E0 e k;unfold zq at e;split at e
 .rename_i ρ1 S1 e1;exact ha (D':={D' with nx:=u D'}) E0 e1 λσ1 j1 H1 X1 E1=>hb E1 e (k.step X1)
 .rename_i hn;refine ha (D':={D' with nx:=u D'}) E0 e ?_;cases fl with
  |nx ρ1 S1=>exact absurd e (hn ρ1 S1)
  |bk ρ1 S1=>exact k
  |ct ρ1 S1=>exact k
  |rt x S1=>exact k
  |ex c S1=>exact k
theorem vB {te:TE} {g:TG} {m:TwE} {g':TwG} (h:RE K E te m) (hg:RG K E g g'):RS K E (zn4 te g) (zH m g'):=by
 intro F j D' σ H ρ S fl E0 e k;rcases xo e with⟨x,S1,e1,e⟩|⟨c,S1,e1,rfl⟩
 .refine h E0 e1 λj1 H1 X1 E1 u hu=> ?_;rcases xo e with⟨ρ1,S2,e2,e⟩|⟨c,S2,e2,rfl⟩
  .cases e;exact hg E1 hu e2 λσ2 j2 H2 X2 E2=>k _ _ _ (X1.trans X2) E2
  .exact hg E1 hu e2 (PX.mono k X1)
 .exact h E0 e1 k
theorem zmv {te:TE} {m:TwE} (h:RE K E te m):RS K E (znw te) (zbN m):=by
 intro F j D' σ H ρ S fl E0 e k;rcases xo e with⟨x,S1,e1,e⟩|⟨c,S1,e1,rfl⟩
 .cases e;exact h E0 e1 λj1 H1 X1 E1 u hu=>k _ _ _ X1 E1
 .exact h E0 e1 k
theorem vC {te:TE} {m:TwE} (h:RE K E te m):RS K E (zpD te) (zO m):=by
 intro F j D' σ H ρ S fl E0 e k;rcases xo e with⟨x,S1,e1,e⟩|⟨c,S1,e1,rfl⟩
 .cases e;exact h E0 e1 λj1 H1 X1 E1 u hu=>k _ _ _ _ _ X1 E1 hu
 .exact h E0 e1 k
theorem zfp {c:TT} {t u:TS} {m:TwT} {a b:TwS} (hc:RT K E c m) (ha:RS K E t a) (hb:RS K E u b):RS K E (zpE c t u) (sIf m a b):=by
 intro F j D' σ H ρ S fl E0 e k;rcases xo e with⟨x,S1,e1,e⟩|⟨c,S1,e1,rfl⟩
 .refine hc E0 e1 λj1 H1 X1 E1=> ?_;cases x with
  |true=>exact ha E1 e (k.step X1)
  |false=>exact hb E1 e (k.step X1)
 .exact hc E0 e1 k
theorem zdg {r:Option Fl} {go:Rho->Sto->Option Fl} {fl:Fl} (h:za2 r go=f7 fl):∃f,r=f7 f/\((∃ρ S,(f= .nx ρ S\/f= .ct ρ S)/\go ρ S=f7 fl)\/(∃ρ S,f= .bk ρ S/\fl= .nx ρ S)\/(f=fl/\((∃x S,fl= .rt x S)\/∃c S,fl= .ex c S))):=by
 unfold za2 at h;split at h
 .exact⟨_,rfl,.inl ⟨_,_,.inl rfl,h⟩⟩
 .exact⟨_,rfl,.inl ⟨_,_,.inr rfl,h⟩⟩
 .cases h;exact⟨_,rfl,.inr (.inl ⟨_,_,rfl,rfl⟩)⟩
 .rename_i n1 n2 n3;refine⟨fl,h,.inr (.inr ⟨rfl,?_⟩)⟩;cases fl with
  |nx ρ S=>exact absurd h (n1 ρ S)
  |ct ρ S=>exact absurd h (n2 ρ S)
  |bk ρ S=>exact absurd h (n3 ρ S)
  |rt x S=>exact .inl ⟨x,S,rfl⟩
  |ex c S=>exact .inr ⟨c,S,rfl⟩
theorem zkE {wi:TI} {g:TG} {tb:TS} {m:TwI} {g':TwG} {b:TwS} (hi:RI K E wi m) (hg:RG K E g g') (hb:RS K E tb b):RS K E (zpH wi g tb) (Ws m g' b):=by
 intro F j D' σ H ρ S fl E0 e k;rcases xo e with⟨get,S1,e1,e⟩|⟨c,S1,e1,rfl⟩
 .refine hi E0 e1 λj1 H1 X1 E1 J ok=> ?_;cases eg:get S1 with
  |none=>rw[eg] at e;cases e
  |some xs=>
   rw[eg] at e;refine⟨λi n σ H=>∃j2 ρ2 S2,Ext j1 H1 j2 H/\En K F j2 H σ ρ2 S2/\Uz get g' b n i ρ2 S2=f7 fl,⟨xs.length+1,j1,ρ,S1,Ext.refl,E1,e⟩,?_⟩;rintro i n σ2 H2 ⟨j2,ρ2,S2,X2,E2,e2⟩;cases n with
   |zero=>cases e2
   |succ n=>
    unfold Uz at e2;cases ke:get S2 with
    |none=>rw[ke] at e2;cases e2
    |some ys=>
     rw[ke] at e2;dsimp only[B8] at e2;obtain⟨go,stop⟩:=ok i X2 E2 ke;split at e2
     .split at e2
      .rename_i hl;cases e2;exact .inl ⟨stop hl,k _ _ _ (X1.trans X2) E2⟩
      .cases e2
     .rename_i x ex;obtain⟨g1,g2⟩:=go x ex;refine .inr ⟨g1,λσ' H'=>∃j3 ρ3 S3,Ext j1 H1 j3 H'/\En K F j3 H' σ' ρ3 S3/\Uz get g' b n (i+1) ρ3 S3=f7 fl,λ_ _ z=>⟨n,Aq _,z⟩,λv H3 hy=> ?_⟩;obtain⟨Sm,hv⟩:=g2 v H3 hy;have E3:=E2.heap Sm;have X3:Ext j2 H2 j2 H3:=Ext.same Sm;rcases xo e2 with⟨ρ4,S4,e4,e2⟩|⟨c,S4,e4,rfl⟩
      .refine hg E3 hv e4 λσ4 j4 H4 X4 E4=> ?_;obtain⟨f5,e5,h5⟩:=zdg e2;refine hb E4 e5 ?_;have X14:=X2.trans (X3.trans X4);rcases h5 with⟨ρ6,S6,h6,e6⟩|⟨ρ6,S6,rfl,rfl⟩|⟨rfl,h6⟩
       .rcases h6 with rfl|rfl
        .exact λσ5 j5 H5 X5 E5=>⟨j5,ρ6,S6,X14.trans X5,E5,e6⟩
        .exact λσ5 j5 H5 X5 E5=>⟨j5,ρ6,S6,X14.trans X5,E5,e6⟩
       .exact λσ5 j5 H5 X5 E5=>k _ _ _ (X1.trans (X14.trans X5)) E5
       .rcases h6 with⟨x6,S6,rfl⟩|⟨c6,S6,rfl⟩
        .exact λv σ5 ρ5 j5 H5 X5 E5 hv=>k v σ5 ρ5 _ _ (X1.trans (X14.trans X5)) E5 hv
        .exact PX.mono k (X1.trans X14)
      .exact hg E3 hv e4 (PX.mono k (X1.trans (X2.trans X3)))
 .exact hi E0 e1 k
theorem zkF {c:TT} {tb:TS} {m:TwT} {b:TwS} {n:Nat} (hc:RT K E c m) (hb:RS K E tb b):RS K E (zjF c tb) (sWh n m b):=by
 intro F j D' σ H ρ S fl E0 e k;refine⟨λn σ2 H2=>∃j2 ρ2 S2,Ext j H j2 H2/\En K F j2 H2 σ2 ρ2 S2/\zbO m b n ρ2 S2=f7 fl,⟨n,j,ρ,S,Ext.refl,E0,e⟩,?_⟩;rintro n σ2 H2 ⟨j2,ρ2,S2,X2,E2,e2⟩;cases n with
 |zero=>cases e2
 |succ n=>
  unfold zbO at e2;rcases xo e2 with⟨x,S3,e3,e2⟩|⟨c,S3,e3,rfl⟩
  .refine hc E2 e3 λj3 H3 X3 E3=> ?_;have X13:=X2.trans X3;cases x with
   |false=>cases e2;exact k _ _ _ X13 E3
   |true=>
    obtain⟨f5,e5,h5⟩:=zdg e2;refine⟨λσ' H'=>∃j3 ρ3 S3,Ext j H j3 H'/\En K F j3 H' σ' ρ3 S3/\zbO m b n ρ3 S3=f7 fl,λσ' H' z=>⟨n,Aq _,z⟩,hb E3 e5 ?_⟩;rcases h5 with⟨ρ6,S6,h6,e6⟩|⟨ρ6,S6,rfl,rfl⟩|⟨rfl,h6⟩
    .rcases h6 with rfl|rfl
     .exact λσ5 j5 H5 X5 E5=>⟨j5,ρ6,S6,X13.trans X5,E5,e6⟩
     .exact λσ5 j5 H5 X5 E5=>⟨j5,ρ6,S6,X13.trans X5,E5,e6⟩
    .exact λσ5 j5 H5 X5 E5=>k _ _ _ (X13.trans X5) E5
    .rcases h6 with⟨x6,S6,rfl⟩|⟨c6,S6,rfl⟩
     .exact λv σ5 ρ5 j5 H5 X5 E5 hv=>k v σ5 ρ5 _ _ (X13.trans X5) E5 hv
     .exact PX.mono k X13
  .exact hc E2 e3 (PX.mono k X2)
noncomputable def iL (m:TwE):TwI:=λρ S=>rb (m ρ S) λx S1=>(yx S1 x).map λ_=> .ok (λS=>yx S x) S1
noncomputable def iT (m:TwE):TwI:=λρ S=>rb (m ρ S) λx S1=>x.tupOf.map λl=> .ok (λ_=>f7 l) S1
theorem zd7 {t:TE} {m:TwE} (h:RE K E t m):RI K E (zjG K t) (iL m):=by
 intro F j σ H ρ S r R En0 e k;rcases zu e with⟨x,S1,e1,e⟩|⟨c,S1,e1,rfl⟩
 .cases el:yx S1 x with
  |none=>rw[el] at e;cases e
  |some l=>
   rw[el] at e;cases e;refine h En0 e1 λj1 H1 X1 E1 u hu=> ?_;obtain⟨a,vs,rfl,h1,_⟩:=E1.lstAt hu el;refine⟨a,rfl,⟨vs,h1.sql⟩,k _ _ X1 E1 _ ?_⟩;intro F2 j2 H2 σ2 ρ2 S2 xs i X2 E2 e2;obtain⟨a',ws,ea,g1,g2⟩:=E2.lstAt (hu.mono X2) e2;cases ea;refine⟨λy ey=> ?_,λhle=>⟨ws,g1.sql,by rw[g2.len];omega⟩⟩;obtain⟨w,f1,f2⟩:=g2.get ey;refine⟨⟨ws,w,g1.sql,f1⟩,?_⟩;rintro v' H' ⟨rfl,hx⟩;have:=hx ws g1.sql;rw[f1] at this;cases this;exact⟨Xl.refl _,f2⟩
 .exact h En0 e1 k
theorem zkG {t:TE} {m:TwE} (h:RE K E t m):RI K E (zn6 K t) (iT m):=by
 intro F j σ H ρ S r R En0 e k;rcases zu e with⟨x,S1,e1,e⟩|⟨c,S1,e1,rfl⟩
 .cases el:x.tupOf with
  |none=>rw[el] at e;cases e
  |some l=>
   rw[el] at e;cases e;refine h En0 e1 λj1 H1 X1 E1 u hu=> ?_;obtain⟨a,vs,rfl,h1,_⟩:=hu.tupO el;refine⟨a,rfl,⟨vs,h1⟩,k _ _ X1 E1 _ ?_⟩;intro F2 j2 H2 σ2 ρ2 S2 xs i X2 E2 e2;cases e2;obtain⟨a',ws,ea,g1,g2⟩:=(hu.mono X2).tupO el;cases ea;refine⟨λy ey=> ?_,λhle=>⟨ws,g1,by rw[g2.len];omega⟩⟩;obtain⟨w,f1,f2⟩:=g2.get ey;refine⟨⟨ws,w,g1,f1⟩,?_⟩;rintro v' H' ⟨rfl,hx⟩;have:=hx ws g1;rw[f1] at this;cases this;exact⟨Xl.refl _,f2⟩
 .exact h En0 e1 k
noncomputable def xL (lo:Int) (n:Nat):List Xv:=(v7 n).map λ(k:Nat)=>Xv.int (lo+(k:Int))
def iR1 (m:TwE):TwI:=λρ S=>rb (m ρ S) λx S1=>match x with
 | .int j=>if -(2^62)<=j/\j<2^62 then f7 (.ok (λ_=>f7 (xL 0 j.toNat)) S1) else gC
 |_=>gC
theorem zkH {lo:Int} {n:Nat}:To K j H (Itr lo n) (λ_=>f7 (xL lo n)):=by
 intro F2 j2 H2 σ2 ρ2 S2 xs i X2 E2 e2;cases e2;refine⟨λd hd=> ?_,λhle=> ?_⟩
 .unfold xL at hd;rw[uf] at hd;have hi:i<n:=by
   apply Ai;intro hn;rw[uA (by simp;omega)] at hd;cases hd
  rw[Ba hi] at hd;cases hd;refine⟨hi,?_⟩;rintro x H' ⟨rfl,rfl⟩;exact⟨Xl.refl _,.int _⟩
 .unfold xL at hle;simp at hle;show n<=i;omega
theorem zax {t:TE} {m:TwE} (h:RE K E t m):RI K E (znx (YN t zdP)) (iR1 m):=by
 intro F j σ H ρ S r R En0 e k;rcases zu e with⟨x,S1,e1,e⟩|⟨c,S1,e1,rfl⟩
 .split at e
  .split at e
   .rename_i hb;cases e;exact h En0 e1 λj1 H1 X1 E1 u hu=>⟨_,by rw[hu.int_inv],hb.1,hb.2,k _ _ X1 E1 _ zkH⟩
   .cases e
  .cases e
 .exact h En0 e1 k
end
noncomputable def rn {α β:Type} (m:Option (Rs α)) (f:α->Sto->Option β):Option β:=match m with
 |some (.ok a S)=>f a S
 |_=>gC
theorem zd8 {α β:Type} {m:Option (Rs α)} {f:α->Sto->Option β} {r:β} (h:rn m f=f7 r):∃a S,m=f7 (.ok a S)/\f a S=f7 r:=by
 unfold rn at h;split at h
 .exact⟨_,_,rfl,h⟩
 .cases h
noncomputable def xM (cap:List (Option Nat)) (ρ:Rho):Rho:=cap.map λo=>o.bind λi=>(ρ[i]?).join
noncomputable def Yl (get:Sto->Option (List Xv)) (g:TwG) (c:TwT) (e:TwE) (ρc:Rho):Nat->Nat->List Xv->Sto->Option (Rs Xv)
 |0,_,_,_=>gC
 |f+1,i,es,S=>(get S).bind λxs=>match xs[i]? with
  |none=>if i=xs.length then f7 (.ok (.ref S.length) (S++[.lst es])) else gC
  |some x=>rn (g x ρc S) λρ1 S1=>rn (c ρ1 S1) λb S2=>if b then rn (e ρ1 S2) λy S3=>if es.length<sizeLine then Yl get g c e ρc f (i+1) (es++[y]) S3 else gC
    else Yl get g c e ρc f (i+1) es S2
noncomputable def xh (cap:List (Option Nat)) (m:TwI) (g:TwG) (c:TwT) (e:TwE):TwE:=λρ S=>rb (m ρ S) λget S1=>(get S1).bind λxs=>Yl get g c e (xM cap ρ) (xs.length+1) 0 [] S1
noncomputable def yY:TwT:=λ_ S=>f7 (.ok ia S)
section
variable {K:u5} {E:XK} {F:Fm} {j j':List Addr} {H H':Hp} {σ σ':St} {ρ ρ':Rho} {S S':Sto} {x:Xv} {v:V} {a:Addr} {o:HO}
theorem Um:RT K E (λ_ H Q=>Q ia H) yY:=λE1 e k=>by
 cases e;exact k _ _ Ext.refl E1
def WV (j:List Addr) (S:Sto) (a:Addr):Prop:=∀(n:Nat) c,j[n]? =f7 a->S[n]? =f7 c->c.fz=ia
theorem En.notIn (E1:En K F j H σ ρ S) (h:H a=gC):WV j S a:=λn c e1 e2=>by
 cases z:c.fz with
 |true=>rfl
 |false=>
  obtain⟨o,e,_⟩:=(E1.cel n c a e2 e1).mu z;rw[h] at e;cases e
theorem En.outside (E1:En K F j H σ ρ S) (h:WV j S a) {o0:HO} (h0:H a=f7 o0) (m0:o0.mu=ia) (hf:F.H0 a=gC):En K F j (upd H a o) σ ρ S/\Ext j H j (upd H a o):=by
 have X:Ext j H j (upd H a o):=⟨λ_ _ e=>e,λb u e m=>by
  have:b≠a:=λq=>by subst q;rw[h0] at e;cases e;rw[m] at m0;cases m0
  rw[zB this];exact e⟩
 refine⟨⟨E1.len,λi x e=> ?_,E1.jl,E1.inj,λn c b e1 e2=> ?_,E1.ext.trans X,E1.old,E1.l0,λb u e=> ?_,E1.fresh,λb e=> ?_⟩,X⟩
 .obtain⟨v,e1,e2⟩:=E1.slot i x e;exact⟨v,e1,e2.mono X⟩
 .refine (E1.cel n c b e1 e2).mono X λz=>zB λq=> ?_;subst q;rw[h n c e2 e1] at z;cases z
 .have hb:b≠a:=λq=>by subst q;rw[hf] at e;cases e
  rcases E1.keep b u e with h|h
  .exact .inl (by rw[zB hb];exact h)
  .exact .inr h
 .have hb:b≠a:=λq=>by subst q;rw[zJ] at e;cases e
  rw[zB hb] at e;exact E1.dom b e
theorem En.adopt {c:Ce} (E1:En K F j H σ ρ S) (h:WV j S a) (hf:F.H0 a=gC) (hc:zbI K (j++[a]) H a c):En K F (j++[a]) H σ ρ (S++[c])/\Ext j H (j++[a]) H:=by
 have X:Ext j H (j++[a]) H:=⟨λn b e=>by rw[uc (u9.1 e).1];exact e,wQ.refl _⟩;have lt:∀{n:Nat} {d:Ce},S[n]? =f7 d->n<S.length:=λe=>(u9.1 e).1;have at_:∀{n:Nat} {b:Addr} {d:Ce},(j++[a])[n]? =f7 b->(S++[c])[n]? =f7 d->(j[n]? =f7 b/\S[n]? =f7 d)\/(n=S.length/\b=a/\d=c):=λ{n b d} e1 e2=>by
  by_cases hn:n<S.length
  .rw[uc hn] at e2;rw[uc (by rw[E1.jl];exact hn)] at e1;exact .inl ⟨e1,e2⟩
  .rw[ur ⋯] at e2;rw[ur (by rw[E1.jl];omega),E1.jl] at e1;cases hm:n-S.length with
   |zero=>rw[hm] at e1 e2;simp at e1 e2;exact .inr ⟨⋯,e1.symm,e2.symm⟩
   |succ m=>rw[hm] at e1;simp at e1
 refine⟨⟨E1.len,λi x e=> ?_,by simp[E1.jl],λn m b c1 c2 e1 e2 e3 e4 z1 z2=> ?_,λn d b e1 e2=> ?_,E1.ext.trans X,λn d e=> ?_,E1.l0,E1.keep,λn b hn e=> ?_,E1.dom⟩,X⟩
 .obtain⟨v,e1,e2⟩:=E1.slot i x e;exact⟨v,e1,e2.mono X⟩
 .rcases at_ e1 e3 with⟨f1,f2⟩|⟨f1,f2,f3⟩
  .rcases at_ e2 e4 with⟨g1,g2⟩|⟨g1,g2,g3⟩
   .exact E1.inj n m b c1 c2 f1 g1 f2 g2 z1 z2
   .subst g2;rw[h n c1 f1 f2] at z1;cases z1
  .rcases at_ e2 e4 with⟨g1,g2⟩|⟨g1,g2,g3⟩
   .subst f2;rw[h m c2 g1 g2] at z2;cases z2
   .rw[f1,g1]
 .rcases at_ e2 e1 with⟨f1,f2⟩|⟨f1,rfl,rfl⟩
  .exact (E1.cel n d b f2 f1).mono X λ_=>rfl
  .exact hc
 .obtain⟨d',e1,e2⟩:=E1.old n d e;exact⟨d',by rw[uc (lt e1)];exact e1,e2⟩
 .by_cases hm:n<j.length
  .rw[uc hm] at e;exact E1.fresh n b hn e
  .rw[ur ⋯] at e;cases hk:n-j.length with
   |zero=>rw[hk] at e;simp at e;subst e;exact hf
   |succ m=>rw[hk] at e;simp at e
theorem zi2 {cap:List (Option Nat)} (E1:En K F j H σ ρ S):(Yf cap σ).length=(xM cap ρ).length/\∀(i:Nat) x,(xM cap ρ)[i]? =f7 (f7 x)->∃v,(Yf cap σ)[i]? =f7 (f7 v)/\Xis K j H x v:=by
 refine⟨by simp[Yf,xM],λi x h=> ?_⟩;unfold xM at h;unfold Yf;rw[uf] at h ⊢;cases e:cap[i]? with
 |none=>rw[e] at h;cases h
 |some o=>
  rw[e] at h;cases o with
  |none=>simp at h
  |some k=>
   simp only[Aa,uz,uQ] at h ⊢;cases q:ρ[k]? with
   |none=>rw[q] at h;simp at h
   |some z=>
    rw[q] at h;simp at h;subst h;obtain⟨v,e1,e2⟩:=E1.slot k x q;exact⟨v,by rw[e1];rfl,e2⟩
theorem Uo {cap:List (Option Nat)} {wi:TI} {g:TG} {tt:TT} {te:TE} {m:TwI} {g':TwG} {c:TwT} {e:TwE} (hi:RI K E wi m) (hg:RG K E0 g g') (hc:RT K E0 tt c) (he:RE K E0 te e):RE K E (zj0 cap wi g tt te) (xh cap m g' c e):=by
 intro F j σ H ρ S r Q En0 h k;rcases zu h with⟨get,S1,e1,h⟩|⟨c1,S1,e1,rfl⟩
 .refine hi En0 e1 λj1 H1 X1 E1 J ok acc dD=> ?_;cases eg:get S1 with
  |none=>rw[eg] at h;cases h
  |some xs=>
   rw[eg] at h;have hf:F.H0 acc=gC:=E1.dom acc dD;obtain⟨Ea,Xa⟩:=E1.new (o:= .lst []) dD
   refine⟨λi n ys H2=>∃j2 S2 es,Ext j1 H1 j2 H2/\En K F j2 H2 σ ρ S2/\H2 acc=f7 (.lst ys)/\yc K j2 H2 es ys/\WV j2 S2 acc/\Yl get g' c e (xM cap ρ) n i es S2=f7 r,
    ⟨xs.length+1,j1,S1,[],Xa,Ea,zJ,.nil,E1.notIn dD,h⟩,?_⟩
   rintro i n ys H2 ⟨j2,S2,es,X2,E2,h2,mo,nin,e2⟩;cases n with
   |zero=>cases e2
   |succ n=>
    unfold Yl at e2;cases ke:get S2 with
    |none=>rw[ke] at e2;cases e2
    |some zs=>
     rw[ke] at e2;dsimp only[B8] at e2;obtain⟨go,stop⟩:=ok i X2 E2 ke;split at e2
     .split at e2
      .rename_i hl;cases e2;obtain⟨E3,X3⟩:=E2.adopt (c:= .lst es) nin hf ⟨ys,h2,mo.mono ⟨λn b e=>by rw[uc (u9.1 e).1];exact e,wQ.refl _⟩⟩;exact .inl ⟨stop hl,k _ _ (X1.trans (X2.trans X3)) E3 _ (.ref (by rw[<-E2.jl];simp))⟩
      .cases e2
     .rename_i x ex;obtain⟨g1,g2⟩:=go x ex;refine .inr ⟨g1,λv H3 hy=> ?_⟩;obtain⟨Sm,hv⟩:=g2 v H3 hy;have E3:=E2.heap Sm;have X3:Ext j2 H2 j2 H3:=Ext.same Sm;have h3:H3 acc=f7 (.lst ys):=Sm _ _ h2;obtain⟨cl,cs⟩:=zi2 (cap:=cap) E3;have I0:=E3.enter cl cs;obtain⟨ρ4,S4,e4,e2⟩:=zd8 e2;obtain⟨b,S5,e5,e2⟩:=zd8 e2;have behind:∀{j6:List Addr} {H6:Hp} {σ6:St} {ρ6:Rho} {S6:Sto},En K ⟨H3,j2,S2⟩ j6 H6 σ6 ρ6 S6->En K F j6 H6 σ ρ S6/\Ext j2 H2 j6 H6/\H6 acc=f7 (.lst ys)/\WV j6 S6 acc:=λ{j6 H6 σ6 ρ6 S6} X=>by
       obtain⟨E6,X6⟩:=E3.leave X;refine⟨E6,X3.trans X6,?_,λn d q1 q2=> ?_⟩
       .rcases X.keep acc _ h3 with q|⟨n,d,q1,q2,q3⟩
        .exact q
        .rw[nin n d q1 q2] at q3;cases q3
       .by_cases hn:n<j2.length
        .have p1:j2[n]? =f7 j2[n]:=u6 hn;have p2:=X6.pre n _ p1;rw[q1] at p2;cases p2;have fq:n<S2.length:=by rw[<-E2.jl];exact hn
         obtain⟨d',f1,_,f3⟩:=X.old n _ (u6 fq);rw[q2] at f1;cases f1;have hz:=nin n _ p1 (u6 fq);rw[f3 hz];exact hz
        .have q:=X.fresh n acc (by dsimp only;omega) q1;have q:H3 acc=gC:=q;rw[h3] at q;cases q
      refine hg I0 hv e4 λσ4 j4 H4 X4 I4=>hc I4 e5 λj5 H5 X5 I5=> ?_;cases b with
      |true=>
       rw[if_pos rfl];rw[if_pos rfl] at e2;obtain⟨y,S6,e6,e2⟩:=zd8 e2;split at e2
       .rename_i hsz;refine he I5 e6 λj6 H6 X6 I6 w hw=> ?_;obtain⟨E6,X26,h6,iY⟩:=behind I6;obtain⟨E7,X7⟩:=E6.outside (o:= .lst (ys++[w])) iY h6 rfl hf;refine⟨h6,by rw[mo.len];exact hsz,n,Aq _,j6,S6,es++[y],X2.trans (X26.trans X7),E7,zJ,((mo.mono X26).append (.one hw)).mono X7,iY,e2⟩
       .cases e2
      |false=>
       rw[if_neg (by simp)];rw[if_neg (by simp)] at e2;obtain⟨E6,X26,h6,iY⟩:=behind I5;exact⟨n,Aq _,j5,S5,es,X2.trans X26,E6,h6,mo.mono X26,iY,e2⟩
 .exact hi En0 e1 k
theorem UN {i:Nat} {cap:List (Option Nat)} {wi:TI} {g:TG} {tt:TT} {te:TE} {m:TwE} (h:RE K E (zj0 cap wi g tt te) m):RS K E (ze6 i cap wi g tt te) (zH m (gN i)):=by
 intro F j D' σ H ρ S fl E1 e k;rcases xo e with⟨x,S1,e1,e⟩|⟨c,S1,e1,rfl⟩
 .cases e;exact h (Q:=λv H2=>D'.nx (σ.set i (f7 v)) H2) E1 e1 λj1 H1 X1 E1 u hu=>k _ _ _ X1 (E1.set hu)
 .exact h (Q:=λv H2=>D'.nx (σ.set i (f7 v)) H2) E1 e1 k
abbrev TwF:=List Xv->Sto->Option (Rs Xv)
noncomputable def zK (n k:Nat) (b:TwS):TwF:=λxs S=>if xs.length=n then match b (xs.map f7++uJ k gC) S with
  |some (.rt x S')=>f7 (.ok x S')
  |some (.nx _ S')=>f7 (.ok .non S')
  |some (.ex c S')=>f7 (.ex c S')
  |_=>gC
 else gC
def zp4 (K:u5) (F:Fm) (Q:VK) (E:XK):Rs Xv->Prop
 | .ok x S'=>∀v j' H' σ ρ,En K F j' H' σ ρ S'->Xis K j' H' x v->Q v H'
 | .ex c S'=>∀j' H' σ ρ C,En K F j' H' σ ρ S'->um K mainGlobals c=f7 (f7 (.ref C))->E (.ref C) gC H'
def sTw (K:u5) (n:Nat) (tw:TwF):Sp:=λvs H Q E=>vs.length=n/\∃(j:List Addr) (S:Sto) (xs:List Xv) (r:Rs Xv),En K ⟨H,j,S⟩ j H (vs.map f7) (xs.map f7) S/\tw xs S=f7 r/\zp4 K ⟨H,j,S⟩ Q E r
theorem zdh {n k:Nat} {N:List Str} {t:TS} {b:TwS} {vs:List V} {Q:VK} (hN:N.length=n+k) (h:RS K E t b) (hs:sTw K n (zK n k b) vs H Q E):t {nx:=λ_ H'=>Q .non H',rt:=Q} (ZI N vs) H:=by
 obtain⟨hn,j,S,xs,r,E1,e,ret⟩:=hs;have es:ZI N vs=vs.map f7++uJ k gC:=by
  unfold ZI;rw[hN,hn,Nat.add_sub_cancel_left]
 rw[es];unfold zK at e;split at e
 .split at e
  .rename_i x S' e1;cases e;exact h E1.grow e1 λv σ ρ j' H' X E' hv=>ret _ _ _ _ _ E' hv
  .rename_i ρ' S' e1;cases e;exact h E1.grow e1 λσ j' H' X E'=>ret _ _ _ _ _ E' .non
  .rename_i c S' e1;cases e;exact h E1.grow e1 λj' H' σ' ρ' C X E' hC=>ret _ _ _ _ _ E' hC
  .cases e
 .cases e
theorem YU {P:Program} {w:World} {mg:Str->Option Value} {base:Heap} {CX:CXT} {k n:Nat} {f:Addr} {fd:FuncData} {ps:List Str} (hl:ps.length=n:=by rfl):ZP P w K mg base CX k f fd ps (sTw K n λ_ _=>gC):=
 ⟨λvs H Q E h=>h.1.trans hl.symm,λA outer s H args us vs Q E hr he hb hv hs=>by
  obtain⟨_,_,_,_,_,_,z,_⟩:=hs
  cases z⟩
noncomputable def zD (tw:TwF) (ms:List TwE):TwE:=λρ S=>rb (evL ms ρ S) λxs S1=>tw xs S1
noncomputable def zgU (tw:TwF) (ms:List TwE):TwE:=λρ S=>rb (evL ms ρ S) λxs S1=>match tw xs S1 with
 |some (.ok x S2)=>f7 (.ok x S2)
 |_=>gC
theorem zbQ {xs:List Xv} {vs:List V} (hv:yc K j H xs vs):(vs.map f7).length=(xs.map f7).length/\∀(i:Nat) x,(xs.map f7)[i]? =f7 (f7 x)->∃v,(vs.map f7)[i]? =f7 (f7 v)/\Xis K j H x v:=by
 refine⟨by simp[hv.len],λi x h=> ?_⟩;rw[uf] at h ⊢;cases e:xs[i]? with
 |none=>rw[e] at h;cases h
 |some y=>
  rw[e] at h;simp at h;subst h;obtain⟨v,e1,e2⟩:=hv.get e;exact⟨v,by rw[e1];rfl,e2⟩
theorem Yb {n:Nat} {tw:TwF} {xs:List Xv} {vs:List V} {r:Rs Xv} {Q:VK} {E':XK} (E1:En K F j H σ ρ S) (hv:yc K j H xs vs) (hn:vs.length=n) (et:tw xs S=f7 r) (k:Po K F j H σ ρ E' (PoV K Q) r):sTw K n tw vs H Q E':=by
 obtain⟨l,s⟩:=zbQ hv;refine⟨hn,j,S,xs,r,E1.enter l s,et,?_⟩;cases r with
 |ok x S'=>
  intro v j' H' σ' ρ' X hx;obtain⟨E2,X2⟩:=E1.leave X;exact k j' H' X2 E2 v hx
 |ex c S'=>
  intro j' H' σ' ρ' C X hC;obtain⟨E2,X2⟩:=E1.leave X;exact k j' H' σ ρ C X2 E2 hC
theorem Ts {n:Nat} {tw:TwF} {ms:List TwE} {t:TA} (h:RL K E t (evL ms)) (hn:ms.length=n:=by rfl):RE K E (zjM (sTw K n tw) [] E t) (zD tw ms):=by
 intro F j σ H ρ S r Q En0 e k;rcases zu e with⟨xs,S1,e1,e⟩|⟨c,S1,e1,rfl⟩
 .refine h En0 e1 λj1 H1 X1 E1 vs hv=> ?_;rw[y0];exact Yb E1 hv (by rw[hv.len,ZQ e1,hn]) e (k.step X1)
 .exact h En0 e1 k
theorem zkI {n:Nat} {tw:TwF} {ms:List TwE} {t:TA} (h:RL K E t (evL ms)) (hn:ms.length=n:=by rfl):RE K E (zjM (sTw K n tw) [] E0 t) (zgU tw ms):=by
 intro F j σ H ρ S r Q En0 e k;rcases zu e with⟨xs,S1,e1,e⟩|⟨c,S1,e1,rfl⟩
 .refine h En0 e1 λj1 H1 X1 E1 vs hv=> ?_;rw[y0];split at e
  .rename_i x S2 e2;cases e;exact Yb E1 hv (by rw[hv.len,ZQ e1,hn]) e2 (λj' H' X E2 v hw=>k _ _ (X1.trans X) E2 v hw)
  .cases e
 .exact h En0 e1 k
end
end L2
namespace L2
open PySem PySem.Spec PyProof.Rows
open PySem.Builtin.Int (intBits)
noncomputable def xI (g:Int->Int->Xv):Op2:=λx y S=>match x,y with
 | .int a,.int b=>f7 (g a b,S)
 |_,_=>gC
noncomputable def xIC (c:Int->Int->Bool) (g:Int->Int->Xv):Op2:=λx y S=>match x,y with
 | .int a,.int b=>if c a b then f7 (g a b,S) else gC
 |_,_=>gC
def YK:Op2:=xI λi j=> .int (i+j)
def zkJ:Op2:=xI λi j=> .int (i-j)
def zmw:Op2:=xIC (λi j=>decide ((-(2^64)<i/\i<2^64)\/(-(2^64)<j/\j<2^64))) λi j=> .int (i*j)
def Tt:Op2:=xIC (λi j=>decide (intBits i+intBits j<=134217728)) λi j=> .int (i*j)
def Vt:Op2:=xIC (λ_ j=>decide (0<j)) λi j=> .int (i % j)
def zaT:Op2:=xIC (λ_ j=>decide (0<j/\j<1073741824)) λi j=> .int (i / j)
def zay:Op2:=xIC (λ_ j=>decide (j≠0/\intBits j<=9000)) λi j=> .int (i.fdiv j)
def zi3:Op2:=xIC (λi j=>decide (0<=j/\j<=1000000/\i.natAbs<2^64)) λi j=> .int (i^j.toNat)
def dLt:Op2:=xI λi j=> .bl (decide (i<j))
def dGt:Op2:=xI λi j=> .bl (decide (j<i))
def dGe:Op2:=xI λi j=> .bl (decide (j<=i))
def ZR:Op2:=xI λi j=> .bl (decide (i=j))
def zi4:Op2:=xI λi j=> .bl (!decide (i=j))
noncomputable def zi5:Xv->Sto->Option (Xv×Sto):=λx S=>match x with
 | .int i=>f7 (.int (-i),S)
 |_=>gC
section
variable {K:u5} {E:XK} {F:Fm} {j j':List Addr} {H H':Hp} {σ σ':St} {ρ ρ':Rho} {S S':Sto} {x:Xv} {v:V} {ta tb:TE} {a b:TwE}
theorem zkK {g:Int->Int->V} {g':Int->Int->Xv} (hg:∀i k j H,Xis K j H (g' i k) (g i k)):XS K (rI0 g) (xI g'):=by
 intro F j σ H ρ S S' x y z u v Q E1 hx hy h k;unfold xI at h;split at h
 .cases h;exact⟨_,_,hx.int_inv,hy.int_inv,k _ _ _ Ext.refl E1 (hg _ _ _ _)⟩
 .cases h
theorem zi6 {C:Int->Int->Prop} {c:Int->Int->Bool} {g:Int->Int->V} {g':Int->Int->Xv} (hc:∀i j,c i j=ia->C i j) (hg:∀i k j H,Xis K j H (g' i k) (g i k)):XS K (rI C g) (xIC c g'):=by
 intro F j σ H ρ S S' x y z u v Q E1 hx hy h k;unfold xIC at h;split at h
 .split at h
  .cases h;exact⟨_,_,hx.int_inv,hy.int_inv,hc _ _ (by assumption),k _ _ _ Ext.refl E1 (hg _ _ _ _)⟩
  .cases h
 .cases h
theorem zbR {p:Int->Int->Bool} (ha:RE K E ta a) (hb:RE K E tb b):RE K E (zeW p ta tb) (eOp (xI λi j=> .bl (p i j)) a b):=
 wm (r:=rI0 λi j=> .bl (p i j)) (zkK λi k _ _=> .bl _) ha hb
theorem zkL:XS K (rI0 λi j=> .int (i+j)) YK:=zkK λ_ _ _ _=> .int _
theorem zgV:XS K (rI0 λi j=> .int (i-j)) zkJ:=zkK λ_ _ _ _=> .int _
theorem zkM:XS K (rI zjJ λi j=> .int (i*j)) zmw:=zi6 (λi j h=>by simpa [zjJ] using h) λ_ _ _ _=> .int _
theorem zhY:XS K (rI znH λi j=> .int (i*j)) Tt:=zi6 (λi j h=>⟨intBits i,intBits j,ug _,ug _,by simpa using h⟩) λ_ _ _ _=> .int _
theorem zgW:XS K (rI (λ_ j=>0<j) λi j=> .int (i % j)) Vt:=zi6 (λi j h=>by simpa using h) λ_ _ _ _=> .int _
theorem zhZ:XS K (rI zn9 λi j=> .int (i / j)) zaT:=zi6 (λi j h=>by simpa [zn9] using h) λ_ _ _ _=> .int _
theorem zfq:XS K (rI zka λi j=> .int (i.fdiv j)) zay:=zi6 (λi j h=>by simpa [zka] using h) λ_ _ _ _=> .int _
theorem zkN:XS K (rI zoa λi j=> .int (i^j.toNat)) zi3:=zi6 (λi j h=>by simpa [zoa] using h) λ_ _ _ _=> .int _
theorem zp5 (ha:RE K E ta a) (hb:RE K E tb b):RE K E (tLt ta tb) (eOp dLt a b):=zbR ha hb
theorem zp6 (ha:RE K E ta a) (hb:RE K E tb b):RE K E (tGt ta tb) (eOp dGt a b):=zbR ha hb
theorem zp7 (ha:RE K E ta a) (hb:RE K E tb b):RE K E (tGe ta tb) (eOp dGe a b):=zbR ha hb
theorem zkO (ha:RE K E ta a) (hb:RE K E tb b):RE K E (zpx ta tb) (eOp ZR a b):=zbR ha hb
theorem zoD (ha:RE K E ta a) (hb:RE K E tb b):RE K E (zpy ta tb) (eOp zi4 a b):=zbR ha hb
theorem zd9:zpX K (rU λi=> .int (-i)) zi5:=by
 intro F j σ H ρ S S' x z u Q E1 hx h k;unfold zi5 at h;split at h
 .cases h;exact⟨_,hx.int_inv,k _ _ _ Ext.refl E1 (.int _)⟩
 .cases h
noncomputable def Tu:Op2:=λx y S=>match x,y with
 | .str a,.str b=>if a.length+b.length<=sizeLine then f7 (.str (a++b),S) else gC
 |_,_=>gC
theorem zh0:XS K (λx y H Q=>∃i j,x= .str i/\y= .str j/\i.length+j.length<=sizeLine/\Q (.str (i++j)) H) Tu:=by
 intro F j σ H ρ S S' x y z u v Q E1 hx hy h k;unfold Tu at h;split at h
 .split at h
  .cases h;exact⟨_,_,hx.str_inv,hy.str_inv,by assumption,k _ _ _ Ext.refl E1 (.str _)⟩
  .cases h
 .cases h
noncomputable def YV:Op2:=λx y S=>match x,y with
 | .tup a,.tup b=>if a.length+b.length<=sizeLine then f7 (.tup (a++b),S) else gC
 |_,_=>gC
theorem Tv:XS K (znI K) YV:=by
 intro F j σ H ρ S S' x y z u v Q E1 hx hy h k;unfold YV at h;split at h
 .split at h
  .rename_i hz;cases h;obtain⟨p,xs,rfl,h1,h2⟩:=hx.tup_inv;obtain⟨q,ys,rfl,g1,g2⟩:=hy.tup_inv;refine⟨p,q,xs,ys,rfl,rfl,SqT.of h1,SqT.of g1,by rw[h2.len,g2.len];exact hz,λe=> ?_,λ_ e=> ?_,λ_ _ l hl=> ?_⟩
   .subst e;obtain rfl:=Ca.1 h2.len.symm;exact k _ _ _ Ext.refl E1 hy
   .subst e;obtain rfl:=Ca.1 g2.len.symm;refine k _ _ _ Ext.refl E1 ?_;rw[y0];exact hx
   .obtain⟨E2,X2⟩:=E1.new (o:= .tup (xs++ys)) hl;exact k _ _ _ X2 E2 (.tup zJ ((h2.append g2).mono X2))
  .cases h
 .cases h
noncomputable def zkP (g:Int->Xv):Opn:=λxs S=>match xs with
 |[.int i]=>f7 (g i,S)
 |_=>gC
theorem zmx {g:Int->V} {g':Int->Xv} (hg:∀i j H,Xis K j H (g' i) (g i)):zaw K (λxs H Q=>∃i,xs=[V.int i]/\Q (g i) H) (zkP g'):=by
 intro F j σ H ρ S S' xs z vs Q E1 hv h k;unfold zkP at h;split at h
 .cases h;obtain⟨x,rfl,hx⟩:=hv.d1;exact⟨_,by rw[hx.int_inv],k _ _ _ Ext.refl E1 (hg _ _ _)⟩
 .cases h
noncomputable def zh1 (g:Int->Int->Xv):Opn:=λxs S=>match xs with
 |[.int i,.int j]=>f7 (g i j,S)
 |_=>gC
theorem zh2 {g:Int->Int->V} {g':Int->Int->Xv} (hg:∀i k j H,Xis K j H (g' i k) (g i k)):zaw K (λxs H Q=>∃i j,xs=[V.int i,V.int j]/\Q (g i j) H) (zh1 g'):=by
 intro F j σ H ρ S S' xs z vs Q E1 hv h k;unfold zh1 at h;split at h
 .cases h;obtain⟨x,y,rfl,hx,hy⟩:=hv.d2;exact⟨_,_,by rw[hx.int_inv,hy.int_inv],k _ _ _ Ext.refl E1 (hg _ _ _ _)⟩
 .cases h
def zkQ:Opn:=zkP λi=> .int (if i<0 then -i else i)
def zoE:Opn:=zh1 λi j=> .int (if j<i then j else i)
def zoF:Opn:=zh1 λi j=> .int (if j>i then j else i)
theorem zkR:zaw K (λxs H Q=>∃i,xs=[V.int i]/\Q (.int (if i<0 then -i else i)) H) zkQ:=zmx λ_ _ _=> .int _
theorem zkS:zaw K (λxs H Q=>∃i j,xs=[V.int i,V.int j]/\Q (.int (if j<i then j else i)) H) zoE:=zh2 λ_ _ _ _=> .int _
theorem zkT:zaw K (λxs H Q=>∃i j,xs=[V.int i,V.int j]/\Q (.int (if j>i then j else i)) H) zoF:=zh2 λ_ _ _ _=> .int _
noncomputable def wT:Opn:=λxs S=>match xs with
 |[x]=>(ZK S x).map λl=>(.int l.length,S)
 |_=>gC
theorem zbS:zaw K (λxs H Q=>∃p ys,xs=[V.ref p]/\(SqL K H p ys\/SqT K H p ys)/\Q (.int ys.length) H) wT:=by
 intro F j σ H ρ S S' xs z vs Q E1 hv h k;unfold wT at h;split at h
 .rename_i x;cases e:ZK S x with
  |none=>rw[e] at h;cases h
  |some l=>
   rw[e] at h;cases h;obtain⟨w,rfl,hx⟩:=hv.d1;obtain⟨a,ws,rfl,h1,h2⟩:=E1.seqAt hx e;refine⟨a,ws,rfl,?_,k _ _ _ Ext.refl E1 (by rw[h2.len];exact .int _)⟩;rcases h1 with h1|h1
   .exact .inl h1.sql
   .exact .inr h1
 .cases h
noncomputable def zh3:Opn:=λxs S=>match xs with
 |[x]=>(ZK S x).map λl=>(.ref S.length,S++[.lst l])
 |_=>gC
theorem zh4:zaw K (λxs H Q=>∃p ys,xs=[V.ref p]/\(SqL K H p ys\/SqT K H p ys)/\∀l,H l=gC->Q (.ref l) (upd H l (.lst ys))) zh3:=by
 intro F j σ H ρ S S' xs z vs Q E1 hv h k;unfold zh3 at h;split at h
 .rename_i x;cases e:ZK S x with
  |none=>rw[e] at h;cases h
  |some l=>
   rw[e] at h;cases h;obtain⟨w,rfl,hx⟩:=hv.d1;obtain⟨a,ws,rfl,h1,h2⟩:=E1.seqAt hx e;refine⟨a,ws,rfl,?_,λp hp=> ?_⟩
   .rcases h1 with h1|h1
    .exact .inl h1.sql
    .exact .inr h1
   .obtain⟨E2,X2,h3⟩:=E1.lst h2 hp;exact k _ _ _ X2 E2 h3
 .cases h
noncomputable def Xn:Opn:=λxs S=>match xs with
 |[.tup l]=>f7 (.tup l,S)
 |[x]=>(yx S x).map λl=>(.tup l,S)
 |_=>gC
theorem zfr:zaw K (λxs H Q=>∃p ys,xs=[V.ref p]/\((SqL K H p ys/\∀l,H l=gC->Q (.ref l) (upd H l (.tup ys)))\/(SqT K H p ys/\Q (.ref p) H))) Xn:=by
 intro F j σ H ρ S S' xs z vs Q E1 hv h k;unfold Xn at h;split at h
 .cases h;obtain⟨w,rfl,hx⟩:=hv.d1;obtain⟨a,ws,rfl,h1,h2⟩:=hx.tup_inv;exact⟨a,ws,rfl,.inr ⟨SqT.of h1,k _ _ _ Ext.refl E1 hx⟩⟩
 .rename_i x _;cases e:yx S x with
  |none=>rw[e] at h;cases h
  |some l=>
   rw[e] at h;cases h;obtain⟨w,rfl,hx⟩:=hv.d1;obtain⟨a,ws,rfl,h1,h2⟩:=E1.lstAt hx e;refine⟨a,ws,rfl,.inl ⟨h1.sql,λp hp=> ?_⟩⟩;obtain⟨E2,X2⟩:=E1.new (o:= .tup ws) hp;exact k _ _ _ X2 E2 (.tup zJ (h2.mono X2))
 .cases h
noncomputable def Tw:List Xv->Option (List Int)
 |[]=>f7 []
 | .int i::r=>(Tw r).map (i:: ·)
 |_::_=>gC
theorem zfs:∀{xs:List Xv} {ns:List Int} {vs:List V},Tw xs=f7 ns->yc K j H xs vs->vs=ns.map V.int
 |[],ns,vs,e,h=>by cases e;exact h.nil_inv
 |x::r,ns,vs,e,h=>by
  obtain⟨v,ws,rfl,h1,h2⟩:=h.cons_inv;cases x<;>simp only[Tw,reduceCtorEq] at e
  cases e2:Tw r with
  |none=>rw[e2] at e;cases e
  |some ms=>
   rw[e2] at e;cases e;rw[h1.int_inv,zfs e2 h2];rfl
theorem zi7 (ns:List Int):Tw (ns.map Xv.int)=f7 ns:=by
 induction ns with
 |nil=>rfl
 |cons n r ih=>simp[Tw,ih]
noncomputable def ZL:List Xv->Option (List Bool)
 |[]=>f7 []
 | .bl i::r=>(ZL r).map (i:: ·)
 |_::_=>gC
theorem zbT:∀{xs:List Xv} {ns:List Bool} {vs:List V},ZL xs=f7 ns->yc K j H xs vs->vs=ns.map V.bl
 |[],ns,vs,e,h=>by cases e;exact h.nil_inv
 |x::r,ns,vs,e,h=>by
  obtain⟨v,ws,rfl,h1,h2⟩:=h.cons_inv;cases x<;>simp only[ZL,reduceCtorEq] at e
  cases e2:ZL r with
  |none=>rw[e2] at e;cases e
  |some ms=>
   rw[e2] at e;cases e;rw[h1.bl_inv,zbT e2 h2];rfl
noncomputable def zft:Opn:=λxs S=>match xs with
 |[x]=>((yx S x).bind ZL).map λns=>(.bl (ns.any id),S)
 |_=>gC
noncomputable def zea:Opn:=λxs S=>match xs with
 |[x]=>((yx S x).bind ZL).map λns=>(.bl (ns.all id),S)
 |_=>gC
theorem zgX:zaw K (zpV K) zft:=by
 intro F j σ H ρ S S' xs z vs Q E1 hv h k;unfold zft at h;split at h
 .rename_i x;cases e:yx S x with
  |none=>rw[e] at h;cases h
  |some l=>
   rw[e] at h;cases e2:ZL l with
   |none=>simp[e2] at h
   |some ns=>
    simp only[uz,e2,Aa,uQ,CN] at h;obtain⟨rfl,rfl⟩:=h;obtain⟨w,rfl,hx⟩:=hv.d1;obtain⟨p,ws,rfl,h1,h2⟩:=E1.lstAt hx e;refine⟨p,ns,rfl,?_,k _ _ _ Ext.refl E1 (.bl _)⟩;rw[<-zbT e2 h2];exact h1.sql
 .cases h
theorem zkU:zaw K (zpW K) zea:=by
 intro F j σ H ρ S S' xs z vs Q E1 hv h k;unfold zea at h;split at h
 .rename_i x;cases e:yx S x with
  |none=>rw[e] at h;cases h
  |some l=>
   rw[e] at h;cases e2:ZL l with
   |none=>simp[e2] at h
   |some ns=>
    simp only[uz,e2,Aa,uQ,CN] at h;obtain⟨rfl,rfl⟩:=h;obtain⟨w,rfl,hx⟩:=hv.d1;obtain⟨p,ws,rfl,h1,h2⟩:=E1.lstAt hx e;refine⟨p,ns,rfl,?_,k _ _ _ Ext.refl E1 (.bl _)⟩;rw[<-zbT e2 h2];exact h1.sql
 .cases h
noncomputable def xB (neg:Bool):Op2:=λx y S=>match x,y with
 | .int a,.int b=>f7 (.bl (neg !=decide (a=b)),S)
 | .str a,.str b=>f7 (.bl (neg !=decide (a=b)),S)
 | .bl a,.bl b=>f7 (.bl (neg !=decide (a=b)),S)
 | .non,.non=>f7 (.bl (neg !=ia),S)
 | .int _,.str _=>f7 (.bl (neg !=kb),S)
 | .str _,.int _=>f7 (.bl (neg !=kb),S)
 |_,_=>gC
theorem zgY:XS K rEq (xB kb):=by
 intro F j σ H ρ S S' x y z u v Q E1 hx hy h k;cases hx<;>cases hy<;>simp only[xB,reduceCtorEq,uQ,CN,Bh] at h<;>obtain⟨rfl,rfl⟩:=h<;>refine⟨rfl,k _ _ _ Ext.refl E1 ?_⟩<;>simp<;>exact .bl _
noncomputable def wn:Xv->Bool
 | .non=>ia
 | .bl _=>ia
 | .int _=>ia
 | .str _=>ia
 |_=>kb
noncomputable def zeb:Xv->Xv->Bool
 | .non,.non=>ia
 | .bl a,.bl b=>a==b
 | .bl a,.int b=>(if a then 1 else 0)==b
 | .int a,.bl b=>a==(if b then 1 else 0)
 | .int a,.int b=>a==b
 | .str a,.str b=>a==b
 |_,_=>kb
noncomputable def dIn (neg:Bool):Op2:=λx y S=>(ZK S y).bind λl=>if wn x&&l.all wn then f7 (.bl (neg !=l.any λz=>zeb z x),S) else gC
theorem zbU {v:V} {x:Xv} (h:Xis K j H x v):YO v=wn x:=by cases h<;>rfl
theorem zgZ {v w:V} {x y:Xv} (h:Xis K j H x v) (g:Xis K j H y w) (fx:wn x=ia) (fy:wn y=ia):eqV v w=zeb x y:=by cases h<;>cases g<;>first|rfl|cases fx|cases fy
theorem zh5 {xs:List Xv} {vs:List V} (h:yc K j H xs vs):vs.all YO=xs.all wn:=
 h.ind (m:=λxs vs=>vs.all YO=xs.all wn) rfl λh _ ih=>by rw[B5,B5,zbU h,ih]
theorem zmy {v:V} {x:Xv} (hx:Xis K j H x v) (fx:wn x=ia) {xs:List Xv} {vs:List V} (h:yc K j H xs vs):xs.all wn=ia->inV v vs=xs.any λz=>zeb z x:=
 h.ind (m:=λxs vs=>xs.all wn=ia->inV v vs=xs.any λz=>zeb z x) (λ_=>rfl) λh _ ih f=>by
  rw[B5,uX] at f;have:=ih f.2;unfold inV at this ⊢;rw[Ap,Ap,zgZ h hx f.1 fx,this]
theorem zp8 {neg:Bool}:XS K (rIn K neg) (dIn neg):=by
 intro F j σ H ρ S S' x y z u v Q E1 hx hy h k;unfold dIn at h;cases e:ZK S y with
 |none=>rw[e] at h;cases h
 |some l=>
  rw[e] at h;dsimp only[B8] at h;split at h
  .rename_i hf;have hf:=CH.1 hf;cases h;obtain⟨p,ws,rfl,h1,h2⟩:=E1.seqAt hy e;refine⟨p,ws,rfl,?_,by rw[zbU hx];exact hf.1,by rw[zh5 h2];exact hf.2,k _ _ _ Ext.refl E1 ?_⟩
   .rcases h1 with h1|h1
    .exact .inl h1.sql
    .exact .inr h1
   .rw[zmy hx hf.1 h2 hf.2];cases neg<;>simp<;>exact .bl _
  .cases h
noncomputable def Ym (f:Xv->Option D):List Xv->Option (List D)
 |[]=>f7 []
 |x::r=>(f x).bind λd=>(Ym f r).map (d:: ·)
noncomputable def ZS (S:Sto):Nat->Xv->Option D
 |0,x=>match x with
  | .non=>f7 .non
  | .bl b=>f7 (.bl b)
  | .int i=>f7 (.int i)
  | .str s=>f7 (.str s)
  |_=>gC
 |n+1,x=>match x with
  | .non=>f7 .non
  | .bl b=>f7 (.bl b)
  | .int i=>f7 (.int i)
  | .str s=>f7 (.str s)
  | .tup l=>(Ym (ZS S n) l).map .tup
  | .ct l=>(Ym (ZS S n) l).map .tup
  | .ref m=>(yx S (.ref m)).bind λl=>(Ym (ZS S n) l).map .lst
  | .lam _ _=>gC
theorem zbV {f:Xv->Option D} {n:Nat} (hf:∀x v d,Xis K j H x v->f x=f7 d->Is K H v d/\D.depth d<=n) {xs:List Xv} {vs:List V} {ds:List D} (h:yc K j H xs vs):Ym f xs=f7 ds->IsL K H vs ds/\D.depths ds<=n:=
 h.ind (m:=λxs vs=>∀ds,Ym f xs=f7 ds->IsL K H vs ds/\D.depths ds<=n) (λds e=>by cases e;exact⟨.nil,by simp[D.depths]⟩) (λ{x v r vs} h l ih ds e=>by
  unfold Ym at e;cases e1:f x with
  |none=>rw[e1] at e;cases e
  |some d=>
   rw[e1] at e;cases e2:Ym f r with
   |none=>simp[e2] at e
   |some es=>
    simp[e2] at e;subst e;obtain⟨a1,a2⟩:=hf _ _ _ h e1;obtain⟨b1,b2⟩:=ih es e2
    exact⟨.cons a1 b1,by unfold D.depths;omega⟩) ds
theorem zec (E1:En K F j H σ ρ S):∀(n:Nat) (x:Xv) (v:V) (d:D),Xis K j H x v->ZS S n x=f7 d->Is K H v d/\D.depth d<=n
 |0,x,v,d,h,e=>by
  cases h<;>simp only[ZS,uQ,reduceCtorEq] at e<;>subst e<;>refine⟨by constructor,by simp[D.depth]⟩
 |n+1,x,v,d,h,e=>by
  have ih:=zec E1 n;cases h with
  |non=>simp only[ZS,uQ] at e;subst e;exact⟨.non,by simp[D.depth]⟩
  |bl b=>simp only[ZS,uQ] at e;subst e;exact⟨.bl b,by simp[D.depth]⟩
  |int b=>simp only[ZS,uQ] at e;subst e;exact⟨.int b,by simp[D.depth]⟩
  |str b=>simp only[ZS,uQ] at e;subst e;exact⟨.str b,by simp[D.depth]⟩
  |lam h l=>simp only[ZS,reduceCtorEq] at e
  | @tup a vs l h1 h2=>
   simp only[ZS] at e;cases e2:Ym (ZS S n) l with
   |none=>rw[e2] at e;cases e
   |some ds=>
    rw[e2] at e;cases e;obtain⟨a1,a2⟩:=zbV ih h2 e2;exact⟨.tup (SqT.of h1) a1,by unfold D.depth;omega⟩
  | @ct a vs l h1 h2=>
   simp only[ZS] at e;cases e2:Ym (ZS S n) l with
   |none=>rw[e2] at e;cases e
   |some ds=>
    rw[e2] at e;cases e;obtain⟨a1,a2⟩:=zbV ih h2 e2;exact⟨.tup (h1 H) a1,by unfold D.depth;omega⟩
  | @ref m a h1=>
   simp only[ZS] at e;cases e1:yx S (.ref m) with
   |none=>rw[e1] at e;cases e
   |some l=>
    rw[e1] at e;cases e2:Ym (ZS S n) l with
    |none=>simp[e2] at e
    |some ds=>
     simp[e2] at e;subst e;obtain⟨a',vs,ea,g1,g2⟩:=E1.lstAt (.ref h1) e1;cases ea;obtain⟨a1,a2⟩:=zbV ih g2 e2;exact⟨.lst g1.sql a1,by unfold D.depth;omega⟩
noncomputable def D.many:D->Bool
 | .tup _=>ia
 | .lst _=>ia
 |_=>kb
noncomputable def zkV (c:String) (S:Sto):Xv->Option Bool
 | .non=>f7 kb
 | .int _=>f7 (c=="int")
 | .bl _=>f7 (c=="bool"||c=="int")
 | .str _=>f7 (c=="str")
 | .tup _=>f7 (c=="tuple")
 | .ct _=>f7 (c=="tuple")
 | .ref n=>(yx S (.ref n)).map λ_=>c=="list"
 | .lam _ _=>gC
structure zbW (c:String):Prop where
 non:∀K,uN K (.type "NoneType") (.type c)=f7 kb
 bl:∀K,uN K (.type "bool") (.type c)=f7 (c=="bool"||c=="int")
 int:∀K,uN K (.type "int") (.type c)=f7 (c=="int")
 str:∀K,uN K (.type "str") (.type c)=f7 (c=="str")
 tup:∀K,uN K (.type "tuple") (.type c)=f7 (c=="tuple")
 lst:∀K,uN K (.type "list") (.type c)=f7 (c=="list")
theorem Yn (a b:String) (K:u5) (h1:(Value.type a==Value.type b)=kb) (h:(fastBuiltinMro a).map (·.contains (.type b))=f7 kb) (hm:Ab b=ia):uN K (.type a) (.type b)=f7 kb:=zor h1 h hm rfl
theorem zh6:zbW "int":=⟨λK=>Yn _ _ K ∅ (by decide+kernel) (by decide+kernel),λK=>zd2,λK=>Vr,λK=>Yn _ _ K ∅ (by decide+kernel) (by decide+kernel),λK=>Yn _ _ K ∅ (by decide+kernel) (by decide+kernel),λK=>Yn _ _ K ∅ (by decide+kernel) (by decide+kernel)⟩
theorem zfu:zbW "bool":=⟨λK=>Yn _ _ K ∅ (by decide+kernel) (by decide+kernel),λK=>Vr,λK=>zd3,λK=>Yn _ _ K ∅ (by decide+kernel) (by decide+kernel),λK=>Yn _ _ K ∅ (by decide+kernel) (by decide+kernel),λK=>Yn _ _ K ∅ (by decide+kernel) (by decide+kernel)⟩
theorem zh7:zbW "str":=⟨λK=>Yn _ _ K ∅ (by decide+kernel) (by decide+kernel),λK=>Yn _ _ K ∅ (by decide+kernel) (by decide+kernel),λK=>Yn _ _ K ∅ (by decide+kernel) (by decide+kernel),λK=>Vr,λK=>Yn _ _ K ∅ (by decide+kernel) (by decide+kernel),λK=>Yn _ _ K ∅ (by decide+kernel) (by decide+kernel)⟩
theorem zdi:zbW "tuple":=⟨λK=>Yn _ _ K ∅ (by decide+kernel) (by decide+kernel),λK=>Yn _ _ K ∅ (by decide+kernel) (by decide+kernel),λK=>Yn _ _ K ∅ (by decide+kernel) (by decide+kernel),λK=>Yn _ _ K ∅ (by decide+kernel) (by decide+kernel),λK=>Vr,λK=>Yn _ _ K ∅ (by decide+kernel) (by decide+kernel)⟩
theorem zfv:zbW "list":=⟨λK=>Yn _ _ K ∅ (by decide+kernel) (by decide+kernel),λK=>Yn _ _ K ∅ (by decide+kernel) (by decide+kernel),λK=>Yn _ _ K ∅ (by decide+kernel) (by decide+kernel),λK=>Yn _ _ K ∅ (by decide+kernel) (by decide+kernel),λK=>Yn _ _ K ∅ (by decide+kernel) (by decide+kernel),λK=>Vr⟩
noncomputable def UO (c:String):Xv->Sto->Option (Xv×Sto):=λx S=>(zkV c S x).map λb=>(.bl b,S)
theorem zmz {c:String} (ok:zbW c) (E1:En K F j H σ ρ S) {b:Bool} {Q:VK} (h:Xis K j H x v) (e:zkV c S x=f7 b) (k:Q (.bl b) H):zkc K [v,.ty c] H Q:=by
 cases h with
 |non=>cases e;exact⟨_,_,_,_,_,rfl,rfl,.of .non,ok.non K,k⟩
 |bl b=>cases e;exact⟨_,_,_,_,_,rfl,rfl,.of (.bl b),ok.bl K,k⟩
 |int i=>cases e;exact⟨_,_,_,_,_,rfl,rfl,.of (.int i),ok.int K,k⟩
 |str z=>cases e;exact⟨_,_,_,_,_,rfl,rfl,.of (.str z),ok.str K,k⟩
 |tup h l=>cases e;exact⟨_,_,_,_,_,rfl,rfl,.sqt (SqT.of h),ok.tup K,k⟩
 |ct h l=>cases e;exact⟨_,_,_,_,_,rfl,rfl,.sqt (h H),ok.tup K,k⟩
 |lam h l=>cases e
 | @ref n a h=>
  simp only[zkV] at e;cases e1:yx S (.ref n) with
  |none=>rw[e1] at e;cases e
  |some l=>
   rw[e1] at e;cases e;obtain⟨a',vs,ea,g1,g2⟩:=E1.lstAt (.ref h) e1;cases ea;exact⟨_,_,_,_,_,rfl,rfl,.sql g1.sql,ok.lst K,k⟩
theorem zoG {c:String} {t:TE} {m:TwE} (ok:zbW c) (h:RE K E t m):RE K E (tCB (zkc K) (YN t (YN (tC (.ty c)) zdP))) (eUn (UO c) m):=by
 intro F j σ H ρ S r Q En0 e k;rcases zu e with⟨x,S1,e1,e⟩|⟨c,S1,e1,rfl⟩
 .obtain⟨z,S3,e3,rfl⟩:=vA e;unfold UO at e3;cases e4:zkV c S1 x with
  |none=>rw[e4] at e3;cases e3
  |some b=>
   rw[e4] at e3;cases e3;exact h En0 e1 λj1 H1 X1 E1 u hu=>zmz ok E1 hu e4 (k _ _ X1 E1 _ (.bl _))
 .exact h En0 e1 k
noncomputable def Vu:Xv->Sto->Option (Xv×Sto):=λx S=>(yx S x).map λl=>(.ref S.length,S++[.lst l.reverse])
theorem zg0 {t:TE} {m:TwE} (h:RE K E t m):RE K E (zfj K t) (eUn Vu m):=by
 intro F j σ H ρ S r Q En0 e k;rcases zu e with⟨x,S1,e1,e⟩|⟨c,S1,e1,rfl⟩
 .obtain⟨z,S3,e3,rfl⟩:=vA e;unfold Vu at e3;cases e4:yx S1 x with
  |none=>rw[e4] at e3;cases e3
  |some l=>
   rw[e4] at e3;cases e3;refine h En0 e1 λj1 H1 X1 E1 u hu=> ?_;obtain⟨p,ys,rfl,h1,h2⟩:=E1.lstAt hu e4;refine⟨p,ys,rfl,h1,λl hl=> ?_⟩;obtain⟨E2,X2,h3⟩:=E1.lst h2.reverse hl;exact k _ _ (X1.trans X2) E2 _ h3
 .exact h En0 e1 k
end
end L2
namespace L2
open PySem PySem.Spec PyProof.Rows
noncomputable def Tz:Xv->Option Key
 | .int i=>f7 (.inl i)
 | .str z=>f7 (.inr z)
 |_=>gC
noncomputable def TB (S:Sto):Xv->Option (Nat×List (Key×Xv))
 | .ref n=>match S[n]? with
  |some (.dk ae)=>f7 (n,ae)
  |_=>gC
 |_=>gC
noncomputable def zi8 (S:Sto):Xv->Option (Nat×List (Key×Xv))
 | .ref n=>match S[n]? with
  |some (.dk ae)=>f7 (n,ae)
  |some (.fdk ae)=>f7 (n,ae)
  |_=>gC
 |_=>gC
noncomputable def wA {κ:Type} [DecidableEq κ] (ae:List (κ×Xv)) (k:κ):Option Xv:=(ae.find? λkv=>decide (kv.1=k)).map (·.2)
noncomputable def zbX {κ:Type} [DecidableEq κ] (ae:List (κ×Xv)) (k:κ) (x:Xv):List (κ×Xv):=
 if (ae.any λkv=>decide (kv.1=k))=ia then ae.map (λkv=>if kv.1=k then (kv.1,x) else kv) else ae++[(k,x)]
section
variable {K:u5} {E:XK} {F:Fm} {j:List Addr} {H:Hp} {σ:St} {ρ:Rho} {S:Sto} {x:Xv} {v:V} {κ:Type}
theorem TC {k:Key} (h:Xis K j H x v) (e:Tz x=f7 k):v=kV k:=by
 cases h<;>simp only[Tz,uQ,reduceCtorEq] at e<;>subst e<;>rfl
theorem zaz {n:Nat} {ae:List (Key×Xv)} (h:TB S x=f7 (n,ae)):x= .ref n/\S[n]? =f7 (.dk ae):=by
 cases x<;>simp only[TB,reduceCtorEq] at h
 split at h
 .cases h;exact⟨rfl,by assumption⟩
 .cases h
theorem En.dk {n:Nat} {ae:List (Key×Xv)} (E1:En K F j H σ ρ S) (hx:Xis K j H x v) (h:TB S x=f7 (n,ae)):∃a ks,v= .ref a/\j[n]? =f7 a/\H a=f7 (.dK ks)/\KX K j H ae ks:=by
 obtain⟨rfl,hs⟩:=zaz h;obtain⟨a,rfl,hj⟩:=hx.ref_inv;obtain⟨ks,e1,e2⟩:=E1.cel _ _ _ hs hj;exact⟨a,ks,rfl,hj,e1,e2⟩
theorem zmA {p:Nat×List (Key×Xv)} (h:TB S x=f7 p):zi8 S x=f7 p:=by
 obtain⟨n,ae⟩:=p;obtain⟨rfl,e⟩:=zaz h;unfold zi8;dsimp only;rw[e]
theorem En.dr {n:Nat} {ae:List (Key×Xv)} (E1:En K F j H σ ρ S) (hx:Xis K j H x v) (h:zi8 S x=f7 (n,ae)):∃a ks,v= .ref a/\j[n]? =f7 a/\Rd H a (.dK ks)/\KX K j H ae ks:=by
 cases x<;>simp only[zi8,reduceCtorEq] at h
 obtain⟨a,rfl,hj⟩:=hx.ref_inv;split at h
 .rename_i hs;cases h;obtain⟨ks,e1,e2⟩:=E1.cel _ _ _ hs hj;exact⟨a,ks,rfl,hj,.inl e1,e2⟩
 .rename_i hs;cases h;obtain⟨o,ks,e1,e2⟩:=E1.cel _ _ _ hs hj;exact⟨a,ks,rfl,hj,.inr ⟨o,e1⟩,e2⟩
 .cases h
theorem zav.r {a:Addr} {ae:List (Key×V)} {k:Key} (e:Rd H a (.dK ae)):zav H a (kV k) (Vd ae k):= .inl ⟨ae,k,e,rfl,rfl⟩
theorem KX.len {ae:List (κ×Xv)} {ks:List (κ×V)} (h:KX K j H ae ks):ks.length=ae.length:=by
 induction h with
 |nil=>exact rfl
 |cons h _ ih=>exact congrArg (· +1) ih
theorem KX.val [DecidableEq κ] {k:κ} {ae:List (κ×Xv)} {ks:List (κ×V)} (h:KX K j H ae ks):(∀y,wA ae k=f7 y->∃w,Vd ks k=f7 w/\Xis K j H y w)/\(wA ae k=gC->Vd ks k=gC):=by
 induction h with
 |nil=>exact⟨λ_ e=>by simp[wA] at e,λ_=>rfl⟩
 | @cons k1 y1 w1 r rs h l ih=>
  obtain⟨i1,i2⟩:=ih;by_cases e:k1=k
  .subst e;refine⟨λy ey=> ?_,λey=> ?_⟩
   .simp[wA] at ey;subst ey;exact⟨w1,by simp[Vd],h⟩
   .simp[wA] at ey
  .have e1:wA ((k1,y1)::r) k=wA r k:=by simp[wA,uL,e]
   have e2:Vd ((k1,w1)::rs) k=Vd rs k:=by simp[Vd,uL,e]
   rw[e1,e2];exact⟨i1,i2⟩
theorem KX.append {ae r:List (κ×Xv)} {ks rs:List (κ×V)} (h:KX K j H ae ks) (g:KX K j H r rs):KX K j H (ae++r) (ks++rs):=by
 induction h with
 |nil=>exact g
 |cons h _ ih=>exact .cons h ih
theorem KX.any {f:κ->Bool} {ae:List (κ×Xv)} {ks:List (κ×V)} (h:KX K j H ae ks):(ks.any λp=>f p.1)=ae.any λp=>f p.1:=by
 induction h with
 |nil=>rfl
 |cons h _ ih=>rw[Ap,Ap,ih]
theorem KX.put [DecidableEq κ] {k:κ} (hx:Xis K j H x v) {ae:List (κ×Xv)} {ks:List (κ×V)} (h:KX K j H ae ks):KX K j H (zbX ae k x) (zau ks k v):=by
 unfold zbX zau;rw[h.any (f:=λa=>decide (a=k))];split
 .rename_i hc;clear hc
  induction h with
  |nil=>exact .nil
  | @cons k1 y w r rs h l ih=>
   rw[uE,uE];by_cases e:k1=k
   .rw[if_pos e,if_pos e];exact .cons hx ih
   .rw[if_neg e,if_neg e];exact .cons h ih
 .exact h.append (.cons hx .nil)
theorem En.wdk {n:Nat} {ae kvs':List (Key×Xv)} {ws:List (Key×V)} {a:Addr} (E1:En K F j H σ ρ S) (h:TB S x=f7 (n,ae)) (hj:j[n]? =f7 a) (hw:KX K j H kvs' ws):En K F j (upd H a (.dK ws)) σ ρ (S.set n (.dk kvs'))/\Ext j H j (upd H a (.dK ws)):=
 E1.write (zaz h).2 rfl hj rfl λX=>⟨ws,zJ,hw.mono X⟩
noncomputable def zaA:TwE:=λ_ S=>f7 (.ok (.ref S.length) (S++[.dk []]))
theorem zed:RE K E zjW zaA:=by
 intro F j σ H ρ S r Q En0 e k p hp;cases e;have X:Ext j H (j++[p]) (upd H p (.dK [])):=⟨λn a e=>by rw[uc (u9.1 e).1];exact e,wQ.same (vz hp)⟩;obtain⟨E1,_⟩:=En0.cell (o:= .dK []) (c:= .dk []) hp ⟨[],zJ,.nil⟩;exact k _ _ X E1 _ (.ref (by rw[<-En0.jl];simp))
def zh8 (d k:TwE):TwE:=λρ S=>rb (d ρ S) λx S1=>rb (k ρ S1) λy S2=>match zi8 S2 x,Tz y with
 |some (_,ae),f7 key=>(wA ae key).map λz=> .ok z S2
 |_,_=>gC
theorem zmB {td ty:TE} {d k:TwE} (hd:RE K E td d) (hk:RE K E ty k):RE K E (znE td ty) (zh8 d k):=by
 intro F j σ H ρ S r Q En0 e kk;rcases zu e with⟨x,S1,e1,e⟩|⟨c,S1,e1,rfl⟩
 .refine hd En0 e1 λj1 H1 X1 E1 u hu=> ?_;rcases zu e with⟨y,S2,e2,e⟩|⟨c,S2,e2,rfl⟩
  .refine hk E1 e2 λj2 H2 X2 E2 w hw=> ?_;split at e
   .rename_i n ae key ed ek;cases ev:wA ae key with
    |none=>rw[ev] at e;cases e
    |some z=>
     rw[ev] at e;cases e;obtain⟨a,ks,rfl,hj,f1,f2⟩:=E2.dr (hu.mono X2) ed;obtain⟨z',g1,g2⟩:=f2.val.1 _ ev;refine⟨a,z',rfl,?_,kk _ _ (X1.trans X2) E2 _ g2⟩;rw[TC hw ek,<-g1];exact zav.r f1
   .cases e
  .exact hk E1 e2 (PX.mono kk X1)
 .exact hd En0 e1 kk
def zoH (neg:Bool) (k d:TwE):TwE:=λρ S=>rb (k ρ S) λy S1=>rb (d ρ S1) λx S2=>match TB S2 x,Tz y with
 |some (_,ae),f7 key=>f7 (.ok (.bl (neg !=(wA ae key).isSome)) S2)
 |_,_=>gC
theorem TD {a:Addr} {ks:List (Key×V)} {ae:List (Key×Xv)} {key:Key} (f1:H a=f7 (.dK ks)) (f2:KX K j H ae ks):∃o,zav H a (kV key) o/\o.isSome=(wA ae key).isSome/\∀z zd,Xis K j H z zd->Xis K j H ((wA ae key).getD z) (o.getD zd):=by
 refine⟨_,zav.k f1,?_,λz zd hz=> ?_⟩
 .cases ev:wA ae key with
  |none=>rw[f2.val.2 ev];rfl
  |some y=>obtain⟨w,g1,_⟩:=f2.val.1 _ ev;rw[g1];rfl
 .cases ev:wA ae key with
  |none=>rw[f2.val.2 ev];exact hz
  |some y=>obtain⟨w,g1,g2⟩:=f2.val.1 _ ev;rw[g1];exact g2
theorem zi9 {td ty:TE} {d k:TwE} (hk:RE K E ty k) (hd:RE K E td d):RE K E (zhR ty td) (zoH ia k d):=by
 intro F j σ H ρ S r Q En0 e kk;rcases zu e with⟨y,S1,e1,e⟩|⟨c,S1,e1,rfl⟩
 .refine hk En0 e1 λj1 H1 X1 E1 u hu=> ?_;rcases zu e with⟨x,S2,e2,e⟩|⟨c,S2,e2,rfl⟩
  .refine hd E1 e2 λj2 H2 X2 E2 w hw=> ?_;split at e
   .rename_i n ae key ed ek;cases e;obtain⟨a,ks,rfl,hj,f1,f2⟩:=E2.dk hw ed;obtain⟨o,g1,g2,_⟩:=TD (key:=key) f1 f2;refine⟨a,o,rfl,by rw[TC (hu.mono X2) ek];exact g1,kk _ _ (X1.trans X2) E2 _ ?_⟩;rw[g2,Bool.true_bne];exact .bl _
   .cases e
  .exact hd E1 e2 (PX.mono kk X1)
 .exact hk En0 e1 kk
def zg1 (d k v:TwE):TwS:=λρ S=>sb (v ρ S) λz S1=>sb (d ρ S1) λx S2=>sb (k ρ S2) λy S3=>match TB S3 x,Tz y with
 |some (n,ae),f7 key=>if ae.length<sizeLine then f7 (.nx ρ (S3.set n (.dk (zbX ae key z)))) else gC
 |_,_=>gC
theorem zmC {td ty tv:TE} {d k v:TwE} (hd:RE K E td d) (hk:RE K E ty k) (hv:RE K E tv v):RS K E (znF td ty tv) (zg1 d k v):=by
 intro F j D' σ H ρ S fl E0 e kk;rcases xo e with⟨z,S1,e1,e⟩|⟨c,S1,e1,rfl⟩
 .refine hv E0 e1 λj1 H1 X1 E1 wz nz=> ?_;rcases xo e with⟨x,S2,e2,e⟩|⟨c,S2,e2,rfl⟩
  .refine hd E1 e2 λj2 H2 X2 E2 u hu=> ?_;rcases xo e with⟨y,S3,e3,e⟩|⟨c,S3,e3,rfl⟩
   .refine hk E2 e3 λj3 H3 X3 E3 w hw=> ?_;split at e
    .rename_i n ae key ed ek;split at e
     .rename_i hl;cases e;obtain⟨a,ks,rfl,hj,f1,f2⟩:=E3.dk (hu.mono X3) ed;obtain⟨E4,X4⟩:=E3.wdk ed hj (f2.put (k:=key) (nz.mono (X2.trans X3)));refine⟨a,_,rfl,?_,kk _ _ _ (X1.trans (X2.trans (X3.trans X4))) E4⟩;rw[TC hw ek];exact zgC.k f1 (by rw[f2.len];exact hl)
     .cases e
    .cases e
   .exact hk E2 e3 (PX.mono kk (X1.trans X2))
  .exact hd E1 e2 (PX.mono kk X1)
 .exact hv E0 e1 kk
end
open PySem.Builtin.Int (intBits)
def W {α:Type} (r:Option (Rs α)) (P:α->Sto->Prop):Prop:=∃a S,r=f7 (.ok a S)/\P a S
def WO (r:Option (Xv×Sto)) (P:Xv->Sto->Prop):Prop:=∃a S,r=f7 (a,S)/\P a S
def WS (r:Option Fl) (N:Rho->Sto->Prop) (R:Xv->Sto->Prop):Prop:=(∃ρ S,r=f7 (.nx ρ S)/\N ρ S)\/∃x S,r=f7 (.rt x S)/\R x S
section
variable {ρ:Rho} {S S':Sto} {d x y:Xv} {a b m o:TwE} {c:TwT} {s t:TwS} {i k:Nat} {P:Xv->Sto->Prop} {PB:Bool->Sto->Prop} {PL:List Xv->Sto->Prop} {PO:Option Int->Sto->Prop} {N:Rho->Sto->Prop} {R:Xv->Sto->Prop}
theorem W.of {α:Type} {r:Option (Rs α)} {a:α} {P:α->Sto->Prop} (e:r=f7 (.ok a S)) (h:P a S):W r P:=⟨a,S,e,h⟩
theorem WO.of {r:Option (Xv×Sto)} (e:r=f7 (x,S)) (h:P x S):WO r P:=⟨x,S,e,h⟩
theorem W.imp {α:Type} {r:Option (Rs α)} {P Q:α->Sto->Prop} (h:W r P) (k:∀a S,P a S->Q a S):W r Q:=by
 obtain⟨a,S,e,h⟩:=h;exact⟨a,S,e,k _ _ h⟩
theorem WS.nx {r:Option Fl} (e:r=f7 (.nx ρ S)) (h:N ρ S):WS r N R:= .inl ⟨ρ,S,e,h⟩
theorem WS.rt {r:Option Fl} (e:r=f7 (.rt x S)) (h:R x S):WS r N R:= .inr ⟨x,S,e,h⟩
theorem W.bind {α β:Type} {r:Option (Rs α)} {f:α->Sto->Option (Rs β)} {P:β->Sto->Prop} (h:W r λa S=>W (f a S) P):W (rb r f) P:=by
 obtain⟨a,S,rfl,h⟩:=h;exact h
theorem WS.bind {α:Type} {r:Option (Rs α)} {f:α->Sto->Option Fl} (h:W r λa S=>WS (f a S) N R):WS (sb r f) N R:=by
 obtain⟨a,S,rfl,h⟩:=h;exact h
theorem W.okP {r:Option (Xv×Sto)} (h:WO r P):W (okP r) P:=by
 obtain⟨a,S,rfl,h⟩:=h;exact⟨a,S,rfl,h⟩
theorem zj (h:ρ[i]? =f7 (f7 d)) (k:P d S):W (za i ρ S) P:= .of (by unfold za;rw[h]) k
theorem za3 (k:P d S):W (eC d ρ S) P:= .of rfl k
theorem ym {f:Op2} (h:W (a ρ S) λx S1=>W (b ρ S1) λy S2=>WO (f x y S2) P):W (eOp f a b ρ S) P:=W.bind (h.imp λ_ _ h=>W.bind (h.imp λ_ _ h=>W.okP h))
theorem zkW {f:Xv->Sto->Option (Xv×Sto)} (h:W (a ρ S) λx S1=>WO (f x S1) P):W (eUn f a ρ S) P:=W.bind (h.imp λ_ _ h=>W.okP h)
theorem vr (h:W (a ρ S) λx S1=>∃v,x= .bl v/\PB v S1):W (bE a ρ S) PB:=W.bind (h.imp λx S1 h=>by obtain⟨v,rfl,k⟩:=h;exact .of rfl k)
theorem zp9 (h:W (c ρ S) λv S1=>P (.bl v) S1):W (eB c ρ S) P:=W.bind (h.imp λ_ _ k=> .of rfl k)
theorem zee (h:W (c ρ S) λv S1=>PB (!v) S1):W (Tp c ρ S) PB:=W.bind (h.imp λ_ _ k=> .of rfl k)
theorem UP {c2:TwT} (h:W (c ρ S) λv S1=>(v=ia->W (c2 ρ S1) PB)/\(v=kb->PB kb S1)):W (ziW c c2 ρ S) PB:=W.bind (h.imp λv S1 k=>by
 cases v with
 |true=>rw[if_pos rfl];exact k.1 rfl
 |false=>exact .of rfl (k.2 rfl))
theorem zdj {c2:TwT} (h:W (c ρ S) λv S1=>(v=ia->PB ia S1)/\(v=kb->W (c2 ρ S1) PB)):W (bOr c c2 ρ S) PB:=W.bind (h.imp λv S1 k=>by
 cases v with
 |true=>exact .of rfl (k.1 rfl)
 |false=>rw[if_neg (by simp)];exact k.2 rfl)
theorem zbg (h:W (a ρ S) λx S1=>∃v,x= .bl v/\(v=ia->W (b ρ S1) P)/\(v=kb->P (.bl kb) S1)):W (ziX a b ρ S) P:=W.bind ((vr h).imp λv S1 k=>by
 cases v with
 |true=>rw[if_pos rfl];exact k.1 rfl
 |false=>exact .of rfl (k.2 rfl))
theorem Vv (h:W (c ρ S) λv S1=>(v=ia->W (a ρ S1) P)/\(v=kb->W (b ρ S1) P)):W (eIf c a b ρ S) P:=W.bind (h.imp λv S1 k=>by
 cases v with
 |true=>rw[if_pos rfl];exact k.1 rfl
 |false=>rw[if_neg (by simp)];exact k.2 rfl)
theorem yI (k:PL [] S):W (evL [] ρ S) PL:= .of rfl k
theorem zg {ms:List TwE} (h:W (m ρ S) λd S1=>W (evL ms ρ S1) λds S2=>PL (d::ds) S2):W (evL (m::ms) ρ S) PL:=W.bind (h.imp λ_ _ h=>W.bind (h.imp λ_ _ k=> .of rfl k))
theorem Xo {ms:List TwE} (h:W (evL ms ρ S) λds S1=>P (.tup ds) S1):W (yz ms ρ S) P:=W.bind (h.imp λ_ _ k=> .of rfl k)
theorem zef {ms:List TwE} (h:W (evL ms ρ S) λds S1=>P (.ref S1.length) (S1++[.lst ds])):W (zbJ ms ρ S) P:=W.bind (h.imp λ_ _ k=> .of rfl k)
theorem xX {f:Opn} {ms:List TwE} (h:W (evL ms ρ S) λds S1=>WO (f ds S1) P):W (eFn f ms ρ S) P:=W.bind (h.imp λ_ _ h=>W.okP h)
theorem yl {tw:TwF} {ms:List TwE} (h:W (evL ms ρ S) λds S1=>W (tw ds S1) P):W (zD tw ms ρ S) P:=W.bind h
theorem zoI (k:PO gC S):W (oNo ρ S) PO:= .of rfl k
theorem zkX (h:W (m ρ S) λx S1=>∃k,x= .int k/\PO (f7 k) S1):W (WU m ρ S) PO:=W.bind (h.imp λx S1 h=>by obtain⟨v,rfl,k⟩:=h;exact .of rfl k)
theorem zkY {f:Xv->Option Int->Option Int->Sto->Option (Xv×Sto)} {lo hi:TwO} (h:W (m ρ S) λx S1=>W (lo ρ S1) λu S2=>W (hi ρ S2) λv S3=>WO (f x u v S3) P):W (eSl f m lo hi ρ S) P:=
 W.bind (h.imp λ_ _ h=>W.bind (h.imp λ_ _ h=>W.bind (h.imp λ_ _ h=>W.okP h)))
theorem zbY {f:OpM} {ms:List TwE} (h:W (o ρ S) λx S1=>(∃l,yx S1 x=f7 l)/\W (evL ms ρ S1) λys S2=>WO (f x ys S2) P):W (eMt f o ms ρ S) P:=W.bind (h.imp λx S1 h=>by
 obtain⟨⟨l,e⟩,h⟩:=h;rw[e,uz]
 exact W.bind (h.imp λ_ _ h=>W.okP h))
theorem zkZ (k:P (.ref S.length) (S++[.dk []])):W (zaA ρ S) P:= .of rfl k
theorem zk0 (h:W (a ρ S) λx S1=>W (b ρ S1) λy S2=>∃n ae k z,zi8 S2 x=f7 (n,ae)/\Tz y=f7 k/\wA ae k=f7 z/\P z S2):W (zh8 a b ρ S) P:=
 W.bind (h.imp λ_ _ h=>W.bind (h.imp λ_ _ h=>by obtain⟨n,ae,k,z,e1,e2,e3,q⟩:=h;rw[e1,e2];dsimp only;rw[e3];exact .of rfl q))
theorem zmD (h:W (a ρ S) λx S1=>W (b ρ S1) λy S2=>∃n ae k z,TB S2 x=f7 (n,ae)/\Tz y=f7 k/\wA ae k=f7 z/\P z S2):W (zh8 a b ρ S) P:=zk0 (h.imp λ_ _ h=>h.imp λ_ _ ⟨n,ae,k,z,e,r⟩=>⟨n,ae,k,z,zmA e,r⟩)
theorem zoJ {neg:Bool} (h:W (a ρ S) λy S1=>W (b ρ S1) λx S2=>∃n ae k,TB S2 x=f7 (n,ae)/\Tz y=f7 k/\P (.bl (neg !=(wA ae k).isSome)) S2):W (zoH neg a b ρ S) P:=
 W.bind (h.imp λ_ _ h=>W.bind (h.imp λ_ _ h=>by obtain⟨n,ae,k,e1,e2,q⟩:=h;rw[e1,e2];exact .of rfl q))
theorem zmE (h:W (m ρ S) λz S1=>W (a ρ S1) λx S2=>W (b ρ S2) λy S3=>∃n ae k,TB S3 x=f7 (n,ae)/\Tz y=f7 k/\ae.length<sizeLine/\N ρ (S3.set n (.dk (zbX ae k z)))):WS (zg1 a b m ρ S) N R:=
 WS.bind (h.imp λ_ _ h=>WS.bind (h.imp λ_ _ h=>WS.bind (h.imp λ_ _ h=>by obtain⟨n,ae,k,e1,e2,e3,q⟩:=h;rw[e1,e2];dsimp only;rw[if_pos e3];exact .nx rfl q)))
theorem zh (h:WS (s ρ S) (λρ1 S1=>WS (t ρ1 S1) N R) R):WS (zq s t ρ S) N R:=by
 unfold zq;rcases h with⟨ρ1,S1,e,h⟩|⟨x,S1,e,h⟩
 .rw[e];exact h
 .rw[e];exact .rt rfl h
theorem zo (h:N ρ S):WS (zN ρ S) N R:= .nx rfl h
theorem yd (h:W (m ρ S) λd S1=>N (ρ.set i (f7 d)) S1):WS (zH m (gN i) ρ S) N R:=WS.bind (h.imp λ_ _ k=> .nx rfl k)
theorem zbZ (h:W (m ρ S) λd S1=>W (a ρ S1) λx S2=>W (b ρ S2) λy S3=>∃n l q j,UM S3 x=f7 (n,l)/\y= .int q/\ixN l.length q=f7 j/\N ρ (S3.set n (.lst (l.set j d)))):WS (zH m (zbP a b) ρ S) N R:=
 WS.bind (h.imp λd S1 h=>WS.bind (W.bind (h.imp λx S2 h=>W.bind (h.imp λy S3 h=>by
  obtain⟨n,l,q,j,e1,rfl,e2,k⟩:=h;rw[e1];dsimp only;rw[e2]
  exact .of rfl (.nx rfl k)))))
theorem zbh (h:W (m ρ S) λ_ S1=>N ρ S1):WS (zbN m ρ S) N R:=WS.bind (h.imp λ_ _ k=> .nx rfl k)
theorem yk (h:W (m ρ S) λd S1=>R d S1):WS (zO m ρ S) N R:=WS.bind (h.imp λ_ _ k=> .rt rfl k)
theorem zF (h:W (c ρ S) λv S1=>(v=ia->WS (s ρ S1) N R)/\(v=kb->WS (t ρ S1) N R)):WS (sIf c s t ρ S) N R:=WS.bind (h.imp λv S1 k=>by
 cases v with
 |true=>rw[if_pos rfl];exact k.1 rfl
 |false=>rw[if_neg (by simp)];exact k.2 rfl)
theorem UQ {r:Option Fl} (I:Rho->Sto->Prop) (h:WS r I R) (k:∀ρ S,I ρ S->N ρ S):WS r N R:=by
 rcases h with⟨ρ,S,e,h⟩|h
 .exact .inl ⟨ρ,S,e,k ρ S h⟩
 .exact .inr h
theorem znK {n:Nat} (h:WS (zbO c s n ρ S) N R):WS (sWh n c s ρ S) N R:=h
theorem zeg {n:Nat} (h:W (c ρ S) λv S1=>(v=ia->WS (s ρ S1) (λρ2 S2=>WS (zbO c s n ρ2 S2) N R) R)/\(v=kb->N ρ S1)):WS (zbO c s (n+1) ρ S) N R:=by
 unfold zbO;refine WS.bind (h.imp λv S1 k=> ?_);cases v with
 |true=>
  rw[if_pos rfl];rcases k.1 rfl with⟨ρ2,S2,e2,h⟩|⟨x,S2,e2,h⟩
  .rw[e2];exact h
  .rw[e2];exact .rt rfl h
 |false=>exact .nx rfl (k.2 rfl)
theorem vj {n:TwI} {g:TwG} (h:W (n ρ S) λget S1=>∃xs,get S1=f7 xs/\WS (Uz get g s (xs.length+1) 0 ρ S1) N R):WS (Ws n g s ρ S) N R:=WS.bind (h.imp λget S1 h=>by
 obtain⟨xs,e,h⟩:=h;rw[e,uz]
 exact h)
theorem xT {get:Sto->Option (List Xv)} {g:TwG} {xs:List Xv} (J:Nat->Rho->Sto->Prop) (hg:∀i ρ S,i<=xs.length->J i ρ S->get S=f7 xs)
  (h:∀(i:Nat) (x:Xv) ρ S,xs[i]? =f7 x->J i ρ S->W (g x ρ S) λρ1 S1=>WS (s ρ1 S1) (λρ2 S2=>J (i+1) ρ2 S2) R) (h0:J 0 ρ S) (k:∀ρ S,J xs.length ρ S->N ρ S):WS (Uz get g s (xs.length+1) 0 ρ S) N R:=by
 have aux:∀(n i:Nat) (ρ:Rho) (S:Sto),i+n=xs.length->J i ρ S->WS (Uz get g s (n+1) i ρ S) N R:=by
  intro n
  induction n with
  |zero=>
   intro i ρ S e hj;unfold Uz;rw[hg i ρ S ⋯ hj,uz,uA ⋯];dsimp only;rw[if_pos ⋯];exact .nx rfl (k ρ S (by rw[show xs.length=i by omega];exact hj))
  |succ n ih=>
   intro i ρ S e hj;unfold Uz;have hi:i<xs.length:=by omega
   rw[hg i ρ S ⋯ hj,uz,u6 hi];refine WS.bind ((h i _ ρ S (u6 hi) hj).imp λρ1 S1 h1=> ?_);rcases h1 with⟨ρ2,S2,e2,h2⟩|⟨x,S2,e2,h2⟩
   .rw[e2];exact ih (i+1) ρ2 S2 ⋯ h2
   .rw[e2];exact .rt rfl h2
 exact aux xs.length 0 ρ S ⋯ h0
theorem zdk (h:W (m ρ S) λx S1=>∃l,yx S1 x=f7 l/\Q' (λS=>yx S x) S1):W (iL m ρ S) Q':=W.bind (h.imp λx S1 h=>by
 obtain⟨l,e,k⟩:=h;rw[e]
 exact .of rfl k)
theorem TH {Q':(Sto->Option (List Xv))->Sto->Prop} (h:W (m ρ S) λx S1=>∃l,x.tupOf=f7 l/\Q' (λ_=>f7 l) S1):W (iT m ρ S) Q':=W.bind (h.imp λx S1 h=>by
 obtain⟨l,e,k⟩:=h;rw[e]
 exact .of rfl k)
theorem wU {Q':(Sto->Option (List Xv))->Sto->Prop} (h:W (m ρ S) λx S1=>∃k:Int,x= .int k/\(-(2^62)<=k/\k<2^62)/\Q' (λ_=>f7 (xL 0 k.toNat)) S1):W (iR1 m ρ S) Q':=W.bind (h.imp λx S1 h=>by
 obtain⟨k,rfl,hk,q⟩:=h;dsimp only;rw[if_pos hk]
 exact .of rfl q)
theorem xk {lo:Int} {n i:Nat} {x:Xv} (h:(xL lo n)[i]? =f7 x):i<n/\x= .int (lo+i):=by
 unfold xL at h;rw[uf] at h;have hi:i<n:=by
  apply Ai;intro hn;rw[uA (by simp;omega)] at h;cases h
 rw[Ba hi] at h;cases h;exact⟨hi,rfl⟩
theorem zY {lo:Int} {n:Nat}:(xL lo n).length=n:=by simp[xL]
theorem xp {cap:List (Option Nat)} {n:TwI} {g:TwG} (h:W (n ρ S) λget S1=>∃xs,get S1=f7 xs/\W (Yl get g c m (xM cap ρ) (xs.length+1) 0 [] S1) P):W (xh cap n g c m ρ S) P:=W.bind (h.imp λget S1 h=>by
 obtain⟨xs,e,h⟩:=h;rw[e,uz]
 exact h)
theorem yQ {get:Sto->Option (List Xv)} {g:TwG} {ρc:Rho} {xs:List Xv} (hl:xs.length<=sizeLine) (J:Nat->List Xv->Sto->Prop) (hg:∀i es S,i<=xs.length->J i es S->get S=f7 xs)
  (h:∀(i:Nat) (x:Xv) es S,xs[i]? =f7 x->es.length=i->J i es S->W (g x ρc S) λρ1 S1=>W (c ρ1 S1) λb S2=>b=ia/\W (m ρ1 S2) λy S3=>J (i+1) (es++[y]) S3) (h0:J 0 [] S)
  (k:∀es S,es.length=xs.length->J xs.length es S->P (.ref S.length) (S++[.lst es])):W (Yl get g c m ρc (xs.length+1) 0 [] S) P:=by
 have aux:∀(n i:Nat) (es:List Xv) (S:Sto),i+n=xs.length->es.length=i->J i es S->W (Yl get g c m ρc (n+1) i es S) P:=by
  intro n
  induction n with
  |zero=>
   intro i es S e el hj;unfold Yl;rw[hg i es S ⋯ hj,uz,uA ⋯];dsimp only;rw[if_pos ⋯];exact .of rfl (k es S ⋯ (by rw[show xs.length=i by omega];exact hj))
  |succ n ih=>
   intro i es S e el hj;unfold Yl;have hi:i<xs.length:=by omega
   rw[hg i es S ⋯ hj,uz,u6 hi];obtain⟨ρ1,S1,e1,b,S2,e2,rfl,y,S3,e3,q⟩:=h i _ es S (u6 hi) el hj;dsimp only[rn];rw[e1];dsimp only[rn];rw[e2];dsimp only[rn];rw[if_pos rfl,e3];dsimp only[rn];rw[if_pos ⋯];exact ih (i+1) (es++[y]) S3 ⋯ (by simp[el]) q
 exact aux xs.length 0 [] S ⋯ rfl h0
theorem zmF (k:PB ia S):W (yY ρ S) PB:= .of rfl k
theorem zoK {n k:Nat} {xs:List Xv} {ρ0:Rho} (hn:xs.length=n) (h0:xs.map f7++uJ k gC=ρ0) (h:WS (s ρ0 S) (λ_ S1=>P .non S1) P):W (zK n k s xs S) P:=by
 unfold zK;rw[if_pos hn,h0];rcases h with⟨ρ,S1,e,h⟩|⟨x,S1,e,h⟩
 .rw[e];exact .of rfl h
 .rw[e];exact .of rfl h
variable {p q:Int}
theorem zoL (k:P (.int (p+q)) S):WO (YK (.int p) (.int q) S) P:= .of rfl k
theorem zoM (k:P (.int (p-q)) S):WO (zkJ (.int p) (.int q) S) P:= .of rfl k
theorem zoN (k:P (.int (-p)) S):WO (zi5 (.int p) S) P:= .of rfl k
theorem zqa (k:P (.bl (decide (p<q))) S):WO (dLt (.int p) (.int q) S) P:= .of rfl k
theorem zqb (k:P (.bl (decide (q<p))) S):WO (dGt (.int p) (.int q) S) P:= .of rfl k
theorem zqc (k:P (.bl (decide (q<=p))) S):WO (dGe (.int p) (.int q) S) P:= .of rfl k
theorem zoO (k:P (.bl (decide (p=q))) S):WO (ZR (.int p) (.int q) S) P:= .of rfl k
theorem zoP (k:P (.bl (!decide (p=q))) S):WO (zi4 (.int p) (.int q) S) P:= .of rfl k
theorem Yo (h:0<q) (k:P (.int (p % q)) S):WO (Vt (.int p) (.int q) S) P:= .of (by unfold Vt xIC;exact if_pos (by simpa using h)) k
theorem Up (h:intBits p+intBits q<=134217728) (k:P (.int (p*q)) S):WO (Tt (.int p) (.int q) S) P:= .of (by unfold Tt xIC;exact if_pos (by simpa using h)) k
theorem zoQ (h:(-(2^64)<p/\p<2^64)\/(-(2^64)<q/\q<2^64)) (k:P (.int (p*q)) S):WO (zmw (.int p) (.int q) S) P:= .of (by unfold zmw xIC;exact if_pos (decide_eq_true h)) k
theorem zoR (h:0<=q/\q<=1000000/\p.natAbs<2^64) (k:P (.int (p^q.toNat)) S):WO (zi3 (.int p) (.int q) S) P:= .of (by unfold zi3 xIC;exact if_pos (decide_eq_true h)) k
theorem zeh (h:0<q/\q<1073741824) (k:P (.int (p / q)) S):WO (zaT (.int p) (.int q) S) P:= .of (by unfold zaT xIC;exact if_pos (decide_eq_true h)) k
theorem zb0 (h:q≠0/\intBits q<=9000) (k:P (.int (p.fdiv q)) S):WO (zay (.int p) (.int q) S) P:= .of (by unfold zay xIC;exact if_pos (decide_eq_true h)) k
theorem zoS (k:P (.int (if q<p then q else p)) S):WO (zoE [.int p,.int q] S) P:= .of rfl k
theorem zoT (k:P (.int (if q>p then q else p)) S):WO (zoF [.int p,.int q] S) P:= .of rfl k
theorem zg2 {l:List Xv} (h:yx S x=f7 l) (k:P (.int l.length) S):WO (wT [x] S) P:= .of (by
 unfold wT ZK;dsimp only;have:x.tupOf=gC:=by cases x<;>first|rfl|cases h
 rw[this];dsimp only;rw[h]
 rfl) k
theorem xU {l:List Xv} {z:Xv} (h:yx S x=f7 l) (e:atI l p=f7 z) (k:P z S):WO (Yk x (.int p) S) P:= .of (by unfold Yk;rw[h];dsimp only;rw[e];rfl) k
theorem yh {l:List Xv} {z:Xv} (h:x.tupOf=f7 l) (e:atI l p=f7 z) (k:P z S):WO (zM x (.int p) S) P:= .of (by unfold zM;rw[h];dsimp only;rw[e];rfl) k
theorem zh9 {β:Type} {x:β} {l:List β}:atI (x::l) 0=f7 x:=by
 unfold atI ixN;rw[if_pos (show (0:Int)<=0 by decide),if_pos (by simp only[ux];omega)];rfl
theorem zfw {β:Type} {x y:β} {l:List β}:atI (x::y::l) 1=f7 y:=by
 unfold atI ixN;rw[if_pos (show (0:Int)<=1 by decide),if_pos (by simp only[ux];omega)];rfl
theorem zoU {l:List Xv} (k:P x S):WO (zM (.tup (x::l)) (.int 0) S) P:=yh rfl zh9 k
theorem zoV {l:List Xv} (k:P y S):WO (zM (.tup (x::y::l)) (.int 1) S) P:=yh rfl zfw k
theorem UR {β:Type} {l:List β} {k:Int} {z:β} (h0:0<=k) (h:l[k.toNat]? =f7 z):atI l k=f7 z:=by
 have hk:=(u9.1 h).1;unfold atI ixN;rw[if_pos h0,if_pos ⋯];exact h
theorem zaB {n:Nat} {l:List Xv} (h:UM S x=f7 (n,l)) (hz:l.length<sizeLine) (k:P .non (S.set n (.lst (l++[y])))):WO (Wr x [y] S) P:= .of (by unfold Wr;rw[h];dsimp only;rw[if_pos hz]) k
theorem zoW {l:List Xv} {lo hi:Option Int} (h:yx S x=f7 l) (k:P (.ref S.length) (S++[.lst (Tq l lo hi)])):WO (zgS x lo hi S) P:= .of (by unfold zgS;rw[h];rfl) k
theorem zqd {neg:Bool} {l:List Xv} (h:ZK S y=f7 l) (hf:(wn x&&l.all wn)=ia) (k:P (.bl (neg !=l.any λz=>zeb z x)) S):WO (dIn neg x y S) P:= .of (by unfold dIn;rw[h,uz,if_pos hf]) k
theorem vk {c:String} {v:Bool} (h:zkV c S x=f7 v) (k:P (.bl v) S):WO (UO c x S) P:= .of (by unfold UO;rw[h];rfl) k
end
theorem wc {S:Sto} {l:List Xv}:yx (S++[.lst l]) (.ref S.length)=f7 l:=by simp[yx]
theorem Zk {S:Sto} {n:Nat} {l:List Xv} (h:S[n]? =f7 (.lst l)):UM S (.ref n)=f7 (n,l):=by simp[UM,h]
theorem zG {S:Sto} {n:Nat} {l:List Xv} (h:S[n]? =f7 (.lst l)):yx S (.ref n)=f7 l:=by simp[yx,h]
theorem TJ {S:Sto} {n:Nat} {l:List (Key×Xv)} (h:S[n]? =f7 (.dk l)):TB S (.ref n)=f7 (n,l):=by simp[TB,h]
end L2
namespace L2
open PySem PySem.Spec PyProof.Rows PySem.Calls
section
variable {X:Cx}
end
section
variable {K:u5} {E:XK}
end
noncomputable def Uv (f:D->D->Option Bool):List D->List D->Option Bool
 |a::l,b::m=>(f a b).bind λx=>(Uv f l m).map (x&& ·)
 |_,_=>f7 ia
theorem Uq {f:D->D->Option Bool}:∀{l m:List D} {b:Bool},Uv f l m=f7 b->∃e:Nat->Bool,(∀(j:Nat) a c,l[j]? =f7 a->m[j]? =f7 c->f a c=f7 (e j))/\b=(v7 (min l.length m.length)).all e
 |[],m,b,h=>by
  unfold Uv at h;cases h;exact⟨λ_=>ia,λj a c ha=>by simp at ha,by simp⟩
 |a::l,[],b,h=>by
  unfold Uv at h;cases h;exact⟨λ_=>ia,λj a c ha hc=>by simp at hc,by simp⟩
 |a::l,c::m,b,h=>by
  unfold Uv at h;cases e1:f a c with
  |none=>rw[e1] at h;cases h
  |some x=>
   rw[e1,uz] at h;cases e2:Uv f l m with
   |none=>rw[e2] at h;cases h
   |some y=>
    rw[e2] at h;cases h;obtain⟨e,k,rfl⟩:=Uq e2
    refine⟨λj=>match j with
     |0=>x
     |j+1=>e j,λj p q hp hq=> ?_,?_⟩
    .cases j with
     |zero=>simp at hp hq;subst hp hq;exact e1
     |succ j=>exact k j p q (by simpa using hp) (by simpa using hq)
    .rw[ux,ux,Nat.succ_min_succ,List.range_succ_eq_map,B5,List.all_map];rfl
noncomputable def eqG:Nat->D->D->Option Bool
 |0,d,e=>match d,e with
  | .non,.non=>f7 ia
  | .bl a,.bl b=>f7 (a==b)
  | .int a,.int b=>f7 (a==b)
  | .str a,.str b=>f7 (a==b)
  |_,_=>gC
 |n+1,d,e=>match d,e with
  | .non,.non=>f7 ia
  | .bl a,.bl b=>f7 (a==b)
  | .int a,.int b=>f7 (a==b)
  | .str a,.str b=>f7 (a==b)
  | .tup l,.tup m=>(Uv (eqG n) l m).map (· &&(l.length==m.length))
  | .lst l,.lst m=>if l.length=m.length then Uv (eqG n) l m else f7 kb
  |_,_=>gC
section
variable {X:Cx} {pins:List (Addr×Obj)} {σ:St} {H:Hp} {s:Shared}
theorem zja {n:Nat} {e:Nat->Bool} (h:∀j,j<n->e j=ia):(v7 n).all e=ia:=y8.2 λj hj=>h j (Af.1 hj)
theorem zk1 (I:Inv X pins σ H s):∀(n:Nat) {d e:D} {x:V} {b:Bool},eqG n d e=f7 b->Is X.K H x d->Is X.K H x e->b=ia:=by
 intro n
 induction n with
 |zero=>
  intro d e x b h hx hy;unfold eqG at h;split at h
  .cases h;rfl
  .rw[hx.bl_inv] at hy;cases hy;cases h;simp
  .rw[hx.int_inv] at hy;cases hy;cases h;simp
  .rw[hx.str_inv] at hy;cases hy;cases h;simp
  .cases h
 |succ n ih=>
  intro d e x b h hx hy;unfold eqG at h;have items:∀{xs:List V} {l m:List D} {b:Bool},Uv (eqG n) l m=f7 b->IsL X.K H xs l->IsL X.K H xs m->b=ia:=λ{xs l m b} ha hl hm=>by
   obtain⟨e,k,rfl⟩:=Uq ha;refine zja λj hj=> ?_;have h1:j<l.length:=by omega
   have h2:j<m.length:=by omega
   obtain⟨x,ny,nu⟩:=hl.get (u6 h1);obtain⟨y,lX,nq⟩:=hm.get (u6 h2);rw[ny] at lX;cases lX;exact ih (k j _ _ (u6 h1) (u6 h2)) nu nq
  split at h
  .cases h;rfl
  .rw[hx.bl_inv] at hy;cases hy;cases h;simp
  .rw[hx.int_inv] at hy;cases hy;cases h;simp
  .rw[hx.str_inv] at hy;cases hy;cases h;simp
  .rename_i l m;cases ha:Uv (eqG n) l m with
   |none=>rw[ha] at h;cases h
   |some b'=>
    rw[ha] at h;cases h;obtain⟨a,xs,rfl,h1,h2⟩:=hx.tup_inv;obtain⟨a',ys,e,g1,g2⟩:=hy.tup_inv;cases e;obtain rfl:=I.tuple_inj h1 g1;rw[items ha h2 g2];have e3:=h2.len;have e4:=g2.len;simp;omega
  .rename_i l m;obtain⟨a,xs,rfl,h1,h2⟩:=hx.lst_inv;obtain⟨a',ys,e,g1,g2⟩:=hy.lst_inv;cases e;obtain rfl:=I.list_inj h1 g1;have e3:=h2.len;have e4:=g2.len;rw[if_pos ⋯] at h;exact items h h2 g2
  .cases h
theorem Ur {A:Around} {xs ys:List V} {ah c9:List Value} {l m:List D} {e:Nat->Bool} (rx:zZ xs ah) (ry:zZ ys c9) (hx:IsL X.K H xs l) (hy:IsL X.K H ys m)
  (k:∀{x y:V} {u v:Value} {d d':D} {j:Nat},l[j]? =f7 d->m[j]? =f7 d'->Is X.K H x d->Is X.K H y d'->zW x u->zW y v->SeqAt.EqAt A.in1 s u v (e j)):
  ∀j (h1:j<ah.toArray.size) (h2:j<c9.toArray.size),SeqAt.EqAt A.in1 s ah.toArray[j] c9.toArray[j] (e j):=by
 intro j h1 h2;have e1:j<xs.length:=by rw[rx.length];simpa using h1
 have e2:j<ys.length:=by rw[ry.length];simpa using h2
 have el:j<l.length:=by rw[<-hx.len];exact e1
 have em:j<m.length:=by rw[<-hy.len];exact e2
 obtain⟨x,ny,nu⟩:=hx.get (i:=j) (d:=l[j]) (u6 el);obtain⟨y,lX,nq⟩:=hy.get (i:=j) (d:=m[j]) (u6 em);obtain⟨u,hu,ru⟩:=rx.get ny;obtain⟨v,hv,rv⟩:=ry.get lX;have g1:ah.toArray[j]=u:=by
  have:ah[j]? =f7 ah[j]:=u6 (by simpa using h1);rw[hu] at this;simpa using (uK this).symm
 have g2:c9.toArray[j]=v:=by
  have:c9[j]? =f7 c9[j]:=u6 (by simpa using h2);rw[hv] at this;simpa using (uK this).symm
 rw[g1,g2];exact k (u6 el) (u6 em) nu nq ru rv
theorem zfx (I:Inv X pins σ H s):∀(n:Nat) {A:Around} {d d':D} {x y:V} {u v:Value} {b:Bool},eqG n d d'=f7 b->A.units+n<cLine->Is X.K H x d->Is X.K H y d'->zW x u->zW y v->SeqAt.EqAt A s u v b:=by
 intro n
 induction n with
 |zero=>
  intro A d d' x y u v b h hu hx hy ru rv;unfold eqG at h;split at h
  .cases h;rw[hx.non_inv] at ru;rw[hy.non_inv] at rv;cases ru;cases rv;exact SeqAt.EqAt.same _
  .cases h;rw[hx.bl_inv] at ru;rw[hy.bl_inv] at rv;cases ru;cases rv;exact SeqAt.EqAt.bool_bool _ _
  .cases h;rw[hx.int_inv] at ru;rw[hy.int_inv] at rv;obtain⟨t,rfl⟩:=ru;obtain⟨t',rfl⟩:=rv;exact SeqAt.EqAt.int_int _ _ _ _
  .cases h;rw[hx.str_inv] at ru;rw[hy.str_inv] at rv;obtain⟨t,rfl⟩:=ru;obtain⟨t',rfl⟩:=rv;exact SeqAt.EqAt.str_str _ _ _ _
  .cases h
 |succ n ih=>
  intro A d d' x y u v b h hu hx hy ru rv;have ju:=λ(e:x=y)=>zk1 I (n+1) h hx (e ▸ hy);unfold eqG at h;split at h
  .cases h;rw[hx.non_inv] at ru;rw[hy.non_inv] at rv;cases ru;cases rv;exact SeqAt.EqAt.same _
  .cases h;rw[hx.bl_inv] at ru;rw[hy.bl_inv] at rv;cases ru;cases rv;exact SeqAt.EqAt.bool_bool _ _
  .cases h;rw[hx.int_inv] at ru;rw[hy.int_inv] at rv;obtain⟨t,rfl⟩:=ru;obtain⟨t',rfl⟩:=rv;exact SeqAt.EqAt.int_int _ _ _ _
  .cases h;rw[hx.str_inv] at ru;rw[hy.str_inv] at rv;obtain⟨t,rfl⟩:=ru;obtain⟨t',rfl⟩:=rv;exact SeqAt.EqAt.str_str _ _ _ _
  .rename_i l m;cases ha:Uv (eqG n) l m with
   |none=>rw[ha] at h;cases h
   |some b'=>
    rw[ha] at h;cases h;obtain⟨e,k,rfl⟩:=Uq ha;obtain⟨a,xs,rfl,h1,h2⟩:=hx.tup_inv;obtain⟨a',ys,rfl,g1,g2⟩:=hy.tup_inv;cases ru;cases rv;by_cases gq:a=a'
    .subst gq;rw[ju rfl];exact SeqAt.EqAt.same _
    .obtain⟨ah,r1,p1,_⟩:=I.tuple h1;obtain⟨c9,r2,p2,_⟩:=I.tuple g1;refine SeqAt.EqAt.of_refs gq ?_;have:=SeqAt.RcAt.tuples (A:=A) (e:=e) p1 p2 ⋯ (Ur r1 r2 h2 g2 λhi hj hx hy ru rv=>ih (A:=A.in1) (k _ _ _ hi hj) (by show A.units+1+n<cLine;omega) hx hy ru rv);have s1:ah.toArray.size=l.length:=by have e1:=r1.length;have e3:=h2.len;simp;omega
     have s2:c9.toArray.size=m.length:=by have e1:=r2.length;have e3:=g2.len;simp;omega
     rwa [s1,s2] at this
  .rename_i l m;obtain⟨a,xs,rfl,h1,h2⟩:=hx.lst_inv;obtain⟨a',ys,rfl,g1,g2⟩:=hy.lst_inv;cases ru;cases rv;by_cases gq:a=a'
   .subst gq;rw[ju rfl];exact SeqAt.EqAt.same _
   .obtain⟨ah,r1,p1,_⟩:=I.list h1;obtain⟨c9,r2,p2,_⟩:=I.list g1;have s1:ah.toArray.size=l.length:=by have e1:=r1.length;have e3:=h2.len;simp;omega
    have s2:c9.toArray.size=m.length:=by have e1:=r2.length;have e3:=g2.len;simp;omega
    refine SeqAt.EqAt.of_refs gq ?_;split at h
    .rename_i kX;obtain⟨e,k,rfl⟩:=Uq h;have:=SeqAt.RcAt.lists (A:=A) (e:=e) p1.isList p2.isList ⋯ ⋯ (Ur r1 r2 h2 g2 λhi hj hx hy ru rv=>ih (A:=A.in1) (k _ _ _ hi hj) (by show A.units+1+n<cLine;omega) hx hy ru rv);rw[s1] at this;rwa [show min l.length m.length=l.length by omega]
    .rename_i kX;cases h;exact SeqAt.RcAt.lists_lengths p1.isList p2.isList (by rw[s1,s2];simpa using kX) ⋯
  .cases h
def zqe (K:u5) (neg:Bool):R2:=λx y H Q=>∃(d e:D) (b:Bool),(∃l m,(d= .tup l/\e= .tup m)\/(d= .lst l/\e= .lst m))/\Is K H x d/\Is K H y e/\eqG 40 d e=f7 b/\Q (.bl (neg !=b)) H
theorem zg3 {k:Nat} {K:u5} (hr:xS k X.A) (hK:X.K=K:=by rfl):OpR X (compareOp .Eq) (zqe K kb):=by
 subst hK;intro pins s σ H x y v u Q I rx ry h;obtain⟨d,e,b,⟨l,m,hd⟩,hx,hy,hb,q⟩:=h;have hu:X.A.units+41<cLine:=uP ⋯ hr.units;rw[show (kb !=b)=b by cases b<;>rfl] at q;unfold eqG at hb;rcases hd with⟨rfl,rfl⟩|⟨rfl,rfl⟩
 .dsimp only at hb;cases ha:Uv (eqG 39) l m with
  |none=>rw[ha] at hb;cases hb
  |some b'=>
   rw[ha] at hb;cases hb;obtain⟨e,k,rfl⟩:=Uq ha;obtain⟨a,xs,rfl,h1,h2⟩:=hx.tup_inv;obtain⟨a',ys,rfl,g1,g2⟩:=hy.tup_inv;cases rx;cases ry;obtain⟨ah,r1,p1,_⟩:=I.tuple h1;obtain⟨c9,r2,p2,_⟩:=I.tuple g1;have s1:ah.toArray.size=l.length:=by have e1:=r1.length;have e3:=h2.len;simp;omega
   have s2:c9.toArray.size=m.length:=by have e1:=r2.length;have e3:=g2.len;simp;omega
   refine SeqAt.eq_tupleAt (e:=e) p1 p2 ⋯ (Ur r1 r2 h2 g2 λhi hj hx hy ru rv=>zfx I 39 (A:=X.A.in1) (k _ _ _ hi hj) (by show X.A.units+1+39<cLine;omega) hx hy ru rv) ?_;rw[s1,s2];exact⟨.bl _,H,I,rfl,q⟩
 .dsimp only at hb;obtain⟨a,xs,rfl,h1,h2⟩:=hx.lst_inv;obtain⟨a',ys,rfl,g1,g2⟩:=hy.lst_inv;cases rx;cases ry;obtain⟨ah,r1,p1,_⟩:=I.list h1;obtain⟨c9,r2,p2,_⟩:=I.list g1;have s1:ah.toArray.size=l.length:=by have e1:=r1.length;have e3:=h2.len;simp;omega
  have s2:c9.toArray.size=m.length:=by have e1:=r2.length;have e3:=g2.len;simp;omega
  split at hb
  .rename_i kX;obtain⟨e,k,rfl⟩:=Uq hb;refine SeqAt.eq_listAt (e:=e) p1.isList p2.isList ⋯ ⋯ (Ur r1 r2 h2 g2 λhi hj hx hy ru rv=>zfx I 39 (A:=X.A.in1) (k _ _ _ hi hj) (by show X.A.units+1+39<cLine;omega) hx hy ru rv) ?_;rw[show min l.length m.length=l.length by omega] at q;rw[s1];exact⟨.bl _,H,I,rfl,q⟩
  .rename_i kX;cases hb;refine SeqAt.eq_list_lengthsAt p1.isList p2.isList (by rw[s1,s2];simpa using kX) ⋯ ?_;exact⟨.bl kb,H,I,rfl,q⟩
end
end L2
namespace L2
open PySem PySem.Spec PyProof.Rows PySem.Calls PySem.W
section
variable {cmp:Nat->Nat->(Bool->Shared->Prop)->Shared->Prop} {r:Nat->Int} {n:Nat} {s:Shared}
end
section
variable {prog:Program} {w:World} {A:Around} {E:Value->Shared->Prop} {s:Shared}
end
open PySem.AutoSeq1 (wpAny_loadPart')
open PySem.MeetsSeq PySem.MeetsSeq2 PySem.MeetsSeq3
section
variable {prog:Program} {w:World} {A:Around} {E:Value->Shared->Prop} {s:Shared}
end
section
variable {X:Cx}
end
end L2
namespace L2
open PySem PySem.Spec PyProof.Rows PySem.Calls PySem.W
section
variable {X:Cx} {pins:List (Addr×Obj)} {σ:St} {H:Hp} {s:Shared} {a:Addr} {d:V} {u r:Value} {A:Around} {E:Value->Shared->Prop} {ae:List (Key×V)} {k:Key}
end
section
variable {X:Cx} {o e f:Expr} {apos cj:Pos} {td ty tx:TE}
end
open PySem.AutoSeq1 (wpAny_loadPart')
section
variable {prog:Program} {w:World} {A:Around} {E:Value->Shared->Prop} {s:Shared}
end
section
variable {X:Cx}
end
end L2
namespace L2
open PySem PySem.Spec PyProof.Rows PySem.Calls PySem.W
section
variable {prog:Program} {w:World} {A:Around} {E:Value->Shared->Prop} {s:Shared}
end
section
variable {X:Cx}
end
open PySem.AutoSeq1 (wpAny_loadPart')
section
variable {prog:Program} {w:World} {A:Around} {E:Value->Shared->Prop} {s:Shared}
end
section
variable {X:Cx}
end
end L2
namespace L2
open PySem PySem.Spec PyProof.Rows PySem.Calls
mutual
inductive vv (h:Heap):NK->Value->Prop where
 |int (i:Int) (t:Tok):vv h (.int i) (.int i t)
 |str (x:Str) (t:Tok):vv h (.str x) (.str x t)
 |tup {a:Addr} {o:Obj} {items:Array Value} {n:Nat} {l:List NK}:h.get? a=f7 o->o.cls= .type "tuple"->o.data= .seq items n->vT h l items.toList->vv h (.tup l) (.ref a)
inductive vT (h:Heap):List NK->List Value->Prop where
 |nil:vT h [] []
 |cons {k:NK} {v:Value} {ks:List NK} {vs:List Value}:vv h k v->vT h ks vs->vT h (k::ks) (v::vs)
end
mutual
noncomputable def UA:NK->Nat
 | .int _=>1
 | .str _=>1
 | .tup l=>vD l+1
noncomputable def vD:List NK->Nat
 |[]=>0
 |k::r=>UA k+vD r
end
section
variable {h h':Heap}
theorem vv.inj {x y:NK} {v:Value} (hx:vv h x v):vv h y v->x=y:=by
 refine vv.rec (motive_1:=λx v _=>∀y,vv h y v->x=y) (motive_2:=λx v _=>∀y,vT h y v->x=y) ?_ ?_ ?_ ?_ ?_ hx y
 .intro i t y hy;cases hy;rfl
 .intro x t y hy;cases hy;rfl
 .intro a o items n l e1 e2 e3 l1 ih y hy;cases hy with
  |tup f1 f2 f3 l2=>
   rw[e1] at f1;cases f1;rw[e3] at f3;injection f3 with g1 g2
   subst g1;rw[ih _ l2]
 .intro y hy;cases hy;rfl
 .intro k v ks vs a l i1 i2 y hy;cases hy with
  |cons b m=>rw[i1 _ b,i2 _ m]
theorem vT.ind {m:List NK->List Value->Prop} (h0:m [] []) (h1:∀{k:NK} {v:Value} {ks:List NK} {vs:List Value},vv h k v->vT h ks vs->m ks vs->m (k::ks) (v::vs)) {x:List NK} {v:List Value} (hx:vT h x v):m x v:=
 vT.rec (motive_1:=λ_ _ _=>True) (motive_2:=λx v _=>m x v) (λ_ _=>trivial) (λ_ _=>trivial) (λ_ _ _ _ _=>trivial) h0 (λa b _ c=>h1 a b c) hx
theorem vv.keeps {d:Addr} {o:Obj} {es:Array DictEntry} {ep:Nat} (ho:h.get? d=f7 o) (hd:o.data= .dict es ep) (hs:Heap.SameBut d h h') {x:NK} {v:Value} (hx:vv h x v):vv h' x v:=
 vv.rec (motive_1:=λx v _=>vv h' x v) (motive_2:=λx v _=>vT h' x v) .int .str (λ{a} {_ _ _ _} e1 e2 e3 _ ih=>by
  have gH:a≠d:=by
   rintro rfl;rw[ho] at e1;cases e1;rw[hd] at e3;exact nomatch e3
  exact .tup ((hs.2 a gH).trans e1) e2 e3 ih) .nil (λ_ _ a l=> .cons a l) hx
theorem vT.len {x:List NK} {v:List Value} (hx:vT h x v):x.length=v.length:=hx.ind (m:=λx v=>x.length=v.length) rfl λ_ _ e=>congrArg (· +1) e
theorem vT.get {x:List NK} {v:List Value} {i:Nat} {k:NK} (hx:vT h x v):x[i]? =f7 k->∃u,v[i]? =f7 u/\vv h k u:=
 hx.ind (m:=λx v=>∀i,x[i]? =f7 k->∃u,v[i]? =f7 u/\vv h k u) (λi e=>by simp at e) (λa _ ih i e=>by
  cases i with
  |zero=>simp at e;subst e;exact⟨_,rfl,a⟩
  |succ i=>exact ih i e) i
end
theorem Us:∀{l:List NK} {k:NK},k∈l->vW k<=WT l
 |[],_,h=>by cases h
 |a::r,k,h=>by
  unfold WT;rcases uy.1 h with rfl|h
  .exact Nat.le_max_left _ _
  .exact uC (Us h) (Nat.le_max_right _ _)
section
variable {prog:Program} {w:World} {E:Value->Shared->Prop}
theorem zmG:∀(n:Nat) {A:Around} {s:Shared} {k:NK} {v:Value} {Q:Int->Shared->Prop},vW k<=n->A.units+n<cLine->vv s.heap k v->Q (WR w k) {s with toks:=s.toks+UA k}->wpAny (model prog w) A (pyHash v) Q E s:=by
 intro n
 induction n with
 |zero=>
  intro A s k v Q hn hu hk h;cases hk with
  |int i t=>exact wpAny_pyHash_int (by simpa [WR,UA,zgd] using h)
  |str x t=>exact wpAny_pyHash_str (by simpa [WR,UA,zgd] using h)
  |tup _ _ _ _=>unfold vW at hn;omega
 |succ n ih=>
  intro A s k v Q hn hu hk h;cases hk with
  |int i t=>exact wpAny_pyHash_int (by simpa [WR,UA,zgd] using h)
  |str x t=>exact wpAny_pyHash_str (by simpa [WR,UA,zgd] using h)
  | @tup a o items m ks ho hc hd hi=>
   have ty:s.TypeIs (.ref a) "tuple":=⟨o,ho,hc⟩;have iS:WT ks<=n:=by unfold vW at hn;omega
   have sl:=F.slot_tuple_hash;unfold pyHash
   (try unfold pyHashByItsType)
   have main:∀{R:Value->Shared->Prop},R (.int (Builtin.Tuple.tupleHashOf (Xj w ks)) (s.toks+vD ks)) {s with toks:=s.toks+vD ks+1}->wpAny (model prog w) A.in1 (Builtin.«tuple.__hash__» ⟨[.ref a],[]⟩) (λfin s'=>∃v,fin=PySem.Fin.done (.ret v)/\R v s') E s:=λ{R} hR=>by
    refine wpAny_bind (m:=Builtin.Tuple.tupleItemsOf (.ref a)) (wpAny_tupleItemsOf ho hd (wpAny_bind ?_));rw[<-CZ];refine wpAny_forIn_list _ (λrest (acc:Array Int) s'=>∃pre post,ks=pre++post/\vT s.heap post rest/\acc.toList=Xj w pre/\s'={s with toks:=s.toks+vD pre}) _ ?_ ?_ _ _ ⟨[],ks,rfl,hi,by simp[Xj],by simp[vD]⟩
    .rintro v1 more acc _ ⟨pre,post,rfl,hl,hb,rfl⟩;cases hl with
     | @cons k _ post' _ h1 jx=>
      have app:∀(l:List NK) (k:NK),Xj w (l++[k])=Xj w l++[WR w k]/\vD (l++[k])=vD l+UA k:=λl k=>by
       induction l with
       |nil=>simp[Xj,vD]
       |cons a r ih=>refine⟨by simp[Xj,ih.1],by simp[vD,ih.2];omega⟩
      refine wpAny_bind (ih (uC (Us (by simp)) iS) (show A.units+1+n<cLine by omega) (show vv s.heap k v1 from h1) ?_);have goal:∃jI jk,pre++k::post'=jI++jk/\vT s.heap jk more/\(acc.push (WR w k)).toList=Xj w jI/\({s with toks:=s.toks+vD pre+UA k}:Shared)={s with toks:=s.toks+vD jI}:=⟨pre++[k],post',by simp,jx,by rw[(app pre k).1];simp[hb],by rw[(app pre k).2,Dr]⟩
      first|exact wpAny_pure goal|exact wpAny_bind (wpAny_pure (wpAny_pure goal))
    .rintro acc _ ⟨pre,post,rfl,hl,hb,rfl⟩;cases hl;rw[y0] at hR;show wpAny _ _ (retInt (Builtin.Tuple.tupleHashOf acc.toList)) _ _ _;rw[hb];refine wpAny_ret_mkInt ?_;exact hR
   refine wpAny_bind (wpAny_cRoomFor_or (.inr (show A.units<cLine by omega)) (wpAny_bind (wpAny_specialOf ty sl.lookup ?_)));refine wpAny_ite_split (λz=>absurd z (by rw[beq_builtin_none];decide)) λ_=>wpAny_bind (wpAny_specialOf ty sl.lookup ?_);refine wpAny_bind (m:=callSpecialIfBoundUnlessNone? (.ref a) "__hash__" _) (wpAny_callSpecialIfBoundUnlessNone?_slot ty sl (wpAny_call_entry sl ty F.entry_tuple_hash (main ?_) (F.args_tuple_hash_1 _)));unfold WR UA reduceHash at h;have en:({s with toks:=s.toks+vD ks+1}:Shared)={s with toks:=s.toks+(vD ks+1)}:=by rw[Dr]
   rw[en];refine wpAny_ite_split (λz=> ?_) λz=>wpAny_bind (wpAny_rule ?_)
   .rw[if_pos z] at h;exact wpAny_pure h
   .rw[if_neg z] at h;exact wpAny_pure h
theorem TK {A:Around} {s:Shared} {k j:NK} {v u:Value} (hu:A.units<cLine) (hk:vv s.heap k v) (hj:vv s.heap j u) (hd:(∀l,k≠ .tup l)\/∀l,j≠ .tup l):SeqAt.EqAt A s v u (decide (k=j)):=by
 have tp:∀{a:Addr} {o:Obj} {items:Array Value} {n:Nat},s.heap.get? a=f7 o->o.cls= .type "tuple"->o.data= .seq items n->s.heap.IsTuple a items:=λa b c=>⟨_,a,b,_,c⟩;cases hk with
 |int i t=>
  cases hj with
  |int j t'=>
   rw[show decide (NK.int i=NK.int j)=(i==j) by rw[z7,decide_eq_true_iff,beq_iff_eq];exact⟨λe=>by cases e;rfl,λe=>by rw[e]⟩];exact SeqAt.EqAt.int_int _ _ _ _
  |str y t'=>rw[decide_eq_false (by intro e;cases e)];exact SeqAt.EqAt.int_str _ _ _ _
  |tup a b c _=>rw[decide_eq_false (by intro e;cases e)];exact SeqAt.EqAt.int_tuple _ _ (tp a b c) hu
 |str x t=>
  cases hj with
  |int j t'=>rw[decide_eq_false (by intro e;cases e)];exact SeqAt.EqAt.str_int _ _ _ _
  |str y t'=>
   rw[show decide (NK.str x=NK.str y)=(x==y) by rw[z7,decide_eq_true_iff,beq_iff_eq];exact⟨λe=>by cases e;rfl,λe=>by rw[e]⟩];exact SeqAt.EqAt.str_str _ _ _ _
  |tup a b c _=>rw[decide_eq_false (by intro e;cases e)];exact SeqAt.EqAt.str_tuple _ _ (tp a b c) hu
 |tup a b c _=>
  cases hj with
  |int j t'=>rw[decide_eq_false (by intro e;cases e)];exact SeqAt.EqAt.tuple_int _ _ (tp a b c) hu
  |str y t'=>rw[decide_eq_false (by intro e;cases e)];exact SeqAt.EqAt.tuple_str _ _ (tp a b c) hu
  |tup _ _ _ _=>
   rcases hd with h|h
   .exact (h _ rfl).elim
   .exact (h _ rfl).elim
theorem zfy {α:Type} (l m:List α) (e:Nat->Bool) (he:∀(j:Nat) a b,l[j]? =f7 a->m[j]? =f7 b->(e j=ia↔a=b)):((v7 (min l.length m.length)).all e&&(l.length==m.length))=ia↔l=m:=by
 rw[uX,y8,beq_iff_eq];constructor
 .rintro⟨h1,h2⟩;refine BW λj=> ?_;by_cases hj:j<l.length
  .have md:j<m.length:=by omega
   rw[u6 hj,u6 md];exact congrArg f7 ((he j _ _ (u6 hj) (u6 md)).1 (h1 j (Af.2 ⋯)))
  .rw[uA ⋯,uA ⋯]
 .rintro rfl;refine⟨λj hj=> ?_,rfl⟩;have hj:=Af.1 hj;have hj:j<l.length:=by omega
  exact (he j _ _ (u6 hj) (u6 hj)).2 rfl
theorem zqf:∀(n:Nat) {A:Around} {s:Shared} {k j:NK} {v u:Value},vW k<=n->A.units+n<cLine->vv s.heap k v->vv s.heap j u->SeqAt.EqAt A s v u (decide (k=j)):=by
 intro n
 induction n with
 |zero=>
  intro A s k j v u hn hu hk hj;refine TK ⋯ hk hj (.inl λl e=> ?_);subst e;unfold vW at hn;omega
 |succ n ih=>
  intro A s k j v u hn hu hk hj;cases hk with
  |int i t=>exact TK ⋯ (.int i t) hj (.inl λl e=>by cases e)
  |str i t=>exact TK ⋯ (.str i t) hj (.inl λl e=>by cases e)
  | @tup a o items m l ho hc hd hi=>
   cases hj with
   |int i t=>exact TK ⋯ (.tup ho hc hd hi) (.int i t) (.inr λl e=>by cases e)
   |str i t=>exact TK ⋯ (.tup ho hc hd hi) (.str i t) (.inr λl e=>by cases e)
   | @tup a' o' items' m' l' iR jX ky kr=>
    have iS:WT l<=n:=by unfold vW at hn;omega
    by_cases gq:a=a'
    .subst gq;have e:=(vv.tup ho hc hd hi).inj (vv.tup iR jX ky kr);rw[decide_eq_true e];exact SeqAt.EqAt.same _
    .refine SeqAt.EqAt.of_refs gq ?_;have s1:items.size=l.length:=by have:=hi.len;simpa using this.symm
     have s2:items'.size=l'.length:=by have:=kr.len;simpa using this.symm
     have:=SeqAt.RcAt.tuples (A:=A) (s:=s) (e:=λq=>decide (l[q]? =l'[q]?)) ⟨o,ho,hc,m,hd⟩ ⟨o',iR,jX,m',ky⟩ ⋯ (λq h1 h2=>by
      have q1:l[q]? =f7 l[q]:=u6 ⋯;have q2:l'[q]? =f7 l'[q]:=u6 ⋯;obtain⟨u1,f1,g1⟩:=hi.get q1;obtain⟨u2,f2,g2⟩:=kr.get q2;have e1:items[q]=u1:=by rw[AU] at f1;rw[BZ h1] at f1;exact uK f1
      have e2:items'[q]=u2:=by rw[AU] at f2;rw[BZ h2] at f2;exact uK f2
      rw[e1,e2];have:=ih (A:=A.in1) (uC (Us (y4 ⋯)) iS) (by show A.units+1+n<cLine;omega) g1 g2
      rwa [show decide (l[q]? =l'[q]?)=decide (l[q]=l'[q]) by rw[q1,q2,decide_eq_decide,uQ]])
     rw[s1,s2] at this;have og:((v7 (min l.length l'.length)).all (λq=>decide (l[q]? =l'[q]?))&&(l.length==l'.length))=decide (NK.tup l=NK.tup l'):=by
      rw[z7,decide_eq_true_iff,zfy l l' _ λj a b ha hb=>by rw[decide_eq_true_iff,ha,hb,uQ]];exact⟨λe=>by rw[e],λe=>by cases e;rfl⟩
     rwa [og] at this
theorem zk2:∀(n:Nat) {A:Around} {s:Shared} {k:NK} {v:Value} {Q:Bool->Shared->Prop},vW k<=n->vv s.heap k v->Q ia s->wpAny (model prog w) A (eqIsQuiet n v) Q E s:=by
 intro n
 induction n with
 |zero=>
  intro A s k v Q hn hk h;cases hk with
  |int i t=>rw[eqIsQuiet_byValue _ rfl];exact wpAny_pure h
  |str x t=>rw[eqIsQuiet_byValue _ rfl];exact wpAny_pure h
  |tup _ _ _ _=>unfold vW at hn;omega
 |succ n ih=>
  intro A s k v Q hn hk h;cases hk with
  |int i t=>rw[eqIsQuiet_byValue _ rfl];exact wpAny_pure h
  |str x t=>rw[eqIsQuiet_byValue _ rfl];exact wpAny_pure h
  | @tup a o items m ks ho hc hd hi=>
   have ty:s.TypeIs (.ref a) "tuple":=⟨o,ho,hc⟩;have iS:WT ks<=n:=by unfold vW at hn;omega
   unfold eqIsQuiet;refine wpAny_bind (wpAny_specialOf ty F.slot_tuple_eq.lookup (wpAny_bind (m:=isInstance (.ref a) (.type "tuple")) (wpAny_isInstance ty isSubtype_tuple_tuple ?_)));refine wpAny_ite_split nofun λ_=>wpAny_bind (wpAny_seqItems ho hd (wpAny_bind (m:=forIn items _ _) ?_));rw[<-CZ];refine wpAny_forIn_list _ (λrest acc s'=>acc.1=gC/\s'=s/\∃post,(∀k∈post,vW k<=n)/\vT s.heap post rest) _ ?_ ?_ _ _ ⟨rfl,rfl,ks,λk hk=>uC (Us hk) iS,hi⟩
   .rintro v1 rest acc _ ⟨ha,rfl,post,hV,hl⟩;cases hl with
    | @cons k _ post' _ h1 jx=>exact wpAny_bind (ih (hV k (by simp)) h1 (wpAny_ite_split nofun λ_=>wpAny_pure ⟨rfl,rfl,post',λu hu=>hV u (uj _ hu),jx⟩))
   .rintro⟨a1,a2⟩ _ ⟨ha,rfl,_⟩;cases ha;exact wpAny_pure h
end
noncomputable def TL (prog:Program) (w:World):HeapKind prog w NK where
 is:=λh k a=>vv h k (.ref a)/\vW k<=8
 hash:=WR w
 draws:=UA
 room:=λA=>A.units+8<cLine
 inj:=λhx hy=>hx.1.inj hy.1
 keeps:=λx ho hd hs=>⟨x.1.keeps ho hd hs,x.2⟩
 pyHash:=λhu hk h=>zmG 8 hk.2 hu hk.1 h
 eqBool:=λhu hx hy h=>zqf 8 hx.2 hu hx.1 hy.1 _ _ _ _ h
 quiet:=λhk h=>zk2 8 hk.2 hk.1 h
mutual
inductive NIs (K:u5) (H:Hp):V->NK->Prop where
 |int (i:Int):NIs K H (.int i) (.int i)
 |str (x:Str):NIs K H (.str x) (.str x)
 |tup {a:Addr} {vs:List V} {l:List NK}:SqT K H a vs->zk3 K H vs l->NIs K H (.ref a) (.tup l)
inductive zk3 (K:u5) (H:Hp):List V->List NK->Prop where
 |nil:zk3 K H [] []
 |cons {v:V} {k:NK} {vs:List V} {ks:List NK}:NIs K H v k->zk3 K H vs ks->zk3 K H (v::vs) (k::ks)
end
section
variable {X:Cx} {pins:List (Addr×Obj)} {σ:St} {H:Hp} {s:Shared}
theorem NIs.isNK (I:Inv X pins σ H s) {v:V} {k:NK} {u:Value} (hv:NIs X.K H v k):zW v u->vv s.heap k u:=by
 refine NIs.rec (motive_1:=λv k _=>∀u,zW v u->vv s.heap k u) (motive_2:=λv k _=>∀u,zZ v u->vT s.heap k u) ?_ ?_ ?_ ?_ ?_ hv u
 .intro i u r;obtain⟨t,rfl⟩:=(show ∃t,_=Value.int i t from r);exact .int i t
 .intro x u r;obtain⟨t,rfl⟩:=(show ∃t,_=Value.str x t from r);exact .str x t
 .intro a vs l h _ ih u r;cases (show _=Value.ref a from r);obtain⟨ah,r1,⟨o,p1,p2,n,p3⟩,_⟩:=I.tuple h;exact .tup p1 p2 p3 (ih _ (by simpa using r1))
 .intro u r;cases r;exact .nil
 .intro v k vs ks _ _ i1 i2 u r;cases r with
  |cons a b=>exact .cons (i1 _ a) (i2 _ b)
end
def zjb (K:u5) (H:Hp) (ks:List (NK×Addr×V)):Prop:=∀p∈ks,NIs K H (.ref p.2.1) p.1/\vW p.1<=8
noncomputable def Wt (ks:List (NK×Addr×V)) (k:NK):Option V:=(ks.find? λp=>decide (p.1=k)).map (·.2.2)
noncomputable def zei (ks:List (NK×Addr×V)) (k:NK) (b:Addr) (v:V):List (NK×Addr×V):=if (Wt ks k).isSome=ia then ks.map (λp=>if p.1=k then (p.1,p.2.1,v) else p) else ks++[(k,b,v)]
theorem zfz (ks:List (NK×Addr×V)) (k:NK) (b:Addr) (v:V):(zei ks k b v).length<=ks.length+1:=by
 unfold zei;split
 .rw[uw];omega
 .simp
noncomputable abbrev PN:List (NK×Addr×V)->List (NK×Addr×Value)->Prop:=Paired λ(p:NK×Addr×V) (q:NK×Addr×Value)=>p.1=q.1/\p.2.1=q.2.1/\zW p.2.2 q.2.2
theorem PN.val {ks:List (NK×Addr×V)} {xs:List (NK×Addr×Value)} (r:PN ks xs) (k:NK):Wf (Wt ks k) ((atKey xs k).map (·.2)):=by
 induction r with
 |nil=>exact A5
 | @cons p q ps qs h t ih=>
  obtain⟨h1,_,h2⟩:=h;by_cases e:p.1=k
  .have e':q.1=k:=h1.symm.trans e;have b:atKey (q::qs) k=f7 q.2:=by simp[atKey,uL,e']
   have a:Wt (p::ps) k=f7 p.2.2:=by simp[Wt,uL,e]
   rw[a,b];exact h2
  .have e':¬q.1=k:=λz=>e (h1.trans z);have b:atKey (q::qs) k=atKey qs k:=by simp[atKey,uL,e']
   have a:Wt (p::ps) k=Wt ps k:=by simp[Wt,uL,e]
   rw[a,b];exact ih
theorem PN.put {ks:List (NK×Addr×V)} {xs:List (NK×Addr×Value)} (r:PN ks xs) (k:NK) {b:Addr} {y:V} {u:Value} (ry:zW y u):PN (zei ks k b y) (storedH xs k b u):=by
 have e:(Wt ks k).isSome=(atKey xs k).isSome:=by rw[(r.val k).isSome_eq,Bp]
 unfold zei storedH;rw[e];by_cases q:(atKey xs k).isSome=ia
 .rw[if_pos q,if_pos q];clear q e
  induction r with
  |nil=>exact .nil
  | @cons p q ps qs h t ih=>
   rw[uE,uE];refine .cons ?_ ih;obtain⟨h1,h2,h3⟩:=h;unfold putAt;by_cases e:p.1=k
   .rw[if_pos e,if_pos (h1.symm.trans e)];exact⟨h1,h2,ry⟩
   .rw[if_neg e,if_neg (λz=>e (h1.trans z))];exact⟨h1,h2,h3⟩
 .rw[if_neg q,if_neg q];exact Paired.snoc r ⟨rfl,rfl,ry⟩
theorem PN.all {P:NK->Addr->Prop} {ks:List (NK×Addr×V)} {xs:List (NK×Addr×Value)} (r:PN ks xs) (h:∀p∈ks,P p.1 p.2.1):∀x∈xs,P x.1 x.2.1:=by
 induction r with
 |nil=>intro x hx;cases hx
 | @cons p q ps qs h' t ih=>
  intro x hx;rcases uy.1 hx with rfl|hx
  .obtain⟨e1,e2,_⟩:=h';rw[<-e1,<-e2];exact h p (by simp)
  .exact ih (λp hp=>h p (by simp[hp])) x hx
section
variable {X:Cx} {pins:List (Addr×Obj)} {σ:St} {H:Hp} {s:Shared} {a:Addr}
theorem znL {ks:List (NK×Addr×V)} (I:Inv X pins σ H s) (e:Rd H a (.dN ks)) (hk:zjb X.K H ks):ks.length<=sizeLine/\(a==sysModules)=kb/\∃xs,PN ks xs/\s.heap.DictOfH (TL X.prog X.w) a xs:=by
 have q:yN X.prog X.w H s.heap a (.dN ks):=by
  rcases e with e|⟨o,e⟩
  .exact I.hok a _ e
  .exact (show yN X.prog X.w H s.heap a (.frz o (.dN ks)) from I.hok a _ e).2
 obtain⟨z,y,xs,r,o,es,ep,h1,h2,h3,h4,h5⟩:=q;refine⟨z,y,xs,r,o,es,ep,h1,h2,h3,h4,?_,h5⟩;exact PN.all r (P:=λk b=>(TL X.prog X.w).is s.heap k b) λp hp=>⟨(hk p hp).1.isNK I rfl,(hk p hp).2⟩
theorem zqg {ks:List (NK×Addr×V)} (I:Inv X pins σ H s) (e:H a=f7 (.dN ks)) (hk:zjb X.K H ks):ks.length<=sizeLine/\(a==sysModules)=kb/\∃xs,PN ks xs/\s.heap.DictOfH (TL X.prog X.w) a xs:=znL I (.inl e) hk
theorem zk4 (I:Inv X pins σ H s) (e:H a=f7 (.dK [])):(a==sysModules)=kb/\s.heap.DictOfH (TL X.prog X.w) a []:=by
 obtain⟨z,y,vs,r,o,es,ep,h1,h2,h3,h4,h5,_⟩:=znD I.hok e;cases r;refine⟨y,o,es,ep,h1,h2,h3,?_,by simp,by simp⟩;have:es.toList=[]:=by
  have:=h5.length;simpa using this
 rw[this];rfl
end
def zdl (K:u5) (H:Hp) (a:Addr) (y:V) (r:Option V):Prop:=
 zav H a y r\/∃k b,y= .ref b/\NIs K H y k/\vW k<=8/\((∃ks,Rd H a (.dN ks)/\zjb K H ks/\r=Wt ks k)\/(H a=f7 (.dK [])/\r=gC))
def zk5 (K:u5) (H:Hp) (a:Addr) (y v:V) (H':Hp):Prop:=
 zgC H a y v H'\/∃k b,y= .ref b/\NIs K H y k/\vW k<=8/\((∃ks,H a=f7 (.dN ks)/\zjb K H ks/\ks.length<sizeLine/\H'=upd H a (.dN (zei ks k b v)))\/(H a=f7 (.dK [])/\H'=upd H a (.dN [(k,b,v)])))
section
variable {X:Cx} {pins:List (Addr×Obj)} {σ:St} {H:Hp} {s:Shared} {a:Addr} {y v d:V} {u r:Value} {o:Option V} {A:Around} {E:Value->Shared->Prop}
theorem dgN {k:NK} (I:Inv X pins σ H s) (h:(∃ks,Rd H a (.dN ks)/\zjb X.K H ks/\o=Wt ks k)\/(H a=f7 (.dK [])/\o=gC)):(a==sysModules)=kb/\∃xs,s.heap.DictOfH (TL X.prog X.w) a xs/\Wf o ((atKey xs k).map (·.2)):=by
 rcases h with⟨ks,e,hk,rfl⟩|⟨e,rfl⟩
 .obtain⟨_,hd,xs,rel,dd⟩:=znL I e hk;exact⟨hd,xs,dd,rel.val k⟩
 .obtain⟨hd,dd⟩:=zk4 I e;exact⟨hd,[],dd,A5⟩
theorem zg4 {Q:Value->Shared->Prop} (hu:A.units+9<cLine) (I:Inv X pins σ H s) (g:zdl X.K H a y (f7 v)) (ry:zW y u) (h:∀w' s',Inv X pins σ H s'->zW v w'->Q w' s'):wpAny (model X.prog X.w) A (getItem (.ref a) u) Q E s:=by
 rcases g with g|⟨k,b,rfl,hk,hd,g⟩
 .exact zc5 ⋯ I g ry h
 .cases (show u=Value.ref b from ry);obtain⟨_,xs,dd,rel⟩:=dgN I g;obtain⟨w',hw,rw'⟩:=Wf.some_of rel;obtain⟨p,hp,nM⟩:=uI.mp hw;refine wpAny_getItem_heap (knd:=TL X.prog X.w) (by show A.units+1+8<cLine;omega) ⟨hk.isNK I rfl,hd⟩ dd hp ?_;rw[nM];exact h w' _ (I.tok _) rw'
theorem zk6 {Q:Value->Shared->Prop} (hu:A.units+9<cLine) (I:Inv X pins σ H s) (g:zdl X.K H a y o) (ry:zW y u) (h:∀s',Inv X pins σ H s'->Q (.bool (!o.isSome)) s'):wpAny (model X.prog X.w) A (compareOp .NotIn u (.ref a)) Q E s:=by
 rcases g with g|⟨k,b,rfl,hk,hd,g⟩
 .exact zhP ⋯ I g ry h
 .cases (show u=Value.ref b from ry);obtain⟨hs,xs,dd,rel⟩:=dgN I g;refine wpAny_notIn_heap (knd:=TL X.prog X.w) (by show A.units+1+8<cLine;omega) ⟨hk.isNK I rfl,hd⟩ hs dd ?_;have q:=rel.isSome_eq;rw[Bp] at q;rw[<-q];exact h _ (I.tok _)
theorem zg5 {H':Hp} {Q:Unit->Shared->Prop} (hu:A.units+9<cLine) (I:Inv X pins σ H s) (g:zk5 X.K H a y v H') (ry:zW y u) (rv:zW v r) (h:∀s',Inv X pins σ H' s'->Q () s'):
  wpAny (model X.prog X.w) A (setItem (.ref a) u r) Q E s:=by
 rcases g with g|⟨k,b,rfl,hk,hd,⟨ks,e,fO,hl,rfl⟩|⟨e,rfl⟩⟩
 .exact zc6 ⋯ I g ry rv h
 .cases (show u=Value.ref b from ry);obtain⟨z,hs,xs,rel,dd⟩:=zqg I e fO;have hz:xs.length<=sizeLine:=by rw[<-Paired.length rel];exact z
  have hJ:(zei ks k b v).length<=sizeLine:=by have:=zfz ks k b v;omega
  refine wpAny_setItem_heap (knd:=TL X.prog X.w) (hsz:=hz) (by show A.units+1+8<cLine;omega) ⟨hk.isNK I rfl,hd⟩ dd λh' dd' iC=>h _ ?_;obtain⟨q,es,ep,hq,h2,h3,h4,_,h5⟩:=dd';exact zbf I (by rw[e];exact A5) iC ⟨q,hq⟩ ⟨hJ,hs,_,rel.put k rv,q,es,ep,hq,h2,h3,h4,h5⟩
 .cases (show u=Value.ref b from ry);obtain⟨hs,dd⟩:=zk4 I e;refine wpAny_setItem_heap (knd:=TL X.prog X.w) (hsz:=B7 _) (by show A.units+1+8<cLine;omega) ⟨hk.isNK I rfl,hd⟩ dd λh' dd' iC=>h _ ?_;obtain⟨q,es,ep,hq,h2,h3,h4,_,h5⟩:=dd';refine zbf I (by rw[e];exact A5) iC ⟨q,hq⟩ ⟨by simp;decide,hs,_,?_,q,es,ep,hq,h2,h3,h4,h5⟩;exact .cons ⟨rfl,rfl,rv⟩ .nil
theorem zej (I:Inv X pins σ H s) (g:zdl X.K H a y o):s.TypeIs (.ref a) "dict":=by
 rcases g with g|⟨k,b,rfl,hk,hd,g⟩
 .exact zaR I g
 .obtain⟨_,xs,dd,_⟩:=dgN I g;exact dd.typeIs
end
def zk7 (K:u5) (td ty:TE):TE:=λσ H Q=>td σ H λx H1=>ty σ H1 λy H2=>∃a v,x= .ref a/\zdl K H2 a y (f7 v)/\Q v H2
def znM (K:u5) (neg:Bool) (ty td:TE):TE:=λσ H Q=>ty σ H λy H1=>td σ H1 λx H2=>∃a o,x= .ref a/\zdl K H2 a y o/\Q (.bl (neg !=o.isSome)) H2
def zk8 (K:u5) (td ty tv:TE):TS:=λD σ H=>tv σ H λv H1=>td σ H1 λx H2=>ty σ H2 λy H3=>∃a H4,x= .ref a/\zk5 K H3 a y v H4/\D.nx σ H4
section
variable {X:Cx} {o i e f value:Expr} {pos pos' kA apos cj:Pos} {td ty tv tx:TE} {K:u5} {r:Nat}
theorem zk9 (hr:xS r X.A):X.A.units+9<cLine:=by have:=hr.un;omega
theorem zfA (hr:xS r X.A) (ho:PE X o td) (hi:PE X i ty) (hs:zoo i) (hK:X.K=K:=by rfl):PE X (.Subscript o i pos) (zk7 K td ty):=by
 subst hK;intro pins s σ H Q I h;refine zhQ BX.lookup hs (thn (ho pins s σ H _ I h) ?_);rintro u s1 ⟨x,H1,I1,rx,q1⟩;refine thn (hi pins s1 σ H1 _ I1 q1) ?_;rintro iv s2 ⟨y,H2,I2,ry,a,v,ex,g,q2⟩;subst ex;obtain rfl:u=Value.ref a:=rx;exact⟨zej I2 g,zg4 (zk9 hr) I2 g ry λw' s3 I3 rw'=>⟨v,H2,I3,rw',q2⟩⟩
theorem zb1 (hr:xS r X.A) (hi:PE X i ty) (ho:PE X o td) (hK:X.K=K:=by rfl):PC X .NotIn i o (znM K ia ty td):=by
 subst hK;intro pins s σ H Q I h;refine thn (hi pins s σ H _ I h) ?_;rintro iv s1 ⟨y,H1,I1,ry,q1⟩;refine thn (ho pins s1 σ H1 _ I1 q1) ?_;rintro u s2 ⟨x,H2,I2,rx,a,ov,ex,g,q2⟩;subst ex;obtain rfl:u=Value.ref a:=rx;exact zk6 (zk9 hr) I2 g ry λs3 I3=>⟨.bl (ia !=ov.isSome),H2,I3,by cases ov.isSome<;>rfl,q2⟩
theorem zfB (hr:xS r X.A) (ho:PE X o td) (hi:PE X i ty) (hv:PE X value tv) (hs:swapsWith value (f7 (.Subscript o i pos')) pos.line X.env=pure kb) (hK:X.K=K:=by rfl):
  PS X (.Assign [.Subscript o i pos'] value pos) (zk8 K td ty tv):=by
 subst hK;intro pins s σ H D I h;refine wpAny_Assign_Subscript (thn (hv pins s σ H _ I h) ?_) hs;rintro r s1 ⟨v,H1,I1,rv,q1⟩;refine thn (ho pins s1 σ H1 _ I1 q1) ?_;rintro u s2 ⟨x,H2,I2,rx,q2⟩;refine thn (hi pins s2 σ H2 _ I2 q2) ?_;rintro iv s3 ⟨y,H3,I3,ry,a,H4,ex,g,q3⟩;subst ex;obtain rfl:u=Value.ref a:=rx;exact zg5 (zk9 hr) I3 g ry rv λs4 I4=>⟨σ,H4,I4,q3⟩
end
end L2
namespace L2
open PySem PySem.Spec PyProof.Rows PySem.Calls PySem.W
section
variable {prog:Program} {w:World} {A:Around} {E:Value->Shared->Prop} {s:Shared} {d it:Addr} {es:Array DictEntry} {ep i:Nat}
end
noncomputable def ltL:List Int->List Int->Bool
 |[],[]=>kb
 |[],_::_=>ia
 |_::_,[]=>kb
 |a::x,b::y=>if a=b then ltL x y else decide (a<b)
section
variable {prog:Program} {w:World} {A:Around} {E:Value->Shared->Prop} {s:Shared}
end
section
variable {prog:Program} {w:World} {A:Around} {E:Value->Shared->Prop} {s:Shared} {T:String} {r d:Addr} {n:Nat} {P:Nat->Value->Prop} {OK:Heap->Prop} {Q:Value->Shared->Prop}
end
section
variable {X:Cx}
end
end L2
namespace L2
open PySem PySem.Spec PyProof.Rows PySem.Calls
open AutoSeq1 (wpAny_loadPart')
section
variable {prog:Program} {w:World} {A:Around} {E:Value->Shared->Prop} {s:Shared} {it t:Addr} {ah:Array Value}
end
section
variable {X:Cx}
end
end L2
namespace L2
open PySem PySem.Spec PyProof.Rows
section
variable {X:Cx}
def znN (ta:TA):TI:=λσ H R=>ta σ H λvs H1=>∃i j c:Int,vs=[.int i,.int j,.int c]/\(c≠0/\c.natAbs<1000000)/\Builtin.Range.small i j c=ia/\R (zop i c (Builtin.Range.rangeSize i j c).toNat) H1
theorem zjc {tg a b c:Expr} {ta:TA} {p pos:Pos} (hg:Gl X "range") (hm:X.mg "range"=gC) (ha:PA X [a,b,c] ta) (hs:starEach [a,b,c] X.env=(kb,eval a X.env)::starEach [b,c] X.env:=by rfl)
  (jN:(backTo pos (starEach [b,c] X.env)).any (·.1)=kb:=by rfl):
  PI X tg (.Call (.Name "range" p) [a,b,c] [] pos) (znN ta):=by
 intro pins s σ H R I h;refine Call_ (Vj I hg hm boot_range (z8 (thn (ha pos pins s σ H _ I h) ?_) hs jN));rintro us s1 ⟨vs,H1,I1,r1,q1⟩;obtain⟨i,j,c,e,⟨c0,c1⟩,sm,q⟩:=q1;subst e;cases r1 with
 |cons r rr=>
  cases rr with
  |cons r' rr=>
   cases rr with
   |cons r'' rr=>
    cases rr;obtain⟨t,rfl⟩:=r;obtain⟨t',rfl⟩:=r';obtain⟨t'',rfl⟩:=r'';refine call_range_3 c0 ?_ (.inl (Cq ⋯));refine wpAny_pyIter_range (IsRange.new ..) sm ?_;have I2:Inv X pins σ H1 {s1 with heap:=s1.heap.push {cls:= .type "range",data:= .fields #[.int i t,.int j t',.int c t'']},toks:=s1.toks}:=I1.kept λb o e=>Heap.get?_push_of_some _ e
    refine⟨(s1.heap.push {cls:= .type "range",data:= .fields #[.int i t,.int j t',.int c t'']}).objs.size,[(s1.heap.push {cls:= .type "range",data:= .fields #[.int i t,.int j t',.int c t'']}).objs.size],_,_,H1,rfl,
     I2.kept (t':=s1.toks) λb o e=>Heap.get?_push_of_some _ e,ze9 _ i c (Builtin.Range.rangeSize i j c).toNat,?_,λb hb=> ?_,q⟩
    .have e1:i+((0:Nat):Int)*c=i:=by simp
     have nn:0<=Builtin.Range.rangeSize i j c:=by
      unfold Builtin.Range.rangeSize;split
      .split
       .have:=Dl (a:=j-i-1) (b:=c) ⋯ ⋯;omega
       .omega
      .split
       .have:=Dl (a:=i-j-1) (b:= -c) ⋯ ⋯;omega
       .omega
     have e2:(((Builtin.Range.rangeSize i j c).toNat:Nat):Int)-((0:Nat):Int)=Builtin.Range.rangeSize i j c:=by omega
     show IsRangeIter _ _ (i+((0:Nat):Int)*c) ((((Builtin.Range.rangeSize i j c).toNat:Nat):Int)-((0:Nat):Int)) c;rw[e1,e2];exact Heap.get?_push_size _ rfl
    .have e:b=(s1.heap.push {cls:= .type "range",data:= .fields #[.int i t,.int j t',.int c t'']}).objs.size:=by simpa using hb
     subst e;exact I2.fpOk (ug _) (I2.hok.fresh (ug _))
end
end L2
namespace L2
open PySem PySem.Spec PyProof.Rows PySem.Calls PySem.W
section
variable {cmp:Nat->Nat->(Bool->Shared->Prop)->Shared->Prop} {r:Nat->Int} {n:Nat} {s:Shared}
end
section
variable {prog:Program} {w:World} {A:Around} {E:Value->Shared->Prop} {κ:SortKind} {it:Array Keyed} {s:Shared}
end
section
variable {X:Cx} {pins:List (Addr×Obj)} {σ:St} {H:Hp} {s:Shared} {h':Heap}
end
def zqh (is:List (List Int)):Prop:=(2<=is.length->∀l∈is,l≠[])/\∀i j,i<j->j<is.length->ltL (is.getD j []) (is.getD i [])=ia
section
variable {X:Cx} {k:Nat} {f:Addr} {fd:FuncData} {ps:List Str} {sp:Sp} {pins:List (Addr×Obj)} {σ:St} {H:Hp} {s:Shared}
end
section
variable {X:Cx}
end
end L2
namespace L2
open PySem PySem.Spec PyProof.Rows
namespace Sm
noncomputable def inB (b j:Nat):Bool:=b.testBit j
noncomputable def plL (b:Nat):List Nat:=(v7 8).filter (inB b)
noncomputable def pl (b:Nat):Array Nat:=(plL b).toArray
noncomputable def st (h:Int):Nat->Nat×Nat
 |0=>(SetTable.bits h % 8,SetTable.bits h)
 |n+1=>SetTable.leap 7 (st h n).1 (st h n).2
noncomputable def pos (h:Int) (n:Nat):Nat:=(st h n).1
noncomputable def mkP (s:Nat×Nat):SetTable.Probe:={j:=s.1,more:=0,i:=s.1,perturb:=s.2,dummy:=gC}
structure Tb (t:SetTable) (b:Nat):Prop where
 mask:t.mask=7
 place:t.place=pl b
 tX:t.dummies= #[]
noncomputable def ix (b j:Nat):Nat:=((v7 j).filter (inB b)).length
inductive znO (f:Nat->Int) (b:Nat) (x:Int) (n:Nat):SetTable.Met->Prop
 |empty (m:Nat):n<=m->inB b (pos x m)=kb->(∀k,n<=k->k<m->inB b (pos x k)=ia/\f (pos x k)≠x)->znO f b x n (.empty (pos x m) gC)
 |sU (m:Nat):n<=m->inB b (pos x m)=ia->f (pos x m)=x->(∀k,n<=k->k<m->inB b (pos x k)=ia/\f (pos x k)≠x)->znO f b x n (.candidate (pos x m) (ix b (pos x m)) (mkP (st x (m+1))))
def zqi (b:Nat) (f:Nat->Int):Prop:=∀j<8,inB b j=ia->∃n,pos (f j) n=j/\∀m,m<n->inB b (pos (f j) m)=ia
end Sm
end L2
namespace L2
open PySem PySem.Spec PyProof.Rows PySem.Calls PySem.W
section
variable {prog:Program} {w:World} {E:Value->Shared->Prop}
structure zqX (w:World) (h:Heap) (a:Addr) (b:Nat) (f:Nat->Int×Value) (kf:Nat->NK) (o:Obj) (ep:Nat) (t:SetTable):Prop where
 get:h.get? a=f7 o
 ex:o.ExactSet
 data:o.data= .set ((Sm.pl b).map f) ep t
 tb:Sm.Tb t b
 plain:t.plain=ia
 lt:b<256
 few:(Sm.plL b).length<=4
 chain:Sm.zqi b λj=>(f j).1
 keys:∀j<8,Sm.inB b j=ia->(f j).1=WR w (kf j)/\(∃c,(f j).2= .ref c/\vv h (kf j) (.ref c))/\vW (kf j)<=8
 inj:∀i<8,∀j<8,Sm.inB b i=ia->Sm.inB b j=ia->kf i=kf j->i=j
variable {a:Addr} {b:Nat} {f:Nat->Int×Value} {kf:Nat->NK} {o:Obj} {ep:Nat} {t:SetTable} {A:Around} {s:Shared}
end
section
variable {h h':Heap}
end
section
variable {prog:Program} {w:World} {E:Value->Shared->Prop}
variable {a:Addr} {b:Nat} {f:Nat->Int×Value} {kf:Nat->NK} {o:Obj} {ep:Nat} {t:SetTable} {A:Around} {s:Shared}
end
section
variable {h h':Heap}
end
section
variable {prog:Program} {w:World}
variable {A:Around} {R:Result->Shared->Prop} {I:Addr} {fp wr:List Addr} {G:Array GenState->Array GenState->Prop} {n:Nat} {P:Nat->Value->Prop} {St:Nat->Shared->Prop}
end
section
variable {prog:Program} {w:World} {A:Around} {E:Value->Shared->Prop} {s:Shared}
end
end L2
set_option maxHeartbeats 3200000
namespace L2
open PySem PySem.Spec PyProof.Rows PySem.Calls PySem.W
section
variable {prog:Program} {w:World} {A:Around} {E:Value->Shared->Prop} {s:Shared}
end
structure zqY (h:Heap) (a:Addr) (b:Nat) (f:Nat->Int×Value) (o:Obj) (ep:Nat) (t:SetTable):Prop where
 get:h.get? a=f7 o
 ex:o.ExactSet
 data:o.data= .set ((Sm.pl b).map f) ep t
 tb:Sm.Tb t b
 plain:t.plain=ia
 lt:b<256
 few:(Sm.plL b).length<=4
section
variable {prog:Program} {w:World} {A:Around} {E:Value->Shared->Prop} {s:Shared} {d it:Addr}
variable {b:Nat} {f:Nat->Int×Value} {o:Obj} {ep:Nat} {t:SetTable}
variable {b:Nat} {f:Nat->Int×Value} {o:Obj} {ep:Nat} {t:SetTable} {i:Nat}
end
mutual
noncomputable def cp:NK->NK->Bool
 | .int _,.int _=>ia
 | .tup x,.tup y=>cpL x y
 |_,_=>kb
noncomputable def cpL:List NK->List NK->Bool
 |a::x,b::y=>cp a b&&cpL x y
 |_,_=>ia
end
section
open PySem.SeqAt
open PySem.AutoSeq1 (wpAny_loadPart')
open PySem.MeetsSeq PySem.MeetsSeq2 PySem.MeetsSeq3
variable {prog:Program} {w:World} {E:Value->Shared->Prop}
end
section
variable {prog:Program} {w:World} {A:Around} {E:Value->Shared->Prop} {s:Shared}
def zoX (b:Bool):NK->Prop
 | .tup (.tup _::_)=>b=kb
 | .tup (.int _::_)=>b=ia
 |_=>False
end
structure KOk (b:Bool) (ks:List NK):Prop where
 cmp:∀x∈ks,∀y∈ks,cp x y=ia
 dep:∀k∈ks,vW k<=8
 fst:∀k∈ks,zoX b k
section
variable {X:Cx}
end
section
variable {prog:Program} {w:World} {A:Around} {E:Value->Shared->Prop} {s:Shared}
end
section
variable {X:Cx}
end
section
variable {X:Cx} {pins:List (Addr×Obj)} {σ:St} {H:Hp} {s:Shared}
end
section
variable {X:Cx}
end
section
variable {prog:Program} {w:World} {A:Around} {E:Value->Shared->Prop} {s:Shared}
end
section
variable {X:Cx} {pins:List (Addr×Obj)} {σ:St} {H H':Hp} {s:Shared} {h':Heap}
end
section
variable {X:Cx}
inductive zg6 (H:Hp):List Addr->List (Int×V)->Prop
 |nil:zg6 H [] []
 |cons {p:Addr} {x:Int×V} {ps:List Addr} {xs:List (Int×V)}:H p=f7 (.tup [.int x.1,x.2])->zg6 H ps xs->zg6 H (p::ps) (x::xs)
end
open PySem.AutoSeq1 (wpAny_loadPart')
open PySem.MeetsSeq PySem.MeetsSeq2 PySem.MeetsSeq3
section
variable {prog:Program} {w:World} {E:Value->Shared->Prop}
end
section
variable {X:Cx}
end
end L2
namespace L2
open PySem PySem.Spec PyProof.Rows PySem.Calls
section
variable {X:Cx} {tg:Expr}
end
section
variable {prog:Program} {w:World} {A:Around} {I:Addr} {fp wr:List Addr} {G:Array GenState->Array GenState->Prop} {n:Nat} {P:Nat->Value->Prop} {St:Nat->Shared->Prop} {R:Result->Shared->Prop}
noncomputable abbrev zq2 (xs:Array Value) (c:Nat):Obj:={cls:= .type "list",dict:=gC,data:= .seq xs c,slots:= #[]}
noncomputable abbrev zq3 (I S:Addr) (d:Value):Code:= .builtin "max.loop" ⟨[.ref I,.none,.ref S],[("default",d)]⟩
variable {E:Value->Shared->Prop} {s:Shared}
end
section
variable {X:Cx}
end
section
variable {prog:Program} {w:World} {A:Around} {E:Value->Shared->Prop} {s:Shared}
end
section
variable {X:Cx}
end
section
variable {prog:Program} {w:World} {A:Around} {E:Value->Shared->Prop} {h:Heap} {g:Array GenState} {d:Drawn} {t:Nat} {os:OsState} {a:Addr}
end
section
variable {prog:Program} {w:World} {A:Around} {I:Addr} {fp wr:List Addr} {G:Array GenState->Array GenState->Prop} {n:Nat} {P:Nat->Value->Prop} {St:Nat->Shared->Prop} {R:Result->Shared->Prop} {KK:Type} [DecidableEq KK] {knd:KeyKind prog w KK}
variable {E:Value->Shared->Prop} {s:Shared}
end
section
variable {X:Cx}
end
section
variable {prog:Program} {w:World} {A:Around} {I:Addr} {fp wr:List Addr} {G:Array GenState->Array GenState->Prop} {n:Nat} {P:Nat->Value->Prop} {St:Nat->Shared->Prop} {R:Result->Shared->Prop}
end
section
variable {prog:Program} {w:World} {A:Around} {E:Value->Shared->Prop} {s:Shared}
end
section
variable {X:Cx}
end
section
variable {K:u5} {E:XK}
noncomputable def zbi:D->D->Bool
 | .tup _,.tup _=>ia
 | .lst _,.lst _=>ia
 |_,_=>kb
noncomputable def zg7 (neg:Bool):Op2:=λx y S=>match ZS S 40 x,ZS S 40 y with
 |some d,f7 e=>if zbi d e then (eqG 40 d e).map λb=>(.bl (neg !=b),S) else gC
 |_,_=>gC
theorem zg8 {d e:D} (h:zbi d e=ia):∃l m,(d= .tup l/\e= .tup m)\/(d= .lst l/\e= .lst m):=by
 unfold zbi at h;split at h
 .exact⟨_,_,.inl ⟨rfl,rfl⟩⟩
 .exact⟨_,_,.inr ⟨rfl,rfl⟩⟩
 .cases h
theorem zg9 {neg:Bool}:XS K (zqe K neg) (zg7 neg):=by
 intro F j σ H ρ S S' x y z u v Q E1 hx hy h k;unfold zg7 at h;split at h
 .rename_i d e e1 e2;split at h
  .rename_i hb;cases hg:eqG 40 d e with
   |none=>rw[hg] at h;cases h
   |some b=>
    rw[hg] at h;cases h;exact⟨d,e,b,zg8 hb,(zec E1 40 _ _ _ hx e1).1,(zec E1 40 _ _ _ hy e2).1,hg,k _ _ _ Ext.refl E1 (.bl _)⟩
  .cases h
 .cases h
end
section
variable {S:Sto} {x y:Xv} {P:Xv->Sto->Prop} {p q:Int}
theorem zha {neg b:Bool} {d e:D} (h1:ZS S 40 x=f7 d) (h2:ZS S 40 y=f7 e) (hs:zbi d e=ia) (hb:eqG 40 d e=f7 b) (k:P (.bl (neg !=b)) S):WO (zg7 neg x y S) P:= .of (by unfold zg7;rw[h1,h2];dsimp only;rw[if_pos hs,hb];rfl) k
theorem zdm {n:Nat}:∀(l m:List Int),l.length=m.length->Uv (eqG n) (l.map D.int) (m.map D.int)=f7 (decide (l=m))
 |[],[],_=>by simp[Uv]
 |[],_::_,h=>by simp at h
 |_::_,[],h=>by simp at h
 |a::l,b::m,h=>by
  have ih:=zdm (n:=n) l m (by simpa using h);have e:eqG n (.int a) (.int b)=f7 (a==b):=by cases n<;>rfl
  simp only[uE,Uv,e,uz,ih,Aa];by_cases h1:a=b
  .subst h1;simp
  .simp[h1]
end
section
variable {K:u5} {E:XK}
end
noncomputable def Uw (y:Xv):Option NK:=match y with
 | .tup l=>(Yi (.tup l)).bind λk=>if vW k<=8 then f7 k else gC
 | .ct l=>(Yi (.ct l)).bind λk=>if vW k<=8 then f7 k else gC
 |_=>gC
noncomputable def yA (ae:List (NK×Xv×Xv)) (k:NK):Option Xv:=(ae.find? λp=>decide (p.1=k)).map (·.2.2)
noncomputable def XT (ae:List (NK×Xv×Xv)) (k:NK) (x y:Xv):List (NK×Xv×Xv):=if (yA ae k).isSome=ia then ae.map (λp=>if p.1=k then (p.1,p.2.1,y) else p) else ae++[(k,x,y)]
noncomputable def WW (S:Sto) (x y:Xv):Option (Option Xv):=match x with
 | .ref n=>match S[n]? with
  |some (.dk ae)=>match Tz y with
   |some key=>f7 (wA ae key)
   |none=>if ae.isEmpty=ia/\(Uw y).isSome=ia then f7 gC else gC
  |some (.dn ae)=>(Uw y).map (yA ae)
  |some (.fdn ae)=>(Uw y).map (yA ae)
  |_=>gC
 |_=>gC
noncomputable def TM (S:Sto) (x y z:Xv):Option Sto:=match x with
 | .ref n=>match S[n]? with
  |some (.dk ae)=>match Tz y with
   |some key=>if ae.length<sizeLine then f7 (S.set n (.dk (zbX ae key z))) else gC
   |none=>if ae.isEmpty=ia then (Uw y).map λk=>S.set n (.dn [(k,y,z)]) else gC
  |some (.dn ae)=>if ae.length<sizeLine then (Uw y).map λk=>S.set n (.dn (XT ae k y z)) else gC
  |_=>gC
 |_=>gC
section
variable {K:u5} {E:XK} {F:Fm} {j:List Addr} {H:Hp} {σ:St} {ρ:Rho} {S:Sto} {x y z:Xv} {u v w:V}
theorem Xis.nis {x:Xv} {v:V} {k:NK} (h:Xis K j H x v):Yi x=f7 k->NIs K H v k:=by
 refine Xis.rec (motive_1:=λx v _=>∀k:NK,Yi x=f7 k->NIs K H v k) (motive_2:=λx v _=>∀k:List NK,XR x=f7 k->zk3 K H v k) ?_ ?_ ?_ ?_ ?_ ?_ ?_ ?_ ?_ ?_ h k
 .intro k e;simp[Yi] at e
 .intro b k e;simp[Yi] at e
 .intro i k e;simp[Yi] at e;subst e;exact .int i
 .intro i k e;simp[Yi] at e;subst e;exact .str i
 .intro a vs xs h l ih k e;simp only[Yi,uI] at e;obtain⟨m,e1,rfl⟩:=e;exact .tup (SqT.of h) (ih m e1)
 .intro a vs xs h l ih k e;simp only[Yi,uI] at e;obtain⟨m,e1,rfl⟩:=e;exact .tup (h H) (ih m e1)
 .intro n a h k e;simp[Yi] at e
 .intro f vs L xs h l ih k e;simp[Yi] at e
 .intro k e;simp[XR] at e;subst e;exact .nil
 .intro x v xs vs h l qG qF k e;simp only[XR,v3,uI] at e;obtain⟨a,e1,b,e2,rfl⟩:=e;exact .cons (qG a e1) (qF b e2)
theorem TN {k:NK} (h:Xis K j H x v) (e:Uw x=f7 k):∃b,v= .ref b/\NIs K H v k/\vW k<=8/\Yi x=f7 k:=by
 cases h with
 |tup h l=>
  simp only[Uw,v3] at e;obtain⟨k',e1,e2⟩:=e;split at e2
  .cases e2;exact⟨_,rfl,(Xis.tup h l).nis e1,by assumption,e1⟩
  .cases e2
 |ct h l=>
  simp only[Uw,v3] at e;obtain⟨k',e1,e2⟩:=e;split at e2
  .cases e2;exact⟨_,rfl,(Xis.ct h l).nis e1,by assumption,e1⟩
  .cases e2
 |_=>simp[Uw] at e
theorem NX.len {ae:List (NK×Xv×Xv)} {ks:List (NK×Addr×V)} (h:NX K j H ae ks):ks.length=ae.length:=by
 induction h with
 |nil=>rfl
 |cons _ _ _ _ ih=>exact congrArg (· +1) ih
theorem NX.nis {ae:List (NK×Xv×Xv)} {ks:List (NK×Addr×V)} (h:NX K j H ae ks):zjb K H ks:=by
 induction h with
 |nil=>intro p hp;cases hp
 |cons e h1 _ _ ih=>
  intro p hp;rcases uy.1 hp with rfl|hp
  .exact⟨h1.nis e.1,e.2⟩
  .exact ih p hp
theorem NX.val {k:NK} {ae:List (NK×Xv×Xv)} {ks:List (NK×Addr×V)} (h:NX K j H ae ks):(∀y,yA ae k=f7 y->∃w,Wt ks k=f7 w/\Xis K j H y w)/\(yA ae k=gC->Wt ks k=gC):=by
 induction h with
 |nil=>exact⟨λ_ e=>by simp[yA] at e,λ_=>rfl⟩
 | @cons k1 x1 y1 b1 w1 r rs ek h1 h l ih=>
  obtain⟨i1,i2⟩:=ih;by_cases e:k1=k
  .subst e;refine⟨λy ey=> ?_,λey=> ?_⟩
   .simp[yA] at ey;subst ey;exact⟨w1,by simp[Wt],h⟩
   .simp[yA] at ey
  .have e1:yA ((k1,x1,y1)::r) k=yA r k:=by simp[yA,uL,e]
   have e2:Wt ((k1,b1,w1)::rs) k=Wt rs k:=by simp[Wt,uL,e]
   rw[e1,e2];exact⟨i1,i2⟩
theorem NX.append {ae r:List (NK×Xv×Xv)} {ks rs:List (NK×Addr×V)} (h:NX K j H ae ks) (g:NX K j H r rs):NX K j H (ae++r) (ks++rs):=by
 induction h with
 |nil=>exact g
 |cons e h1 h _ ih=>exact .cons e h1 h ih
theorem NX.put {k:NK} {b:Addr} (hk:Yi x=f7 k/\vW k<=8) (hx:Xis K j H x (.ref b)) (hy:Xis K j H y v) {ae:List (NK×Xv×Xv)} {ks:List (NK×Addr×V)} (h:NX K j H ae ks):NX K j H (XT ae k x y) (zei ks k b v):=by
 have e:(Wt ks k).isSome=(yA ae k).isSome:=by
  cases ev:yA ae k with
  |none=>rw[h.val.2 ev];rfl
  |some z=>obtain⟨w,g,_⟩:=h.val.1 _ ev;rw[g];rfl
 unfold XT zei;rw[e];split
 .rename_i hc;clear hc e
  induction h with
  |nil=>exact .nil
  | @cons k1 x1 y1 b1 v1 r rs ek h1 h l ih=>
   rw[uE,uE];by_cases e:k1=k
   .rw[if_pos e,if_pos e];exact .cons ek h1 hy ih
   .rw[if_neg e,if_neg e];exact .cons ek h1 h ih
 .exact h.append (.cons hk hx hy .nil)
theorem En.dn {n:Nat} {ae:List (NK×Xv×Xv)} (E1:En K F j H σ ρ S) (hx:Xis K j H (.ref n) v) (h:S[n]? =f7 (.dn ae)):∃a ks,v= .ref a/\j[n]? =f7 a/\H a=f7 (.dN ks)/\NX K j H ae ks:=by
 obtain⟨a,rfl,hj⟩:=hx.ref_inv;obtain⟨ks,e1,e2⟩:=E1.cel _ _ _ h hj;exact⟨a,ks,rfl,hj,e1,e2⟩
theorem En.dgetN {r:Option Xv} (E1:En K F j H σ ρ S) (hx:Xis K j H x u) (hy:Xis K j H y w) (h:WW S x y=f7 r):∃a o,u= .ref a/\zdl K H a w o/\o.isSome=r.isSome/\(∀z zd,Xis K j H z zd->Xis K j H (r.getD z) (o.getD zd))/\∀z,r=f7 z->∃z',o=f7 z'/\Xis K j H z z':=by
 unfold WW at h;split at h
 .rename_i n;split at h
  .rename_i ae hs;have hd:TB S (.ref n)=f7 (n,ae):=TJ hs;obtain⟨a,ks,rfl,hj,f1,f2⟩:=E1.dk hx hd;split at h
   .rename_i key ek;cases h;obtain⟨o,g1,g2,g3⟩:=TD (key:=key) f1 f2;refine⟨a,o,rfl,.inl (by rw[TC hy ek];exact g1),g2,g3,λz hz=> ?_⟩;have:=g3 .non .non .non;rw[hz] at this g2;cases o with
    |none=>cases g2
    |some z'=>exact⟨z',rfl,this⟩
   .split at h
    .rename_i hc;cases h;obtain⟨k,hk⟩:=y7.1 hc.2;obtain⟨b,rfl,hn,iF,_⟩:=TN hy hk;have:ae=[]:=Dg.1 hc.1;subst this;cases f2;exact⟨a,gC,rfl,.inr ⟨k,b,rfl,hn,iF,.inr ⟨f1,rfl⟩⟩,rfl,λz zd hz=>hz,λz hz=>by cases hz⟩
    .cases h
  .rename_i ae hs;obtain⟨a,ks,rfl,hj,f1,f2⟩:=E1.dn hx hs;rw[uI] at h;obtain⟨k,hk,rfl⟩:=h;obtain⟨b,rfl,hn,iF,_⟩:=TN hy hk;refine⟨a,Wt ks k,rfl,.inr ⟨k,b,rfl,hn,iF,.inl ⟨ks,.inl f1,f2.nis,rfl⟩⟩,?_,λz zd hz=> ?_,λz hz=>f2.val.1 z hz⟩
   .cases ev:yA ae k with
    |none=>rw[f2.val.2 ev];rfl
    |some z=>obtain⟨w,g,_⟩:=f2.val.1 _ ev;rw[g];rfl
   .cases ev:yA ae k with
    |none=>rw[f2.val.2 ev];exact hz
    |some z=>obtain⟨w,g,g2⟩:=f2.val.1 _ ev;rw[g];exact g2
  .rename_i ae hs;obtain⟨a,rfl,hj⟩:=hx.ref_inv;obtain⟨o,ks,f1,f2⟩:=E1.cel _ _ _ hs hj;rw[uI] at h;obtain⟨k,hk,rfl⟩:=h;obtain⟨b,rfl,hn,iF,_⟩:=TN hy hk;refine⟨a,Wt ks k,rfl,.inr ⟨k,b,rfl,hn,iF,.inl ⟨ks,.inr ⟨o,f1⟩,f2.nis,rfl⟩⟩,?_,λz zd hz=> ?_,λz hz=>f2.val.1 z hz⟩
   .cases ev:yA ae k with
    |none=>rw[f2.val.2 ev];rfl
    |some z=>obtain⟨w,g,_⟩:=f2.val.1 _ ev;rw[g];rfl
   .cases ev:yA ae k with
    |none=>rw[f2.val.2 ev];exact hz
    |some z=>obtain⟨w,g,g2⟩:=f2.val.1 _ ev;rw[g];exact g2
  .cases h
 .cases h
theorem En.dputN {S':Sto} (E1:En K F j H σ ρ S) (hx:Xis K j H x u) (hy:Xis K j H y w) (hz:Xis K j H z v) (h:TM S x y z=f7 S'):∃a H',u= .ref a/\zk5 K H a w v H'/\En K F j H' σ ρ S'/\Ext j H j H':=by
 unfold TM at h;split at h
 .rename_i n;split at h
  .rename_i ae hs;have hd:TB S (.ref n)=f7 (n,ae):=TJ hs;obtain⟨a,ks,rfl,hj,f1,f2⟩:=E1.dk hx hd;split at h
   .rename_i key ek;split at h
    .rename_i hl;cases h;obtain⟨E4,X4⟩:=E1.wdk hd hj (f2.put (k:=key) hz);refine⟨a,_,rfl,.inl ?_,E4,X4⟩;rw[TC hy ek];exact zgC.k f1 (by rw[f2.len];exact hl)
    .cases h
   .split at h
    .rename_i hc;rw[uI] at h;obtain⟨k,hk,rfl⟩:=h;obtain⟨b,rfl,hn,iF,nr⟩:=TN hy hk;have:ae=[]:=Dg.1 hc;subst this;cases f2;obtain⟨E4,X4⟩:=E1.write (o:= .dN [(k,b,v)]) (c':= .dn [(k,y,z)]) hs rfl hj rfl λX=>⟨_,zJ,.cons ⟨nr,iF⟩ (hy.mono X) (hz.mono X) .nil⟩;exact⟨a,_,rfl,.inr ⟨k,b,rfl,hn,iF,.inr ⟨f1,rfl⟩⟩,E4,X4⟩
    .cases h
  .rename_i ae hs;obtain⟨a,ks,rfl,hj,f1,f2⟩:=E1.dn hx hs;split at h
   .rename_i hl;rw[uI] at h;obtain⟨k,hk,rfl⟩:=h;obtain⟨b,rfl,hn,iF,nr⟩:=TN hy hk;obtain⟨E4,X4⟩:=E1.write (o:= .dN (zei ks k b v)) (c':= .dn (XT ae k y z)) hs rfl hj rfl λX=>⟨_,zJ,(f2.put ⟨nr,iF⟩ hy hz).mono X⟩;exact⟨a,_,rfl,.inr ⟨k,b,rfl,hn,iF,.inl ⟨ks,f1,f2.nis,by rw[f2.len];exact hl,rfl⟩⟩,E4,X4⟩
   .cases h
  .cases h
 .cases h
noncomputable def zek (d k:TwE):TwE:=λρ S=>rb (d ρ S) λx S1=>rb (k ρ S1) λy S2=>(WW S2 x y).bind λo=>o.map λz=> .ok z S2
theorem zfC {td ty:TE} {d k:TwE} (hd:RE K E td d) (hk:RE K E ty k):RE K E (zk7 K td ty) (zek d k):=by
 intro F j σ H ρ S r Q En0 e kk;rcases zu e with⟨x,S1,e1,e⟩|⟨c,S1,e1,rfl⟩
 .refine hd En0 e1 λj1 H1 X1 E1 u hu=> ?_;rcases zu e with⟨y,S2,e2,e⟩|⟨c,S2,e2,rfl⟩
  .refine hk E1 e2 λj2 H2 X2 E2 w hw=> ?_;cases ed:WW S2 x y with
   |none=>rw[ed] at e;cases e
   |some o=>
    rw[ed,uz] at e;cases o with
    |none=>cases e
    |some z=>
     cases e;obtain⟨a,o,rfl,g,_,_,g3⟩:=E2.dgetN (hu.mono X2) hw ed;obtain⟨z',rfl,hz⟩:=g3 z rfl;exact⟨a,z',rfl,g,kk _ _ (X1.trans X2) E2 _ hz⟩
  .exact hk E1 e2 (PX.mono kk X1)
 .exact hd En0 e1 kk
noncomputable def zia (neg:Bool) (k d:TwE):TwE:=λρ S=>rb (k ρ S) λy S1=>rb (d ρ S1) λx S2=>(WW S2 x y).map λo=> .ok (.bl (neg !=o.isSome)) S2
theorem zib {neg:Bool} {td ty:TE} {d k:TwE} (hk:RE K E ty k) (hd:RE K E td d):RE K E (znM K neg ty td) (zia neg k d):=by
 intro F j σ H ρ S r Q En0 e kk;rcases zu e with⟨y,S1,e1,e⟩|⟨c,S1,e1,rfl⟩
 .refine hk En0 e1 λj1 H1 X1 E1 u hu=> ?_;rcases zu e with⟨x,S2,e2,e⟩|⟨c,S2,e2,rfl⟩
  .refine hd E1 e2 λj2 H2 X2 E2 w hw=> ?_;cases ed:WW S2 x y with
   |none=>rw[ed] at e;cases e
   |some o=>
    rw[ed] at e;cases e;obtain⟨a,o',rfl,g,g1,_,_⟩:=E2.dgetN hw (hu.mono X2) ed;refine⟨a,o',rfl,g,kk _ _ (X1.trans X2) E2 _ ?_⟩;rw[g1];exact .bl _
  .exact hd E1 e2 (PX.mono kk X1)
 .exact hk En0 e1 kk
def zbj (d k v:TwE):TwS:=λρ S=>sb (v ρ S) λz S1=>sb (d ρ S1) λx S2=>sb (k ρ S2) λy S3=>(TM S3 x y z).map λS4=> .nx ρ S4
theorem zfD {td ty tv:TE} {d k v:TwE} (hd:RE K E td d) (hk:RE K E ty k) (hv:RE K E tv v):RS K E (zk8 K td ty tv) (zbj d k v):=by
 intro F j D' σ H ρ S fl E0 e kk;rcases xo e with⟨z,S1,e1,e⟩|⟨c,S1,e1,rfl⟩
 .refine hv E0 e1 λj1 H1 X1 E1 wz nz=> ?_;rcases xo e with⟨x,S2,e2,e⟩|⟨c,S2,e2,rfl⟩
  .refine hd E1 e2 λj2 H2 X2 E2 u hu=> ?_;rcases xo e with⟨y,S3,e3,e⟩|⟨c,S3,e3,rfl⟩
   .refine hk E2 e3 λj3 H3 X3 E3 w hw=> ?_;cases ed:TM S3 x y z with
    |none=>rw[ed] at e;cases e
    |some S4=>
     rw[ed] at e;cases e;obtain⟨a,H4,rfl,g,E4,X4⟩:=E3.dputN (hu.mono X3) hw (nz.mono (X2.trans X3)) ed;exact⟨a,H4,rfl,g,kk _ _ _ (X1.trans (X2.trans (X3.trans X4))) E4⟩
   .exact hk E2 e3 (PX.mono kk (X1.trans X2))
  .exact hd E1 e2 (PX.mono kk X1)
 .exact hv E0 e1 kk
end
section
variable {K:u5} {j:List Addr} {H:Hp}
end
section
variable {ρ:Rho} {S:Sto} {P:Xv->Sto->Prop} {N:Rho->Sto->Prop} {R:Xv->Sto->Prop} {a b m z:TwE} {x y:Xv}
theorem zfE (h:W (a ρ S) λx S1=>W (b ρ S1) λy S2=>∃z,WW S2 x y=f7 (f7 z)/\P z S2):W (zek a b ρ S) P:=
 W.bind (h.imp λ_ _ h=>W.bind (h.imp λ_ _ h=>by obtain⟨z,e1,q⟩:=h;rw[e1];exact .of rfl q))
theorem zic {neg:Bool} (h:W (a ρ S) λy S1=>W (b ρ S1) λx S2=>∃o,WW S2 x y=f7 o/\P (.bl (neg !=o.isSome)) S2):W (zia neg a b ρ S) P:=
 W.bind (h.imp λ_ _ h=>W.bind (h.imp λ_ _ h=>by obtain⟨o,e1,q⟩:=h;rw[e1];exact .of rfl q))
theorem zb2 (h:W (m ρ S) λz S1=>W (a ρ S1) λx S2=>W (b ρ S2) λy S3=>∃S4,TM S3 x y z=f7 S4/\N ρ S4):WS (zbj a b m ρ S) N R:=
 WS.bind (h.imp λ_ _ h=>WS.bind (h.imp λ_ _ h=>WS.bind (h.imp λ_ _ h=>by obtain⟨S4,e1,q⟩:=h;rw[e1];exact .nx rfl q)))
end
noncomputable def zb3 (S:Sto) (x:Xv) (nm:Str):Option (Nat×List (Str×Xv)):=match x with
 | .ref n=>match S[n]? with
  |some (.ins nm' fs)=>if nm'=nm then f7 (n,fs) else gC
  |_=>gC
 |_=>gC
theorem zdn {S:Sto} {x:Xv} {nm:Str} {n:Nat} {fs:List (Str×Xv)} (h:zb3 S x nm=f7 (n,fs)):x= .ref n/\S[n]? =f7 (.ins nm fs):=by
 unfold zb3 at h;split at h
 .split at h
  .split at h
   .rename_i e1 e2;cases h;subst e2;exact⟨rfl,e1⟩
   .cases h
  .cases h
 .cases h
theorem zel {S:Sto} {nm:Str} {n:Nat} {fs:List (Str×Xv)} (h:S[n]? =f7 (.ins nm fs)):zb3 S (.ref n) nm=f7 (n,fs):=by
 unfold zb3;dsimp only;rw[h];dsimp only;rw[if_pos rfl]
noncomputable def zcG (f:Str) (v:Xv):List (Str×Xv)->List (Str×Xv)
 |[]=>[(f,v)]
 |(g,x)::r=>if g=f then (g,v)::r else (g,x)::zcG f v r
section
variable {K:u5} {E:XK} {F:Fm} {j:List Addr} {H:Hp} {σ:St} {ρ:Rho} {S:Sto} {x:Xv} {v:V} {nm f m:Str} {C:Addr}
theorem KX.look {fs:List (Str×Xv)} {vs:List (Str×V)} (h:KX K j H fs vs):(∀y,fs.lookup f=f7 y->∃w,vs.lookup f=f7 w/\Xis K j H y w)/\(fs.lookup f=gC->vs.lookup f=gC):=by
 induction h with
 |nil=>exact⟨(λ_ e=>by cases e),λ_=>rfl⟩
 | @cons g y1 w1 r rs h l ih=>
  obtain⟨i1,i2⟩:=ih;rw[y3,y3];cases hb:(f==g) with
  |true=>exact⟨(λy e=>by cases e;exact⟨w1,rfl,h⟩),(λe=>by cases e)⟩
  |false=>exact⟨i1,i2⟩
theorem KX.putF (hx:Xis K j H x v) {fs:List (Str×Xv)} {vs:List (Str×V)} (h:KX K j H fs vs):KX K j H (zcG f x fs) (Wj f v vs):=by
 induction h with
 |nil=>exact .cons hx .nil
 | @cons g y1 w1 r rs h l ih=>
  unfold zcG L2.Wj;by_cases e:g=f
  .rw[if_pos e,if_pos e];exact .cons hx l
  .rw[if_neg e,if_neg e];exact .cons h ih
theorem En.ins {n:Nat} {fs:List (Str×Xv)} (dE:um K mainGlobals nm=f7 (f7 (.ref C))) (E1:En K F j H σ ρ S) (hx:Xis K j H x v) (h:zb3 S x nm=f7 (n,fs)):∃a dx vs,v= .ref a/\j[n]? =f7 a/\H a=f7 (.ins C dx vs)/\KX K j H fs vs:=by
 obtain⟨rfl,hs⟩:=zdn h;obtain⟨a,rfl,hj⟩:=hx.ref_inv;obtain⟨C',dx,vs,e0,e1,e2⟩:=E1.cel _ _ _ hs hj;rw[dE] at e0;cases e0;exact⟨a,dx,vs,rfl,hj,e1,e2⟩
noncomputable def xR (nm f:Str) (o:TwE):TwE:=λρ S=>rb (o ρ S) λx S1=>(zb3 S1 x nm).bind λp=>(p.2.lookup f).map λy=> .ok y S1
theorem vc {to:TE} {o:TwE} (dE:um K mainGlobals nm=f7 (f7 (.ref C))) (hc:Cls K C) (hn:Ye K C f) (h:RE K E to o):RE K E (zpJ K to f) (xR nm f o):=by
 intro F j σ H ρ S r Q En0 e k;rcases zu e with⟨x,S1,e1,e⟩|⟨c,S1,e1,rfl⟩
 .refine h En0 e1 λj1 H1 X1 E1 u hu=> ?_;rw[v3] at e;obtain⟨⟨n,fs⟩,e2,e⟩:=e;rw[uI] at e;obtain⟨y,e3,rfl⟩:=e;obtain⟨a,dx,vs,rfl,hj,f1,f2⟩:=E1.ins dE hu e2;obtain⟨w,g1,g2⟩:=f2.look.1 y e3;exact⟨a,C,dx,vs,w,rfl,f1,hc,hn,g1,k _ _ X1 E1 _ g2⟩
 .exact h En0 e1 k
def zfF (nm f:Str) (o m:TwE):TwS:=λρ S=>sb (m ρ S) λy S1=>sb (o ρ S1) λx S2=>(zb3 S2 x nm).bind λp=>if p.2.length<1000 then f7 (.nx ρ (S2.set p.1 (.ins nm (zcG f y p.2)))) else gC
theorem KX.len2 {fs:List (Str×Xv)} {vs:List (Str×V)} (h:KX K j H fs vs):vs.length=fs.length:=by
 induction h with
 |nil=>rfl
 |cons h _ ih=>exact congrArg (· +1) ih
theorem zid {to tv:TE} {o m:TwE} (dE:um K mainGlobals nm=f7 (f7 (.ref C))) (hc:Cls K C) (hn:Ye K C f) (ho:RE K E to o) (hv:RE K E tv m):RS K E (zpK K to tv f) (zfF nm f o m):=by
 intro F j D' σ H ρ S fl E0 e kk;rcases xo e with⟨y,S1,e1,e⟩|⟨c,S1,e1,rfl⟩
 .refine hv E0 e1 λj1 H1 X1 E1 wy qV=> ?_;rcases xo e with⟨x,S2,e2,e⟩|⟨c,S2,e2,rfl⟩
  .refine ho E1 e2 λj2 H2 X2 E2 u hu=> ?_;rw[v3] at e;obtain⟨⟨n,fs⟩,e3,e⟩:=e;dsimp only at e;split at e
   .rename_i hl;cases e;obtain⟨a,dx,vs,rfl,hj,f1,f2⟩:=E2.ins dE hu e3;obtain⟨E4,X4⟩:=E2.write (o:= .ins C dx (L2.Wj f wy vs)) (c':= .ins nm (zcG f y fs)) (zdn e3).2 rfl hj rfl λX=>⟨C,dx,_,dE,zJ,(KX.putF (qV.mono X2) f2).mono X⟩;exact⟨a,C,dx,vs,rfl,f1,hc,hn,by rw[f2.len2];exact hl,kk _ _ _ (X1.trans (X2.trans X4)) E4⟩
   .cases e
  .exact ho E1 e2 (PX.mono kk X1)
 .exact hv E0 e1 kk
noncomputable def yp (nm m:Str) (tw:TwF) (o:TwE) (ms:List TwE):TwE:=λρ S=>rb (o ρ S) λx S1=>(zb3 S1 x nm).bind λp=>if p.2.lookup m=gC then rb (evL ms ρ S1) λxs S2=>tw (x::xs) S2 else gC
theorem xN {n:Nat} {tw:TwF} {o:TwE} {to:TE} {ms:List TwE} {t:TA} (dE:um K mainGlobals nm=f7 (f7 (.ref C))) (ho:RE K E to o) (h:RL K E t (evL ms)) (hn:ms.length+1=n:=by rfl):RE K E (zjN C m (sTw K n tw) [] E to t) (yp nm m tw o ms):=by
 intro F j σ H ρ S r Q En0 e k;rcases zu e with⟨x,S1,e1,e⟩|⟨c,S1,e1,rfl⟩
 .refine ho En0 e1 λj1 H1 X1 E1 u hu=> ?_;rw[v3] at e;obtain⟨⟨q,fs⟩,e2,e⟩:=e;dsimp only at e;split at e
  .rename_i nW;obtain⟨a,dx,mF,rfl,hj,f1,f2⟩:=E1.ins dE hu e2;refine⟨a,dx,mF,rfl,f1,f2.look.2 nW,?_⟩;rcases zu e with⟨xs,S2,e3,e⟩|⟨c,S2,e3,rfl⟩
   .refine h E1 e3 λj2 H2 X2 E2 vs hv=> ?_;rw[y0];exact Yb E2 (.cons (hu.mono X2) hv) (by rw[ux,hv.len,ZQ e3,hn]) e (k.step (X1.trans X2))
   .exact h E1 e3 (k.step X1)
  .cases e
 .exact ho En0 e1 k
noncomputable def zem (nm:Str) (tw:TwF) (ms:List TwE):TwE:=λρ S=>rb (evL ms ρ S) λxs S1=>match tw (.ref S1.length::xs) (S1++[.ins nm []]) with
 |some (.ok .non S2)=>f7 (.ok (.ref S1.length) S2)
 |_=>gC
theorem zfG {n:Nat} {tw:TwF} {ms:List TwE} {t:TA} (dE:um K mainGlobals nm=f7 (f7 (.ref C))) (h:RL K E t (evL ms)) (hn:ms.length+1=n:=by rfl):RE K E (znz C (sTw K n tw) [] E t) (zem nm tw ms):=by
 intro F j σ H ρ S r Q En0 e k;rcases zu e with⟨xs,S1,e1,e⟩|⟨c,S1,e1,rfl⟩
 .refine h En0 e1 λj1 H1 X1 E1 vs hv=> ?_;intro x dx hx lj gH;rw[y0];split at e
  .rename_i S2 e2;cases e;have kP:upd H1 dx (.own x) x=gC:=by rw[zB (λz=>gH z.symm)];exact hx
   obtain⟨E2,X2⟩:=E1.new (p:=dx) (o:= .own x) lj;obtain⟨E3,X3⟩:=E2.cell (p:=x) (o:= .ins C dx []) (c:= .ins nm []) kP ⟨C,dx,[],dE,zJ,.nil⟩;have X23:=X2.trans X3;have hr:Xis K (j1++[x]) (upd (upd H1 dx (.own x)) x (.ins C dx [])) (.ref S1.length) (.ref x):= .ref (by rw[<-E1.jl];simp);refine Yb E3 (.cons hr (hv.mono X23)) (by rw[ux,hv.len,ZQ e1,hn]) e2 λj' H' X E4 v hw=> ?_;exact⟨hw.non_inv,k _ _ (X1.trans (X23.trans X)) E4 _ (hr.mono X)⟩
  .cases e
 .exact h En0 e1 k
end
section
variable {ρ:Rho} {S:Sto} {P:Xv->Sto->Prop} {N:Rho->Sto->Prop} {R:Xv->Sto->Prop} {o m:TwE} {ms:List TwE} {nm f:Str}
theorem yM (h:W (o ρ S) λx S1=>∃n fs y,x= .ref n/\S1[n]? =f7 (.ins nm fs)/\fs.lookup f=f7 y/\P y S1):W (xR nm f o ρ S) P:=
 W.bind (h.imp λ_ _ h=>by obtain⟨n,fs,y,rfl,e1,e2,q⟩:=h;rw[zel e1,uz,e2];exact .of rfl q)
theorem zen (h:W (m ρ S) λy S1=>W (o ρ S1) λx S2=>∃n fs,x= .ref n/\S2[n]? =f7 (.ins nm fs)/\fs.length<1000/\N ρ (S2.set n (.ins nm (zcG f y fs)))):WS (zfF nm f o m ρ S) N R:=
 WS.bind (h.imp λ_ _ h=>WS.bind (h.imp λ_ _ h=>by obtain⟨n,fs,rfl,e1,e2,q⟩:=h;rw[zel e1,uz,if_pos e2];exact .nx rfl q))
theorem ye {tw:TwF} (h:W (o ρ S) λx S1=>∃n fs,x= .ref n/\S1[n]? =f7 (.ins nm fs)/\fs.lookup f=gC/\W (evL ms ρ S1) λxs S2=>W (tw (x::xs) S2) P):W (yp nm f tw o ms ρ S) P:=
 W.bind (h.imp λ_ _ h=>by obtain⟨n,fs,rfl,e1,e2,q⟩:=h;rw[zel e1,uz,if_pos e2];exact W.bind (q.imp λ_ _ h=>h))
theorem zmH {tw:TwF} (h:W (evL ms ρ S) λxs S1=>W (tw (.ref S1.length::xs) (S1++[.ins nm []])) λv S2=>v= .non/\P (.ref S1.length) S2):W (zem nm tw ms ρ S) P:=
 W.bind (h.imp λxs S1 h=>by
  obtain⟨v,S2,e,rfl,q⟩:=h;rw[e]
  exact .of rfl q)
end
theorem zbk {K:u5} {X:Cx} (h:X.K=K:=by rfl):IxR X (rIx K):=h ▸ zoj
noncomputable def UB (lo:Int) (n:Nat):List Xv:=(v7 n).map λ(k:Nat)=>Xv.int (lo-(k:Int))
def iR3 (m n o:TwE):TwI:=λρ S=>rb (m ρ S) λx S1=>rb (n ρ S1) λy S2=>rb (o ρ S2) λz S3=>match x,y,z with
 | .int i,.int j,.int c=>if c= -1/\Builtin.Range.small i j (-1)=ia then f7 (.ok (λ_=>f7 (UB i (i-j).toNat)) S3) else gC
 |_,_,_=>gC
section
variable {K:u5} {E:XK} {j:List Addr} {H:Hp}
theorem zmI {lo:Int} {n:Nat}:To K j H (zop lo (-1) n) (λ_=>f7 (UB lo n)):=by
 intro F2 j2 H2 σ2 ρ2 S2 xs i X2 E2 e2;cases e2;refine⟨λd hd=> ?_,λhle=> ?_⟩
 .unfold UB at hd;rw[uf] at hd;have hi:i<n:=by
   apply Ai;intro hn;rw[uA (by simp;omega)] at hd;cases hd
  rw[Ba hi] at hd;cases hd;refine⟨hi,?_⟩;rintro x H' ⟨rfl,rfl⟩;refine⟨Xl.refl _,?_⟩;dsimp only;rw[show lo-(i:Int)=lo+(i:Int)* -1 by omega];exact .int _
 .unfold UB at hle;simp at hle;show n<=i;omega
theorem zjd (i j:Int):(Builtin.Range.rangeSize i j (-1)).toNat=(i-j).toNat:=by
 unfold Builtin.Range.rangeSize;rw[if_neg ∅];split
 .rw[show -(-1:Int)=1 by decide,C4];omega
 .omega
theorem zje {t u v:TE} {m n o:TwE} (h:RE K E t m) (h2:RE K E u n) (h3:RE K E v o):RI K E (znN (YN t (YN u (YN v zdP)))) (iR3 m n o):=by
 intro F j σ H ρ S r R En0 e k;rcases zu e with⟨x,S1,e1,e⟩|⟨c,S1,e1,rfl⟩
 .refine h En0 e1 λj1 H1 X1 E1 u hu=> ?_;rcases zu e with⟨y,S2,e2,e⟩|⟨c,S2,e2,rfl⟩
  .refine h2 E1 e2 λj2 H2 X2 E2 w hw=> ?_;rcases zu e with⟨z,S3,e3,e⟩|⟨c,S3,e3,rfl⟩
   .refine h3 E2 e3 λj3 H3 X3 E3 wz hz=> ?_;split at e
    .split at e
     .rename_i hb;cases e;obtain⟨rfl,jL⟩:=hb;refine⟨_,_, -1,by rw[hu.int_inv,hw.int_inv,hz.int_inv],⟨∅,∅⟩,jL,?_⟩;rw[zjd];exact k _ _ (X1.trans (X2.trans X3)) E3 _ zmI
     .cases e
    .cases e
   .exact h3 E2 e3 (PX.mono k (X1.trans X2))
  .exact h2 E1 e2 (PX.mono k X1)
 .exact h En0 e1 k
end
theorem zjf (lo:Int) (n:Nat):(UB lo n).length=n:=by simp[UB]
theorem zla {lo:Int} {n i:Nat} {x:Xv} (h:(UB lo n)[i]? =f7 x):i<n/\x= .int (lo-i):=by
 unfold UB at h;rw[uf] at h;have hi:i<n:=by
  apply Ai;intro hn;rw[uA (by simp;omega)] at h;cases h
 rw[Ba hi] at h;cases h;exact⟨hi,rfl⟩
theorem zoY {ρ:Rho} {S:Sto} {Q':(Sto->Option (List Xv))->Sto->Prop} {m n o:TwE} (h:W (m ρ S) λx S1=>W (n ρ S1) λy S2=>W (o ρ S2) λz S3=>∃i j,x= .int i/\y= .int j/\z= .int (-1)/\Builtin.Range.small i j (-1)=ia/\Q' (λ_=>f7 (UB i (i-j).toNat)) S3):W (iR3 m n o ρ S) Q':=
 W.bind (h.imp λ_ _ h=>W.bind (h.imp λ_ _ h=>W.bind (h.imp λ_ _ h=>by
  obtain⟨i,j,rfl,rfl,rfl,e,q⟩:=h;dsimp only;rw[if_pos ⟨rfl,e⟩]
  exact .of rfl q)))
theorem zhb {i:Int} (h0: -1<=i) (h1:i<1000):Builtin.Range.small i (-1) (-1)=ia:=by
 unfold Builtin.Range.small;have hs:Builtin.Range.rangeSize i (-1) (-1)=i+1:=by
  unfold Builtin.Range.rangeSize;rw[if_neg ∅];split
  .rw[show -(-1:Int)=1 by decide,C4];omega
  .omega
 rw[hs];simp only[Builtin.Range.rangeFitsLong,uX,BD,decide_eq_true_eq,beq_iff_eq,show ¬((-1:Int)>0) by decide,if_false];omega
def zhc (c:Str) (ms:List TwE):TwS:=λρ S=>sb (evL ms ρ S) λ_ S1=>f7 (.ex c S1)
section
variable {K:u5} {E:XK} {F:Fm} {j:List Addr} {H:Hp} {σ:St} {ρ:Rho} {S:Sto} {x:Xv} {v:V} {c:Str} {C:Addr}
theorem zlb {ms:List TwE} {t:TA} (dE:um K mainGlobals c=f7 (f7 (.ref C))) (h:RL K E t (evL ms)) (hl:ms.length<=10:=by decide):RS K E (zj2 C E t) (zhc c ms):=by
 intro F j D' σ H ρ S fl E0 e kk;rcases xo e with⟨xs,S1,e1,e⟩|⟨c',S1,e1,rfl⟩
 .cases e;refine h E0 e1 λj1 H1 X1 E1 vs hv=>⟨?_,kk _ _ _ _ C X1 E1 dE⟩;rw[hv.len,ZQ e1];exact uC hl ∅
 .exact h E0 e1 kk
def RLx (K:u5) (t:TAx) (is:List Nat):Prop:=∀{F:Fm} {j:List Addr} {σ:St} {H:Hp} {ρ:Rho} {S:Sto} {xs:List Xv} {Q:List V->Hp->Prop} {EX:Value->Hp->Prop},En K F j H σ ρ S->is.mapM (λi=>ρ[i]?.join)=f7 xs->(∀vs,yc K j H xs vs->Q vs H)->t σ H Q EX
theorem zmJ:RLx K zpS []:=λ_ e k=>by
 cases e;exact k _ .nil
theorem zbl {t:TAx} {is:List Nat} (i:Nat) (h:RLx K t is):RLx K (znG (xE (zlX i)) t) (i::is):=by
 intro F j σ H ρ S xs Q EX E0 e k;rw[Dp] at e;cases e1:ρ[i]? with
 |none=>rw[e1] at e;cases e
 |some o=>
  cases o with
  |none=>rw[e1] at e;cases e
  |some x=>
   rw[e1] at e;cases e2:is.mapM (λi=>ρ[i]?.join) with
   |none=>rw[e2] at e;cases e
   |some ys=>
    rw[e2] at e;cases e;obtain⟨v,e3,hv⟩:=E0.slot i x e1;exact⟨v,e3,h E0 e2 λvs jt=>k _ (.cons hv jt)⟩
noncomputable def zlc (i:Nat) (k:Option Nat) (tw:TwF) (is:List Nat) (ok:List Str) (h:TwS):TwS:=λρ S=>(is.mapM (λi=>ρ[i]?.join)).bind λxs=>match tw xs S with
 |some (.ok v S2)=>f7 (.nx (match k with|some k=>ρ.set k (f7 v)|none=>ρ) S2)
 |some (.ex c S2)=>if c∈ok then match h (ρ.set i (f7 (.ref S2.length))) (S2++[.exc c]) with
  |some (.nx ρ' S')=>f7 (.nx (ρ'.set i gC) S')
  |_=>gC
  else gC
 |none=>gC
def zaU (K:u5) (D:Value) (ok:List Str):Prop:=∀c∈ok,∀C,um K mainGlobals c=f7 (f7 (.ref C))->Ax K (.ref C) D=f7 ia
theorem zfH {ρ:Rho}:∀{is:List Nat} {xs:List Xv},is.mapM (λi=>ρ[i]?.join)=f7 xs->xs.length=is.length
 |[],_,e=>by cases e;rfl
 |i::is,xs,e=>by
  rw[Dp] at e;cases e1:ρ[i]?.join with
  |none=>rw[e1] at e;cases e
  |some x=>
   rw[e1] at e;cases e2:is.mapM (λi=>ρ[i]?.join) with
   |none=>rw[e2] at e;cases e
   |some ys=>
    rw[e2] at e;cases e;simp[zfH e2]
theorem En.unset (E0:En K F j H σ ρ S) (i:Nat):En K F j H (σ.set i gC) (ρ.set i gC) S:=E0.slots (by simp[E0.len]) λn y e=>by
 rw[uZ] at e ⊢;split at e
 .split at e<;>cases e
 .rename_i q;rw[if_neg q];exact E0.slot n y e
theorem zoZ {i n:Nat} {k:Option Nat} {tw:TwF} {is:List Nat} {ok:List Str} {D:Value} {t:TAx} {tb:TEx->TSx} {th:TS} {h:TwS} (hit:zaU K D ok) (ht:RLx K t is)
  (hk:(∃m,k=f7 m/\tb=λte=>zpT m te)\/(k=gC/\tb=λte=>zj6 te)) (hh:RS K E th h) (hn:is.length=n:=by rfl):
  RS K E (zgF i (λcls=>Ax K cls D=f7 ia) (tb (zhS (sTw K n tw) [] t)) th) (zlc i k tw is ok h):=by
 intro F j D' σ H ρ S fl E0 e kk;unfold zlc at e;rw[v3] at e;obtain⟨xs,ex,e⟩:=e
 have go:∀{Q:V->Hp->Prop},(∀(v:Xv) S2,tw xs S=f7 (.ok v S2)->∀j' H',Ext j H j' H'->En K F j' H' σ ρ S2->∀w,Xis K j' H' v w->Q w H')->zhS (sTw K n tw) [] t σ H Q (λcls H'=>Ax K cls D=f7 ia/\∀e,H' e=gC->
   th {nx:=λσ' H'=>D'.nx (σ'.set i gC) H',rt:=D'.rt,bk:=λσ' H'=>D'.bk (σ'.set i gC) H',ct:=λσ' H'=>D'.ct (σ'.set i gC) H'} (σ.set i (f7 (.ref e))) (upd H' e (zd0 e cls))):=by
  intro Q hq;unfold zhS;refine ht E0 ex λvs jt=> ?_;rw[y0];cases er:tw xs S with
  |none=>rw[er] at e;cases e
  |some r=>
   refine Yb E0 jt (by rw[jt.len,zfH ex,hn]) er ?_;cases r with
   |ok v S2=>exact λj' H' X E1 w hw=>hq v S2 er j' H' X E1 w hw
   |ex c S2=>
    rw[er] at e;dsimp only at e;split at e
    .rename_i hc;intro j' H' σ' ρ' C X E1 hC;refine⟨hit c hc C hC,λa ha=> ?_⟩;split at e
     .rename_i ρ3 S3 e3;cases e;have E2:=E0.back E1 X;obtain⟨E4,X4⟩:=E2.cell (p:=a) (o:=zd0 a (.ref C)) (c:= .exc c) ha ⟨C,hC,zJ⟩;have hr:Xis K (j'++[a]) (upd H' a (zd0 a (.ref C))) (.ref S2.length) (.ref a):= .ref (by rw[<-E1.jl];simp);have E5:=E4.set (i:=i) hr;refine hh E5 e3 ?_;intro σ6 j6 H6 X6 E6;exact kk _ _ _ (X.trans (X4.trans X6)) (E6.unset i)
     .cases e
    .cases e
 unfold zgF;rcases hk with⟨m,rfl,rfl⟩|⟨rfl,rfl⟩
 .unfold zpT;refine go λv S2 er j' H' X E1 w hw=> ?_;rw[er] at e;cases e;exact kk _ _ _ X (E1.set hw)
 .unfold zj6;refine go λv S2 er j' H' X E1 w hw=> ?_;rw[er] at e;cases e;exact kk _ _ _ X E1
noncomputable def za4 (tbl:Str->Option Bool):Xv->Sto->Option (Xv×Sto):=λx S=>match x with
 | .ref n=>match S[n]? with
  |some (.exc c)=>(tbl c).map λb=>(.bl b,S)
  |_=>gC
 |_=>gC
def UC (K:u5) (D:Value) (tbl:Str->Option Bool):Prop:=∀c C b,um K mainGlobals c=f7 (f7 (.ref C))->tbl c=f7 b->YR K C/\uN K (.ref C) D=f7 b
def Vw (K:u5) (Ds:List Value) (tbl:Str->Option Bool):Prop:=∀c C b,um K mainGlobals c=f7 (f7 (.ref C))->tbl c=f7 b->YR K C/\Ay K (.ref C) Ds=f7 b
theorem zdo {tbl:Str->Option Bool} {z:Xv} {S':Sto} (h:za4 tbl x S=f7 (z,S')):∃n c b,x= .ref n/\S[n]? =f7 (.exc c)/\tbl c=f7 b/\z= .bl b/\S'=S:=by
 unfold za4 at h;split at h
 .split at h
  .rename_i n _ c e;rw[uI] at h;obtain⟨b,e1,e2⟩:=h;cases e2;exact⟨n,c,b,rfl,e,e1,rfl,rfl⟩
  .cases h
 .cases h
theorem zld {tbl:Str->Option Bool} {t:TE} {m:TwE} {c:V} {D:Value} (hc:ziO c=f7 D) (ok:UC K D tbl) (h:RE K E t m):RE K E (tCB (zkc K) (YN t (YN (tC c) zdP))) (eUn (za4 tbl) m):=by
 intro F j σ H ρ S r Q En0 e k;rcases zu e with⟨x,S1,e1,e⟩|⟨c,S1,e1,rfl⟩
 .obtain⟨z,S3,e3,rfl⟩:=vA e;obtain⟨n,cn,b,rfl,hs,ht,rfl,rfl⟩:=zdo e3;refine h En0 e1 λj1 H1 X1 E1 u hu=> ?_;obtain⟨a,rfl,hj⟩:=hu.ref_inv;obtain⟨C,hC,hH⟩:=E1.cel _ _ _ hs hj;obtain⟨f1,f2⟩:=ok cn C b hC ht;exact⟨.ref a,c,D,.ref C,b,rfl,hc,.exc hH f1,f2,k _ _ X1 E1 _ (.bl _)⟩
 .exact h En0 e1 k
def TAC (t:TA) (cs:List V):Prop:=∀σ H (Q:List V->Hp->Prop),Q cs H->t σ H Q
theorem zmK:TAC zdP []:=λ_ _ _ q=>q
theorem XU {t:TA} {cs:List V} (c:V) (h:TAC t cs):TAC (YN (tC c) t) (c::cs):=λσ H Q q=>h σ H _ q
theorem zmL {tbl:Str->Option Bool} {t:TE} {m:TwE} {ta:TA} {cs:List V} {Ds:List Value} (rg:TAC ta cs) (hc:cs.map ziO=Ds.map f7) (hl:cs.length<=100) (ok:Vw K Ds tbl) (h:RE K E t m):RE K E (tCB (zke K) (YN t (YN (zoe ta) zdP))) (eUn (za4 tbl) m):=by
 intro F j σ H ρ S r Q En0 e k;rcases zu e with⟨x,S1,e1,e⟩|⟨c,S1,e1,rfl⟩
 .obtain⟨z,S3,e3,rfl⟩:=vA e;obtain⟨n,cn,b,rfl,hs,ht,rfl,rfl⟩:=zdo e3;refine h En0 e1 λj1 H1 X1 E1 u hu=> ?_;obtain⟨a,rfl,hj⟩:=hu.ref_inv;refine rg _ _ _ ⟨uC hl ∅,λp hp=> ?_⟩;obtain⟨E2,X2⟩:=E1.new (p:=p) (o:= .tup cs) hp;obtain⟨C,hC,hH⟩:=E2.cel _ _ _ hs hj;obtain⟨f1,f2⟩:=ok cn C b hC ht;exact⟨.ref a,p,cs,Ds,.ref C,b,rfl,zJ,hc,.exc hH f1,f2,k _ _ (X1.trans X2) E2 _ (.bl _)⟩
 .exact h En0 e1 k
theorem zdp {C D:Addr} (h1:ub K C (.ref C)=f7 ia) (h2:ub K C (.ref D)=f7 kb):C=D->kb=ia:=by
 rintro rfl;rw[h1] at h2;exact absurd h2 ∅
theorem zmM {C:Addr} (h:ub K C (.type "ValueError")=f7 ia):uN K (.ref C) (.type "ValueError")=f7 ia:=by
 have hm:Ab "ValueError"=ia:=by decide+kernel
 unfold uN;rw[if_neg (by simp)];unfold AV;show (if Ab "ValueError"=ia then Aw K (.ref C) (.type "ValueError") else gC)=f7 ia;rw[if_pos hm];exact h
theorem zhd {t:Value}:Ay K t []=f7 kb:=rfl
theorem XV {t c:Value} {l:List Value} {b:Bool} (h:uN K t c=f7 kb) (r:Ay K t l=f7 b):Ay K t (c::l)=f7 b:=by
 unfold Ay;rw[h];exact r
noncomputable def Yp (l:List (Str×Bool)):Str->Option Bool:=λc=>l.lookup c
theorem zaV {c d:Str} {b:Bool} {l:List (Str×Bool)} {v:Bool} (h:Yp ((d,b)::l) c=f7 v):(c=d/\v=b)\/Yp l c=f7 v:=by
 unfold Yp at h ⊢;rw[y3] at h;split at h
 .rename_i e;cases h;exact .inl ⟨by simpa using e,rfl⟩
 .exact .inr h
theorem UC.nil {D:Value}:UC K D (Yp []):=λc C b _ h=>by cases h
theorem UC.cons {D:Value} {d:Str} {b:Bool} {l:List (Str×Bool)} (dE:um K mainGlobals d=f7 (f7 (.ref C))) (e:YR K C) (k:uN K (.ref C) D=f7 b) (h:UC K D (Yp l)):UC K D (Yp ((d,b)::l)):=λc C' v hC hv=>by
 rcases zaV hv with⟨rfl,rfl⟩|hv
 .rw[dE] at hC;cases hC;exact⟨e,k⟩
 .exact h c C' v hC hv
theorem Vw.nil {D:List Value}:Vw K D (Yp []):=λc C b _ h=>by cases h
theorem Vw.cons {D:List Value} {d:Str} {b:Bool} {l:List (Str×Bool)} (dE:um K mainGlobals d=f7 (f7 (.ref C))) (e:YR K C) (k:Ay K (.ref C) D=f7 b) (h:Vw K D (Yp l)):Vw K D (Yp ((d,b)::l)):=λc C' v hC hv=>by
 rcases zaV hv with⟨rfl,rfl⟩|hv
 .rw[dE] at hC;cases hC;exact⟨e,k⟩
 .exact h c C' v hC hv
theorem zaU.nil {D:Value}:zaU K D []:=λc h=>by cases h
theorem zaU.cons {D:Value} {d:Str} {l:List Str} (dE:um K mainGlobals d=f7 (f7 (.ref C))) (k:Ax K (.ref C) D=f7 ia) (h:zaU K D l):zaU K D (d::l):=λc hc C' hC=>by
 rcases uy.1 hc with rfl|hc
 .rw[dE] at hC;cases hC;exact k
 .exact h c hc C' hC
end
end L2
namespace L2
open PySem
def WE {α:Type} (r:Option (Rs α)) (P:α->Sto->Prop) (X:Str->Sto->Prop):Prop:=(∃a S,r=f7 (.ok a S)/\P a S)\/∃c S,r=f7 (.ex c S)/\X c S
def WSE (r:Option Fl) (N:Rho->Sto->Prop) (R:Xv->Sto->Prop) (X:Str->Sto->Prop):Prop:=(∃ρ S,r=f7 (.nx ρ S)/\N ρ S)\/(∃x S,r=f7 (.rt x S)/\R x S)\/∃c S,r=f7 (.ex c S)/\X c S
section
variable {ρ:Rho} {S S':Sto} {x y:Xv} {a b m o:TwE} {c:TwT} {s t:TwS} {i k:Nat} {P:Xv->Sto->Prop} {PL:List Xv->Sto->Prop} {N:Rho->Sto->Prop} {R:Xv->Sto->Prop} {X:Str->Sto->Prop}
theorem WE.w {α:Type} {r:Option (Rs α)} {P:α->Sto->Prop} (h:W r P):WE r P X:= .inl h
theorem WE.imp {α:Type} {r:Option (Rs α)} {P Q:α->Sto->Prop} {Y:Str->Sto->Prop} (h:WE r P Y) (k:∀a S,P a S->Q a S) (k2:∀c S,Y c S->X c S):WE r Q X:=by
 rcases h with⟨a,S,e,h⟩|⟨c,S,e,h⟩
 .exact .inl ⟨a,S,e,k _ _ h⟩
 .exact .inr ⟨c,S,e,k2 _ _ h⟩
theorem WSE.bind {α:Type} {r:Option (Rs α)} {f:α->Sto->Option Fl} (h:WE r (λa S=>WSE (f a S) N R X) X):WSE (sb r f) N R X:=by
 rcases h with⟨a,S,rfl,h⟩|⟨c,S,rfl,h⟩
 .exact h
 .exact .inr (.inr ⟨c,S,rfl,h⟩)
theorem zmN (h:WSE (s ρ S) (λρ1 S1=>WSE (t ρ1 S1) N R X) R X):WSE (zq s t ρ S) N R X:=by
 unfold zq;rcases h with⟨ρ1,S1,e,h⟩|⟨x,S1,e,h⟩|⟨x,S1,e,h⟩
 .rw[e];exact h
 .rw[e];exact .inr (.inl ⟨_,_,rfl,h⟩)
 .rw[e];exact .inr (.inr ⟨_,_,rfl,h⟩)
theorem zjg {cl:Str} {ms:List TwE} (h:W (evL ms ρ S) λ_ S1=>X cl S1):WSE (zhc cl ms ρ S) N R X:=WSE.bind (WE.w (h.imp λ_ _ k=> .inr (.inr ⟨_,_,rfl,k⟩)))
theorem zo0 (h:W (c ρ S) λv S1=>(v=ia->WSE (s ρ S1) N R X)/\(v=kb->WSE (t ρ S1) N R X)):WSE (sIf c s t ρ S) N R X:=WSE.bind (WE.w (h.imp λv S1 k=>by
 cases v with
 |true=>exact k.1 rfl
 |false=>exact k.2 rfl))
theorem zo1 {n k:Nat} {xs:List Xv} {ρ0:Rho} (hn:xs.length=n) (h0:xs.map f7++uJ k gC=ρ0) (h:WSE (s ρ0 S) (λ_ S1=>P .non S1) P X):WE (zK n k s xs S) P X:=by
 unfold zK;rw[if_pos hn,h0];rcases h with⟨ρ,S1,e,h⟩|⟨x,S1,e,h⟩|⟨x,S1,e,h⟩
 .rw[e];exact .inl ⟨_,_,rfl,h⟩
 .rw[e];exact .inl ⟨_,_,rfl,h⟩
 .rw[e];exact .inr ⟨_,_,rfl,h⟩
theorem zo2 {i:Nat} {k:Option Nat} {tw:TwF} {is:List Nat} {ok:List Str} {h:TwS} {xs:List Xv} (hx:is.mapM (λi=>ρ[i]?.join)=f7 xs)
  (hh:WE (tw xs S) (λv S2=>N (match k with|some k=>ρ.set k (f7 v)|none=>ρ) S2) λc S2=>c∈ok/\∃ρ' S',h (ρ.set i (f7 (.ref S2.length))) (S2++[.exc c])=f7 (.nx ρ' S')/\N (ρ'.set i gC) S'):WS (zlc i k tw is ok h ρ S) N R:=by
 unfold zlc;rw[hx,uz];rcases hh with⟨v,S2,e,hn⟩|⟨c,S2,e,hc,ρ',S',e2,hn⟩
 .rw[e];exact .nx rfl hn
 .rw[e];dsimp only;rw[if_pos hc,e2];exact .nx rfl hn
theorem zhe {tbl:Str->Option Bool} {n:Nat} {cl:Str} {v:Bool} (h:S[n]? =f7 (.exc cl)) (ht:tbl cl=f7 v) (k:P (.bl v) S):WO (za4 tbl (.ref n) S) P:= .of (by unfold za4;dsimp only;rw[h];dsimp only;rw[ht];rfl) k
end
end L2
namespace L2
open PySem PySem.Spec PyProof.Rows PySem.Calls
section
variable {K:u5} {E:XK} {F:Fm} {j:List Addr} {H:Hp} {σ:St} {ρ:Rho} {S:Sto} {x:Xv} {v:V} {nm f:Str} {C:Addr}
noncomputable def zb4:OpM:=λx ys S=>match UM S x,ys with
 |some (_,l),[y]=>if wn y&&l.all wn then (l.findIdx? λz=>zeb z y).map λ(k:Nat)=>(Xv.int (k:Int),S) else gC
 |_,_=>gC
theorem zfI:zi1 K zkh zb4:=by
 intro F j σ H ρ S S' x z ys u vs Q E0 hx hy h k;unfold zb4 at h;split at h
 .rename_i n l y e;split at h
  .rename_i hf;have hf:=CH.1 hf;rw[uI] at h;obtain⟨q,e3,h⟩:=h;cases h;obtain⟨a,ws,rfl,hj,h1,h2⟩:=E0.wl hx e;obtain⟨w0,rfl,hw⟩:=hy.d1;obtain⟨i7,rT,md⟩:=Ac.1 e3;obtain⟨w,w1,w2⟩:=h2.get (u6 i7);have fl:∀(m:Nat) (hm:m<l.length),wn l[m]=ia:=λm hm=>y8.1 hf.2 _ (y4 hm);refine⟨a,ws,w0,q,rfl,rfl,h1,?_,?_,⟨w,w1,?_⟩,λm z hm hz=> ?_,k _ _ _ Ext.refl E0 (.int _)⟩
   .rw[zbU hw];exact hf.1
   .rw[zh5 h2];exact hf.2
   .rw[zgZ w2 hw (fl _ i7) hf.1];exact rT
   .have m5:m<l.length:=by omega
    obtain⟨y',y1,y2⟩:=h2.get (u6 m5);rw[hz] at y1;cases y1;rw[zgZ y2 hw (fl _ m5) hf.1];have:=md m hm;simpa using this
  .cases h
 .cases h
theorem zle {P:Xv->Sto->Prop} {n k:Nat} {l:List Xv} {y:Xv} (h:UM S x=f7 (n,l)) (hf:(wn y&&l.all wn)=ia) (e:(l.findIdx? λz=>zeb z y)=f7 k) (q:P (.int (k:Int)) S):WO (zb4 x [y] S) P:= .of (by unfold zb4;rw[h];dsimp only;rw[if_pos hf,e];rfl) q
noncomputable def zo3 (m:TwE):TwI:=λρ S=>rb (m ρ S) λx S1=>x.tupOf.map λl=> .ok (λ_=>f7 l.reverse) S1
theorem zmO {t:TE} {m:TwE} (h:RE K E t m):RI K E (zpU K (YN t zdP)) (zo3 m):=by
 intro F j σ H ρ S r R En0 e k;rcases zu e with⟨x,S1,e1,e⟩|⟨c,S1,e1,rfl⟩
 .cases el:x.tupOf with
  |none=>rw[el] at e;cases e
  |some l=>
   rw[el] at e;cases e;refine h En0 e1 λj1 H1 X1 E1 u hu=> ?_;obtain⟨a,vs,rfl,h1,jt⟩:=hu.tupO el;refine⟨a,vs,rfl,h1,k _ _ X1 E1 _ ?_⟩;intro F2 j2 H2 σ2 ρ2 S2 xs i X2 E2 e2;cases e2;obtain⟨a',ws,ea,g1,g2⟩:=(hu.mono X2).tupO el;cases ea;have n1:=jt.len;have n2:=g2.len;refine⟨λy ey=> ?_,λhle=> ?_⟩
   .have hi:i<l.length:=by
     have:=(u9.1 ey).1;simpa using this
    rw[Bw hi] at ey;obtain⟨w,f1,f2⟩:=g2.get ey;refine⟨⟨⋯,ws,g1,⋯⟩,?_⟩;rintro v' H' ⟨rfl,hx⟩;have:=hx ws g1;rw[show vs.length-1-i=l.length-1-i by omega,f1] at this;cases this;exact⟨Xl.refl _,f2⟩
   .show i=vs.length;simp at hle;omega
 .exact h En0 e1 k
theorem zmP {Q':(Sto->Option (List Xv))->Sto->Prop} {m:TwE} (h:W (m ρ S) λx S1=>∃l,x.tupOf=f7 l/\Q' (λ_=>f7 l.reverse) S1):W (zo3 m ρ S) Q':=W.bind (h.imp λx S1 h=>by
 obtain⟨l,e,k⟩:=h;rw[e]
 exact .of rfl k)
end
structure zqZ (tw:TwF) (S:Sto) (l:List Xv) (is:List (List Int)):Prop where
 len:is.length=l.length
 key:∀(i:Nat) x,l[i]? =f7 x->∃k,tw [x] S=f7 (.ok k S)/\k.tupOf=f7 ((is.getD i []).map Xv.int)
 fall:zqh is
section
variable {K:u5} {E:XK} {j:List Addr} {H:Hp}
end
section
variable {K:u5} {E:XK} {F:Fm} {j:List Addr} {H:Hp} {σ:St} {ρ:Rho} {S:Sto}
noncomputable def zdq:Opn:=λxs S=>match xs with
 |[.bl b]=>f7 (.int (if b then 1 else 0),S)
 |[.int i]=>f7 (.int i,S)
 |_=>gC
theorem zie:zaw K (λxs H Q=>(∃i,xs=[.int i]/\Q (.int i) H)\/∃k,xs=[.bl k]/\Q (.int (if k then 1 else 0)) H) zdq:=by
 intro F j σ H ρ S S' xs z vs Q E1 hv h k;unfold zdq at h;split at h
 .cases h;obtain⟨w,rfl,hx⟩:=hv.d1;exact .inr ⟨_,by rw[hx.bl_inv],k _ _ _ Ext.refl E1 (.int _)⟩
 .cases h;obtain⟨w,rfl,hx⟩:=hv.d1;exact .inl ⟨_,by rw[hx.int_inv],k _ _ _ Ext.refl E1 (.int _)⟩
 .cases h
end
section
variable {K:u5} {E:XK}
end
section
variable {S:Sto} {x y:Xv} {P:Xv->Sto->Prop}
end
section
variable {K:u5} {E:XK}
end
section
variable {m:TwE} {ρ:Rho} {S:Sto}
end
section
variable {K:u5} {E:XK}
end
section
variable {S:Sto} {x:Xv} {P:Xv->Sto->Prop}
end
section
variable {X:Cx} {tg:Expr}
end
section
variable {K:u5} {E:XK}
end
section
variable {m:TwE} {ρ:Rho} {S:Sto}
end
end L2
namespace L2
open PySem PySem.Spec PyProof.Rows PyProof
open Builtin Builtin.Str
section
variable {X:Cx}
end
end L2
namespace L2
open PySem PySem.Spec PyProof.Rows PyProof
section
variable {X:Cx}
inductive PJ (X:Cx):List Expr->List TE->Prop where
 |nil:PJ X [] []
 |cons {e:Expr} {es:List Expr} {t:TE} {ts:List TE}:PE X e t->PJ X es ts->PJ X (e::es) (t::ts)
end
end L2
namespace L2
open PySem PySem.Spec PyProof.Rows
section
variable {K:u5} {E:XK} {F:Fm} {j:List Addr} {H:Hp} {σ:St} {ρ:Rho} {S:Sto}
inductive RJ (K:u5) (E:XK):List TE->List TwE->Prop where
 |nil:RJ K E [] []
 |cons {t:TE} {ts:List TE} {m:TwE} {ms:List TwE}:RE K E t m->RJ K E ts ms->RJ K E (t::ts) (m::ms)
end
section
variable {K:u5} {E:XK} {j:List Addr} {H:Hp}
end
section
variable {ρ:Rho} {S:Sto} {P:Xv->Sto->Prop} {o m:TwE} {x y:Xv}
end
inductive Sh (n:Nat):List D->Nat->Nat->Prop where
 |nil:Sh n [] 0 0
 |int {i:Int} {r:List D} {w e:Nat}:i.natAbs<2^n->Sh n r w e->Sh n (.int i::r) (n+1+w) e
 |str {z:Str} {r:List D} {w e:Nat}:z.length<=n->(z.cps.toList.all λc=>decide (c<16^8))=ia->Sh n r w e->Sh n (.str z::r) (n+1+w) e
 |tup {l r:List D} {w e w' e':Nat}:Sh n l w e->Sh n r w' e'->Sh n (.tup l::r) (w+1+w') (max (e+1) e')
 |lst {l r:List D} {w e w' e':Nat}:Sh n l w e->Sh n r w' e'->Sh n (.lst l::r) (w+1+w') (max (e+1) e')
section
variable {X:Cx} {pins:List (Addr×Obj)} {σ:St} {H:Hp} {s:Shared}
end
structure zq0 (d:D):Prop where
 seq:∃l,d= .tup l\/d= .lst l
 sh:∃n w e,Sh n [d] w e/\8<=n/\n<=1900/\e<=100/\(n+3)*w+n+1<=16777216
section
variable {X:Cx}
end
section
variable {X:Cx} {K:u5}
end
end L2
namespace L2
open PySem PySem.Spec PyProof.Rows PyProof
section
variable {X:Cx} {K:u5} {E:XK}
end
end L2
namespace L2
open PySem PySem.Spec PyProof.Rows
theorem zdr {env:Env}:∀{ns:List (Str×NameKind)} {cs:List (Str×Addr)} {p:Str×Addr},p∈za0 env ns cs->p∈cs\/(p.1,NameKind.free)∈ns
 |[],_,_,h=> .inl h
 |(n,k)::r,cs,p,h=>by
  unfold za0 at h;rcases zdr h with h|h
  .by_cases hk:(k== .free)=ia
   .rw[if_pos hk] at h;have m9:k= .free:=by simpa using hk
    cases e:env.cells.lookup n with
    |none=>rw[e] at h;exact .inl h
    |some c=>
     rw[e] at h;rcases uy.mp h with rfl|h
     .exact .inr (by rw[m9];exact uv)
     .exact .inl h
   .rw[if_neg hk] at h;exact .inl h
  .exact .inr (uj _ h)
theorem zhf {pos:Pos} {a b:Int} {c cv:Value} (l:List Value) (h:TriplesOk l):codeAmong pos (l++[rawInt a,rawInt b,c])=f7 cv->codeAmong pos l=f7 cv\/cv=c:=by
 fun_induction TriplesOk l with
 |case1=>
  intro e;simp only[Cm,codeAmong,rawInt] at e;split at e
  .cases e;exact .inr rfl
  .cases e
 |case2 a t b u x rest ih=>
  intro e;simp only[A0,codeAmong] at e ⊢;split at e
  .rename_i hc;rw[if_pos hc];exact .inl e
  .rename_i hc;rw[if_neg hc];exact ih h e
 |case3 l h1 h2=>exact h.elim
section
variable {X:Cx} {pins:List (Addr×Obj)} {σ:St} {H H':Hp} {s:Shared}
theorem Inv.freeze {x:Str} {c:Addr} (I:Inv X pins σ H s) (hx:X.env.cells.lookup x=f7 c) (hz:X.zn x=ia) (hf:X.fn x=kb):∃H' o,Inv X pins σ H' s/\Xl H H'/\H' c=f7 (.frz o (.own 0))/\s.heap.get? c=f7 o:=by
 obtain⟨v,o,ho,hd⟩:=I.cell x c hx;rcases I.freeC x c hx with hn|⟨_,o',h'⟩
 .have gq:=I.ok.cab x c (.inr hz) hx;have ne:∀b u,H b=f7 u->b≠c:=λb u e z=>by rw[z,hn] at e;cases e
  refine⟨upd H c (.frz o (.own 0)),o,⟨I.ok,I.os,I.bare,⟨I.base.keep,I.base.slot,λb ob e n kP=> ?_,I.base.there,λb xs e=> ?_,λb ob u e=> ?_,λb ps e=> ?_⟩,I.loc,I.cell,?_,λy d e=> ?_,λp hp=> ?_,λb u e=> ?_,I.len⟩,vz hn,zJ,ho⟩
  .rw[zB (uF (uB (Heap.lt_size e) gq))];exact I.base.free b ob e n kP
  .have:=I.base.tups b xs e;rw[zB (ne b _ this)];exact this
  .have:=I.base.frzs b ob u e;rw[zB (ne b _ this)];exact this
  .obtain⟨m,q⟩:=I.base.tbls b ps e;exact⟨m,by rw[zB (ne b _ q)];exact q⟩
  .rw[zB (A8 (I.cne x c hx))];exact I.free
  .by_cases pI:d=c
   .subst pI;obtain rfl:=I.ok.inj y x d e hx;exact .inr ⟨hf,o,zJ⟩
   .rw[zB pI];exact I.freeC y d e
  .obtain⟨e,n,r1,r2,r3⟩:=I.pin p hp;refine⟨e,?_,r1,r2,r3⟩;rw[zB]
   .exact n
   .intro q;rw[q,ho] at e;cases e;exact r3 v hd
  .by_cases hb:b=c
   .subst hb;rw[zJ] at e;cases e;exact⟨ho,o,ho⟩
   .rw[zB hb] at e;exact (I.hok b u e).stay (λ_ _ _ q=>q) (λd q=>by rw[zB (ne d _ q)];exact q) λd xs q=>by rw[zB (ne d _ q)];exact q
 .exact⟨H,o',I,λ_ _ e=>e,h',(I.hok c _ h').1⟩
theorem Inv.freezeL (I:Inv X pins σ H s):∀(l:List (Str×Addr)),(∀p∈l,X.env.cells.lookup p.1=f7 p.2/\X.zn p.1=ia/\X.fn p.1=kb)->∃H',Inv X pins σ H' s/\Xl H H'/\∀p∈l,∃o,H' p.2=f7 (.frz o (.own 0))/\s.heap.get? p.2=f7 o
 |[],_=>⟨H,I,λ_ _ e=>e,λp hp=>nomatch hp⟩
 |p::r,h=>by
  obtain⟨H1,I1,S1,f1⟩:=I.freezeL r λq hq=>h q (uj _ hq);obtain⟨a1,a2,a3⟩:=h p uv;obtain⟨H2,o,I2,S2,e1,e2⟩:=I1.freeze a1 a2 a3;refine⟨H2,I2,λb u e=>S2 b u (S1 b u e),λq hq=> ?_⟩;rcases uy.mp hq with rfl|hq
  .exact⟨o,e1,e2⟩
  .obtain⟨o',e3,e4⟩:=f1 q hq;exact⟨o',S2 _ _ e3,e4⟩
theorem Inv.lamMade {P c f:Addr} {ps more:Array Value} {oc fo:Obj} {h':Heap} {t':Nat} (I:Inv X pins σ H s) (hP:H P=f7 (.tbl ps)) (hx:∀b o,b≠P->s.heap.get? b=f7 o->h'.get? b=f7 o)
  (pM:h'.get? P=f7 (AW (ps++more))) (hc:s.heap.objs.size<=c) (mr:h'.get? c=f7 oc) (hf:s.heap.objs.size<=f) (ku:h'.get? f=f7 fo) (tO:c≠f):
  Inv X pins σ (upd (upd (upd H P (.tbl (ps++more))) c (.frz oc (.own 0))) f (.frz fo (.own 0))) {s with heap:=h',toks:=t'}:=by
 have lT:P<s.heap.objs.size:=(I.hok P _ hP).lt;have gt:∀a b:Nat,a<s.heap.objs.size->s.heap.objs.size<=b->b≠a:=λa b h1 h2=>by omega
 have cP:c≠P:=gt P c lT hc;have fP:f≠P:=gt P f lT hf;have old:∀b,b<s.heap.objs.size->b≠P->upd (upd (upd H P (.tbl (ps++more))) c (.frz oc (.own 0))) f (.frz fo (.own 0)) b=H b:=λb hb hp=>by
  rw[zB (A8 (gt b f hb hf)),zB (A8 (gt b c hb hc)),zB hp]
 have kK:∀b u,H b=f7 u->b<s.heap.objs.size:=λb u e=>(I.hok b u e).lt;have sV:upd (upd (upd H P (.tbl (ps++more))) c (.frz oc (.own 0))) f (.frz fo (.own 0)) P=f7 (.tbl (ps++more)):=by
  rw[zB (A8 fP),zB (A8 cP),zJ]
 have nP:∀b,H b=gC->b≠P:=λb n z=>by rw[z,hP] at n;cases n
 refine I.step (g':=s.gens) (d':=s.drawn) (ch:=[]) (λ_ z=>nomatch z) (λb o _ _ _ e n=>hx b o (nP b n) e) (λb o _ _ _ e n=>⟨o.slots,hx b o (nP b n) e⟩) (λb o _ e n=>by rw[old b (Heap.lt_size e) (nP b n)];exact n)
  (λb o _ e=> ?_) (λb xs e=> ?_) (λb o u e=> ?_) (λb qs e=> ?_) (λm hm=> ?_) (λb u e=> ?_) I.bare
 .by_cases hb:b=P
  .subst hb;exact⟨_,pM⟩
  .exact⟨o,hx b o hb e⟩
 .rw[old b (kK b _ e) (λz=>by rw[z,hP] at e;cases e)];exact e
 .rw[old b (kK b _ e) (λz=>by rw[z,hP] at e;cases e)];exact e
 .by_cases hb:b=P
  .subst hb;rw[hP] at e;cases e;exact⟨more,sV⟩
  .exact⟨#[],by rw[old b (kK b _ e) hb,e];simp⟩
 .obtain⟨o,es,ep,ho,r⟩:=hm;exact⟨o,es,ep,hx _ o (nP _ I.free) ho,r⟩
 .by_cases h1:b=f
  .subst h1;rw[zJ] at e;cases e;exact⟨ku,fo,ku⟩
  .rw[zB h1] at e;by_cases h2:b=c
   .subst h2;rw[zJ] at e;cases e;exact⟨mr,oc,mr⟩
   .rw[zB h2] at e;by_cases h3:b=P
    .subst h3;rw[zJ] at e;cases e;exact pM
    .rw[zB h3] at e;refine (I.hok b u e).stay (λd o q r=>hx d o ?_ r) (λd q=> ?_) λd xs q=> ?_
     .rcases q with q|q
      .rw[q];exact h3
      .intro z;rw[z,hP] at q;cases q
     .rw[old d (kK d _ q) (λz=>by rw[z,hP] at q;cases q)];exact q
     .rw[old d (kK d _ q) (λz=>by rw[z,hP] at q;cases q)];exact q
end
structure zo4 (X:Cx) (sc:Scope) (fr:List Str) (is:List Nat):Prop where
 blk:Wo X sc
 fre:∀(i:Nat) x,fr[i]? =f7 x->sc.names.lookup x=f7 .free/\∃k,is[i]? =f7 k/\X.N[k]? =f7 x
 all:∀y∈sc.names,y.2= .free->X.zn y.1=ia/\X.fn y.1=kb
def zo5 (L:xq) (P:Addr) (is:List Nat):TE:=λσ H Q=>∃(ps:Array Value) (vs:List V),H P=f7 (.tbl ps)/\TriplesOk ps.toList/\(∀pos cv,codeAmong pos ps.toList=f7 cv->∃c,cv= .ref c/\Uy H L.q c)/\
 is.map (λi=>(σ[i]?).join)=vs.map f7/\
 ∀f ps' H',Xl (upd H P (.tbl ps')) H'->TriplesOk ps'.toList->(∀pos cv,codeAmong pos ps'.toList=f7 cv->∃c,cv= .ref c/\Uy H' L.q c)->zbH H' L f vs->Q (.ref f) H'
theorem zo6 {X:Cx} {id:Nat} {par:Arguments} {body:Expr} {sc:Scope} {pos:Pos} {tn:Vs} {fr:List Str} {is:List Nat} {c P:Addr} (S:zo4 X sc fr is) (hq:X.env.qual=tn.d++".<locals>.") (gK:X.env.code= .ref c) (hC:B2 X.K c P=ia)
  (jV:defaultsOf par X.env=([],[]):=by rfl):PE X (.Lambda par body sc pos) (zo5 ⟨id,par,body,sc,tn,fr⟩ P is):=by
 have hq:X.env.qual++"<lambda>"=tn.q:=by rw[hq];rfl
 generalize nK:tn.q=q at hq;intro pins s σ H Q I hh;obtain⟨ps,vs,hP,ht,gJ,jt,k⟩:=hh;simp only[xq.q,nK] at gJ k;have mz:s.heap.get? P=f7 (AW ps):=I.hok P _ hP;have hg:s.heap.Ns mainGlobals X.mg:=I.mod.glob.keeps I.bk;have rY:mainGlobals≠P:=λz=>by
  obtain⟨o,es,ep,e,hd,_⟩:=hg;rw[z,mz] at e;cases e;cases hd
 have C:PySem.W.CodeHd s.heap c P:=CQ I.kIn hC;have hb:s.heap.BuiltinsAt X.mg P:=by
  obtain⟨bm,ob,b1,b2,b3,b4,b5,b6⟩:=I.mod.bmn;have b3:=I.bk _ _ b3;refine⟨bm,ob,b1,b2,λz=> ?_,λz=> ?_,b3,b4,b5,b6⟩
  .obtain⟨o,es,ep,e,hd,_⟩:=hg;rw[z,e] at b3;cases b3;rw[hd] at b6;cases b6
  .rw[z,mz] at b3;cases b3;cases b4
 have fin:∀(f c':Addr) (pm eD:Value) (ps':Array Value) (H1:Hp) (s1:Shared),Inv X pins σ H1 s1->Xl (upd H P (.tbl ps')) H1->TriplesOk ps'.toList->(∀pos cv,codeAmong pos ps'.toList=f7 cv->∃c,cv= .ref c/\Uy H1 q c)->
   H1 f=f7 (.frz (Am "<lambda>" q par body sc (Wn sc X.env) pm c' eD) (.own 0))->Uy H1 q c'->EP X pins σ Q (.ref f) s1:=by
  intro f c' pm eD ps' H1 s1 I1 S1 t1 c1 hf jX;have cl:∀p∈Wn sc X.env,X.env.cells.lookup p.1=f7 p.2/\X.zn p.1=ia/\X.fn p.1=kb:=λp hp=>by
   refine⟨zbA (cs:=[]) (λp hp=>nomatch hp) p hp,?_⟩;rcases zdr hp with z|z
   .cases z
   .exact S.all _ z rfl
  obtain⟨H2,I2,S2,f2⟩:=I1.freezeL (Wn sc X.env) cl;refine⟨.ref f,H2,I2,rfl,k f ps' H2 (λb u e=>S2 b u (S1 b u e)) t1 (λp cv e=> ?_) ⟨Wn sc X.env,pm,eD,c',by rw[show xq.q ⟨id,par,body,sc,tn,fr⟩=q from nK];exact S2 _ _ hf,by rw[show xq.q ⟨id,par,body,sc,tn,fr⟩=q from nK];exact jX.mono (wQ.same S2),λi x v e1 e2=> ?_,λx y a e1 e2=> ?_,λy hy e=> ?_,λx a e=> ?_⟩⟩
  .obtain⟨d,e1,e2⟩:=c1 p cv e;exact⟨d,e1,e2.mono (wQ.same S2)⟩
  .obtain⟨h1,n,h2,h3⟩:=S.fre i x e1;have hm:(x,NameKind.free)∈sc.names:=w5 h1;have hs:σ[n]? =f7 (f7 v):=by
    have e:=congrArg (λl=>l[i]?) jt;simp only[uf,h2,e2,Aa,uQ] at e;cases q:σ[n]? with
    |none=>rw[q] at e;cases e
    |some z=>rw[q] at e;exact congrArg f7 e
   obtain⟨m,hn,hl⟩:=I2.loc;have hk:=S.blk.free _ hm rfl;obtain⟨u,r,l⟩:=hl n x v h3 hs (by rcases hk with k|k;exact .inr (.inl k);exact .inr (.inr k));rcases l with⟨k',_⟩|⟨_,a,ha,o,ho,hd⟩
   .rcases hk with k''|k''
    .rw[k'] at k'';cases k''
    .rw[k'] at k'';cases k''
   .have jW:(Wn sc X.env).lookup x=f7 a:=Ti hm ha;obtain⟨o',e3,e4⟩:=f2 (x,a) (w5 jW);rw[ho] at e4;cases e4;exact⟨a,o,u,jW,e3,hd,r⟩
  .exact I1.ok.inj x y a (wb e1) (wb e2)
  .obtain⟨a,ha⟩:=I1.ok.has y.1 (S.blk.free y hy e);exact⟨a,Ti (by rw[<-e];exact hy) ha⟩
  .obtain⟨o,e3,e4⟩:=f2 (x,a) (w5 e);obtain⟨u,o',e5,hd⟩:=I2.cell x a (wb e);rw[e4] at e5;cases e5;exact⟨o,u,e3,hd⟩
 refine PySem.W.kla_eval jV ?_;rw[hq];cases oq:codeAmong pos ps.toList with
 |none=>
  refine PySem.W.kla_makeFunction (I.closure S.blk) I.ok.glob hg gK C mz ht oq rY hb λc' eD h' tk hx me i7 nJ rd=> ?_;obtain⟨c₂,oc,fs,t,e2,lZ,hd,hv⟩:=nJ;cases e2;have I1:=I.lamMade (t':=tk) (h':=h'.push (Am "<lambda>" q par body sc (Wn sc X.env) ((X.mg "__name__").getD .none) c' eD)) (fo:=Am "<lambda>" q par body sc (Wn sc X.env) ((X.mg "__name__").getD .none) c' eD) (more:= #[rawInt pos.line,rawInt pos.col,.ref c']) hP (λb o i9 e=>Heap.get?_push_of_some _ (hx b o i9 e)) (Heap.get?_push_of_some _ rd) me (Heap.get?_push_of_some _ lZ) (uC me (v8 i7)) (Heap.get?_push_size _ rfl) (uF i7);have lT:P<s.heap.objs.size:=(I.hok P _ hP).lt;have S1:Xl (upd H P (.tbl (ps++ #[rawInt pos.line,rawInt pos.col,.ref c']))) (upd (upd (upd H P (.tbl (ps++ #[rawInt pos.line,rawInt pos.col,.ref c']))) c' (.frz oc (.own 0))) h'.objs.size (.frz (Am "<lambda>" q par body sc (Wn sc X.env) ((X.mg "__name__").getD .none) c' eD) (.own 0))):=λb u e=>by
   have i9:b<s.heap.objs.size:=by
    by_cases i9:b=P
    .rw[i9];exact lT
    .rw[zB i9] at e;exact (I.hok b u e).lt
   rw[zB (uF (uB i9 (uC me (v8 i7)))),zB (uF (uB i9 me))];exact e
  have mv:Uy (upd (upd (upd H P (.tbl (ps++ #[rawInt pos.line,rawInt pos.col,.ref c']))) c' (.frz oc (.own 0))) h'.objs.size (.frz (Am "<lambda>" q par body sc (Wn sc X.env) ((X.mg "__name__").getD .none) c' eD) (.own 0))) q c':=⟨oc,fs,t,by rw[zB (uF i7),zJ],hd,hv⟩;refine fin _ c' _ eD _ _ _ I1 S1 (by rw[BH];exact TriplesOk_snoc _ _ _ _ ht) (λp cv e=> ?_) zJ mv;rw[BH] at e;rcases zhf ps.toList ht e with e|rfl
  .obtain⟨d,e1,oc',fs',t',e2,r⟩:=gJ p cv e;refine⟨d,e1,oc',fs',t',S1 _ _ ?_,r⟩;rw[zB (λz=>by rw[z,hP] at e2;cases e2)];exact e2
  .exact⟨c',rfl,mv⟩
 |some cv=>
  obtain⟨c',rfl,mv⟩:=gJ pos cv oq;refine PySem.W.kla_makeFunctionHit (I.closure S.blk) I.ok.glob hg gK C mz ht oq hb λeD h' tk hk hsz=> ?_;have mh:H h'.objs.size=gC:=I.hok.fresh hsz;have I1:=I.laid (t':=tk) (a:=h'.objs.size) (o:= .frz (Am "<lambda>" q par body sc (Wn sc X.env) ((X.mg "__name__").getD .none) c' eD) (.own 0)) (λb o e=>Heap.get?_push_of_some _ (hk b o e)) hsz ⟨Heap.get?_push_size _ rfl,_,Heap.get?_push_size _ rfl⟩;have S1:Xl H (upd H h'.objs.size (.frz (Am "<lambda>" q par body sc (Wn sc X.env) ((X.mg "__name__").getD .none) c' eD) (.own 0))):=vz mh;refine fin _ c' _ eD ps _ _ I1 (λb u e=>S1 b u ?_) ht (λp cv e=> ?_) zJ (mv.mono (wQ.same S1))
  .by_cases i9:b=P
   .subst i9;rw[zJ] at e;cases e;exact hP
   .rw[zB i9] at e;exact e
  .obtain⟨d,e1,e2⟩:=gJ p cv e;exact⟨d,e1,e2.mono (wQ.same S1)⟩
noncomputable def zds (P:Program) (w:World) (K:u5) (mg:Str->Option Value) (base:Heap) (N:List Str) (L:xq) (bG:List (Str×Addr)) (f c:Addr) (A:Around) (outer:List Env) (s:Shared) (H:Hp):Cx where
 prog:=P
 w:=w
 K:=K
 mg:=mg
 base:=base
 A:=A.deeper (C5 L.q L.sc s.heap.objs.size f (.ref c) bG)
 N:=N
 s₀:=s
 H₀:=H
 env:=C5 L.q L.sc s.heap.objs.size f (.ref c) bG
 outer:=outer
 stack:=C5 L.q L.sc s.heap.objs.size f (.ref c) bG::outer
 ex:=[]
 calm:=ia
 fn:=λ_=>kb
 zn:=λ_=>kb
 pn:=[]
 xe:=λ_ _=>False
structure zfJ (ps fr:List Str) (sc:Scope):Prop where
 kind:sc.kind= .function
 co:sc.isCoroutine=kb
 gen:sc.isGenerator=kb
 nd:ps.Nodup
 par:∀x∈ps,sc.names.lookup x=f7 .local
 fre:∀x∈fr,sc.names.lookup x=f7 .free
 noc:∀y∈sc.names,y.2≠ .cell
theorem TQ {x:Str} {u:Value}:∀{l:List (Str×Value)},(l.map (·.1)).Nodup->(x,u)∈l->l.lookup x=f7 u
 |[],_,h=>by cases h
 |(y,v)::r,nd,h=>by
  rw[uE,Al] at nd;rw[y3];rcases uy.mp h with h'|h'
  .cases h';simp
  .have:x≠y:=by
    intro z;subst z;exact nd.1 (x8.mpr ⟨_,h',rfl⟩)
   rw[show (x==y)=kb by simpa using this];exact TQ nd.2 h'
theorem zlf {ps:List Str} {us:List Value} {i:Nat} {x:Str} {u:Value} (nd:ps.Nodup) (hl:us.length=ps.length) (h1:ps[i]? =f7 x) (h2:us[i]? =f7 u):(ps.zip us).reverse.lookup x=f7 u:=by
 refine TQ ?_ (List.mem_reverse.mpr (ud (i:=i) ?_))
 .rw[Dh,(List.reverse_perm _).nodup_iff,List.map_fst_zip ⋯];exact nd
 .rw[C0];exact⟨h1,h2⟩
def CL (outer:List Env) (P:Program) (w:World) (H:Hp) (s:Shared) (Q:VK) (r:Result) (s':Shared):Prop:=match r with
 | .ok (.ret u)=>CE outer P w H s Q u s'
 |_=>False
theorem zmQ {P:Program} {w:World} {K:u5} {mg:Str->Option Value} {base:Heap} {L:xq} {ps:List Str} {k:Nat} (S:zfJ ps L.fr L.sc)
  (hb:∀(bG:List (Str×Addr)) (pm eD:Value) (c:Addr) (us:List Value),us.length=ps.length->bindArgs (Dq "<lambda>" L.q L.par L.body L.sc bG pm (.ref c) eD) ⟨us,[]⟩=pure (ps.zip us))
  {A:Around} {outer:List Env} {s:Shared} {H:Hp} {f:Addr} {vs as:List V} {us:List Value} {Q:VK} (hr:xS (k+1) A) (e0:zcy P w K mg base A outer s H) (hL:zbH H L f vs) (qX:vs.length=L.fr.length) (r:zZ as us) (hl:as.length=ps.length)
  (dI:∀(bG:List (Str×Addr)) (c:Addr),xS k (zds P w K mg base (ps++L.fr) L bG f c A outer s H).A->∃t,PE (zds P w K mg base (ps++L.fr) L bG f c A outer s H) L.body t/\t ((as++vs).map f7) H Q):
  codeAny (model P w) A (.call (.ref f) ⟨us,[]⟩) (CL outer P w H s Q) s:=by
 obtain⟨bG,pm,eD,c,h1,⟨oc,fs,t,sv,jc,ot⟩,h3,h4,h5,h6⟩:=hL.ex;have ku:=(e0.hok f _ h1).1;have mr:=(e0.hok c _ sv).1;have lim:s.heap.NoLimit:=e0.mod.nolimit.keeps λb o e=>(e0.bs b o e).1;have pw:us.length=ps.length:=by rw[<-r.length];exact hl
 refine PySem.W.kla_callFunE hr.depth ku rfl S.co S.gen rfl ⟨c,oc,fs,t,rfl,mr,jc,ot⟩ ?_;rw[hb bG pm eD c us pw];refine wpAny_pure (wpAny_newFunctionEnv S.noc (λy hy=>S.par _ (AI hy).1) (λh₁ dE iB=>⟨lim.fresh _ iB,?_⟩) S.kind);show codeAny _ _ (.expr L.body (C5 L.q L.sc s.heap.objs.size f (.ref c) bG)) _ _;have hk:∀b o,s.heap.get? b=f7 o->h₁.get? b=f7 o:=λb o e=>iB.extBut b o (uF (Heap.lt_size e)) (Heap.get?_push_of_some _ e);have iX:∀b:Addr,b∉(zds P w K mg base (ps++L.fr) L bG f c A outer s H).ex:=λb z=>absurd (show b∈([]:List Addr) from z) (by simp);have I:Inv (zds P w K mg base (ps++L.fr) L bG f c A outer s H) [] ((as++vs).map f7) H {s with heap:=h₁,toks:=s.toks+(ps.zip us).length}:=by
  refine⟨⟨e0.mod,S.kind,rfl,rfl,ug _,λy z a e1 e2=>h4 y z a e1 e2,λy hy=> ?_,λy a z _=>(z.elim (λz=>AA z) λz=>AA z),λ_=>hr.hd,Around.frames_deeper e0.frames,.inr ⟨rfl,rfl⟩,λb z=>absurd z (iX b),e0.bs,e0.bsz,λb _ _=>iX b,λb z=>absurd z (iX b),e0.funs,e0.frf⟩,
   rfl,e0.bare,Un.kept hk,⟨_,dE,λi y v e1 e2 e3=> ?_⟩,λy a e=> ?_,e0.hok.fresh (ug _),λy a e=> ?_,λp hp=>absurd (show p∈([]:List (Addr×Obj)) from hp) (by simp),e0.hok.kept hk,?_⟩
  .have hy:L.sc.names.lookup y=f7 .cell\/L.sc.names.lookup y=f7 .free:=hy;rcases hy with hy|hy
   .exact absurd rfl (S.noc _ (w5 hy))
   .exact h5 _ (w5 hy) rfl
  .have e1:(ps++L.fr)[i]? =f7 y:=e1;rw[uf,uI] at e2;obtain⟨v',e2,pX⟩:=e2;cases pX;by_cases hi:i<ps.length
   .rw[uc hi] at e1;rw[uc ⋯] at e2;obtain⟨u,hu,rv⟩:=r.get e2;exact⟨u,rv,.inl ⟨S.par y (ud e1),zlf S.nd pw e1 hu⟩⟩
   .rw[ur ⋯] at e1;rw[ur ⋯,hl] at e2;obtain⟨a,o,u,g1,g2,g3,g4⟩:=h3 _ _ _ e1 e2;exact⟨u,g4,.inr ⟨.inr (S.fre y (ud e1)),a,g1,o,hk _ _ (e0.hok a _ g2).1,g3⟩⟩
  .obtain⟨o,u,g2,g3⟩:=h6 y a e;exact⟨u,o,hk _ _ (e0.hok a _ g2).1,g3⟩
  .obtain⟨o,u,g2,g3⟩:=h6 y a e;exact .inr ⟨rfl,o,g2⟩
  .show _=(ps++L.fr).length;rw[uw,uD,uD,hl,qX]
 obtain⟨tt,ht,hq⟩:=dI bG c (hr.deeper _);refine PySem.W.kla_codeExpr (wpAny_mono (ht [] _ _ H Q I hq) (λu s' hs=> ?_) λe s' z=>uW z);obtain⟨v,H',J,rv,q⟩:=hs;exact⟨v,H',J.os,J.bare,J.base,J.hok,rv,q⟩
def FnG (H:Hp) (x:V) (f:Addr):Prop:=x= .ref f/\∃(fd:FuncData),H f=f7 (.frz {cls:= .type "function",data:= .func fd} (.own 0))
def zqj (P:Program) (w:World) (K:u5) (mg:Str->Option Value) (base:Heap) (k:Nat) (R:V->List V->Hp->VK->Prop):Prop:=
 ∀(A:Around) (outer:List Env) (s:Shared) (H:Hp) (f:Addr) (as:List V) (us:List Value) (Q:VK),xS k A->zcy P w K mg base A outer s H->zZ as us->R (.ref f) as H Q->codeAny (model P w) A (.call (.ref f) ⟨us,[]⟩) (CL outer P w H s Q) s
def zlg (i:Nat) (R:V->List V->Hp->VK->Prop) (t:TA):TE:=λσ H Q=>∃x f,σ[i]? =f7 (f7 x)/\FnG H x f/\t σ H λas H2=>FnG H2 x f/\R x as H2 Q
theorem FnG.at {P:Program} {w:World} {H:Hp} {h:Heap} {x:V} {f:Addr} (g:FnG H x f) (hok:HOk P w H h):PySem.W.FnAt f h:=by
 obtain⟨_,fd,e⟩:=g;exact⟨_,_,_,_,(hok f _ e).1⟩
theorem zb5 {X:Cx} {i k:Nat} {x:Str} {p pos:Pos} {e:Expr} {es:List Expr} {t:TA} {R:V->List V->Hp->VK->Prop} (hN:X.N[i]? =f7 x) (hv:Vis X.env.scope x) (F:zqj X.prog X.w X.K X.mg X.base k R) (hr:xS k X.A) (ha:PA X (e::es) t)
  (hd:(x==("__debug__":Str))=kb:=by decide) (dS:(x==("__classdict__":Str))=kb:=by decide) (he:starEach (e::es) X.env=(kb,eval e X.env)::starEach es X.env:=by rfl) (eY:(backTo pos (starEach es X.env)).any (·.1)=kb:=by rfl):
  PE X (.Call (.Name x p) (e::es) [] pos) (zlg i R t):=by
 intro pins s σ H Q I h;obtain⟨v,f,hs,hf,ht⟩:=h;obtain⟨rfl,_⟩:=id hf;refine wpAny_Call_Name_kw ?_;have hx:= @zjA X i x p hN hv hd dS pins s σ H (λy H1=>y= .ref f/\H1=H) I ⟨.ref f,hs,rfl,rfl⟩;refine thn hx ?_;rintro u s1 ⟨y,H1,I1,r1,e1,e2⟩;subst e1;rw[e2] at I1;obtain rfl:u=Value.ref f:=r1;refine PySem.W.callWith_F (hf.at I1.hok) (thn (ha pos pins s1 σ H _ I1 ht) ?_) he eY;rintro us s2 ⟨as,H2,I2,r2,fc,q2⟩;refine⟨fc.at I2.hok,?_⟩;refine wpAny_call (codeAny_mono (F X.A X.stack s2 H2 f as us Q hr I2.env0 r2 q2) λr s' hq=> ?_);cases r with
 |error e=>exact uW hq
 |ok fl=>
  cases fl with
  |ret u=>exact I2.after hq
  |next=>exact uW hq
  |brk=>exact uW hq
  |cont=>exact uW hq
noncomputable def zhg (ρ:Rho):List Nat->Option (List Xv)
 |[]=>f7 []
 |i::r=>(ρ[i]?).join.bind λx=>(zhg ρ r).map (x:: ·)
noncomputable def zeo (L:xq) (n:Nat) (is:List Nat):TwE:=λρ S=>match S[n]? with
 |some (.tab t)=> @ite _ (t=L.t) (Bj _) ((zhg ρ is).map λxs=> .ok (.lam L xs) S) gC
 |_=>gC
noncomputable def Yq:List (xq×(List Xv->TwF))->xq->Option (List Xv->TwF)
 |[],_=>gC
 |(M,t)::r,L=> @ite _ (M=L) (Bj _) (f7 t) (Yq r L)
noncomputable def US (fns:List (xq×(List Xv->TwF))) (i:Nat) (ms:List TwE):TwE:=λρ S=>match (ρ[i]?).join with
 |some (.lam L bz)=>rb (evL ms ρ S) λxs S1=>(Yq fns L).bind λtw=>match tw bz xs S1 with
  |some (.ok x S2)=>f7 (.ok x S2)
  |_=>gC
 |_=>gC
noncomputable def zep (n m:Nat) (e:TwE):List Xv->TwF:=λbz xs S=>if xs.length=n/\bz.length=m then e ((xs++bz).map f7) S else gC
section
variable {K:u5} {E:XK} {F:Fm} {j:List Addr} {H H':Hp} {σ:St} {ρ:Rho} {S:Sto}
theorem TR {L:xq} {t:List Xv->TwF} {r:List (xq×(List Xv->TwF))}:Yq ((L,t)::r) L=f7 t:=by unfold Yq;exact if_pos rfl
theorem zif {L M:xq} {t:List Xv->TwF} {r:List (xq×(List Xv->TwF))} (h:M.id≠L.id):Yq ((M,t)::r) L=Yq r L:=by
 rw[Yq];exact if_neg λz=>h (congrArg xq.id z)
theorem zfK {L:xq} {t:List Xv->TwF}:∀{fns:List (xq×(List Xv->TwF))},Yq fns L=f7 t->(L,t)∈fns
 |[],h=>by cases h
 |(M,u)::r,h=>by
  unfold Yq at h;by_cases e:M=L
  .rw[if_pos e] at h;cases h;rw[e];exact uv
  .rw[if_neg e] at h;exact uj _ (zfK h)
theorem En.writeS {n:Nat} {a:Addr} {c c':Ce} {o:HO} (E1:En K F j H σ ρ S) (hs:S[n]? =f7 c) (z:c.fz=kb) (hj:j[n]? =f7 a) (Sm:Xl (upd H a o) H') (hc:zbI K j H' a c'):En K F j H' σ ρ (S.set n c')/\Ext j H j H':=by
 obtain⟨o0,h0,m0⟩:=(E1.cel n c a hs hj).mu z;have S1:Xl H (upd H' a o0):=λb u e=>by
  by_cases hb:b=a
  .subst hb;rw[zJ];rw[h0] at e;exact e
  .rw[zB hb];exact Sm b u (by rw[zB hb];exact e)
 have e2:upd (upd H' a o0) a o=H':=by
  funext b;by_cases hb:b=a
  .subst hb;rw[zJ];exact (Sm b o zJ).symm
  .rw[zB hb,zB hb]
 have E2:=E1.heap S1;obtain⟨E3,X3⟩:=E2.writeF (o:=o) (c':=c') hs z hj (λX=>by rw[e2];exact hc);rw[e2] at E3 X3;exact⟨E3,(Ext.same S1).trans X3⟩
theorem zfL (E1:En K F j H σ ρ S):∀{is:List Nat} {xs:List Xv},zhg ρ is=f7 xs->∃vs,is.map (λi=>(σ[i]?).join)=vs.map f7/\yc K j H xs vs
 |[],xs,h=>by cases h;exact⟨[],rfl,.nil⟩
 |i::r,xs,h=>by
  unfold zhg at h;cases e:(ρ[i]?).join with
  |none=>rw[e] at h;cases h
  |some x=>
   rw[e] at h;dsimp only[B8] at h;cases e2:zhg ρ r with
   |none=>rw[e2] at h;cases h
   |some ys=>
    rw[e2] at h;cases h;obtain⟨vs,h1,h2⟩:=zfL E1 e2;have e':ρ[i]? =f7 (f7 x):=by
     cases q:ρ[i]? with
     |none=>rw[q] at e;cases e
     |some z=>rw[q] at e;exact congrArg f7 e
    obtain⟨v,h3,h4⟩:=E1.slot i x e';exact⟨v::vs,by simp[h3,h1],.cons h4 h2⟩
theorem zb6 {L:xq} {n:Nat} {is:List Nat} {c P:Addr} (hP:vZ K L.t=f7 (c,P)):RE K E (zo5 L P is) (zeo L n is):=by
 intro F j σ H ρ S r Q En0 e k;unfold zeo at e;split at e
 .rename_i t es;by_cases ht:t=L.t
  .rw[if_pos ht] at e;subst ht;cases e2:zhg ρ is with
   |none=>rw[e2] at e;cases e
   |some xs=>
    rw[e2] at e;cases e;have hn:n<j.length:=by rw[En0.jl];exact (u9.1 es).1
    have hj:j[n]? =f7 j[n]:=u6 hn;obtain⟨ps,d,hH,htk,iA,gJ⟩:=En0.cel n _ _ es hj;rw[hP] at htk;cases htk;obtain⟨vs,h1,h2⟩:=zfL En0 e2;refine⟨ps,vs,hH,iA,gJ,h1,λf ps' H' Sm t' c' la=> ?_⟩;obtain⟨E2,X2⟩:=En0.writeS (c':= .tab L.t) es rfl hj Sm ⟨ps',c,Sm _ _ zJ,hP,t',c'⟩;have nH:S.set n (.tab L.t)=S:=by
     apply BW;intro m;rw[uZ];split
     .rename_i q;subst q;rw[if_pos (u9.1 es).1,es]
     .rfl
    rw[nH] at E2;exact k _ _ X2 E2 _ (.lam la (h2.mono X2))
  .rw[if_neg ht] at e;cases e
 .cases e
def zqk (K:u5) (fns:List (xq×(List Xv->TwF))):V->List V->Hp->VK->Prop:=λx as H Q=>∃(j:List Addr) (S S':Sto) (xs bz:List Xv) (L:xq) (tw:List Xv->TwF) (z:Xv),
 En K ⟨H,j,S⟩ j H (as.map f7) (xs.map f7) S/\Xis K j H (.lam L bz) x/\Yq fns L=f7 tw/\tw bz xs S=f7 (.ok z S')/\∀v j' H' σ ρ,En K ⟨H,j,S⟩ j' H' σ ρ S'->Xis K j' H' z v->Q v H'
def YW (P:Program) (w:World) (K:u5) (mg:Str->Option Value) (base:Heap) (k:Nat) (L:xq) (tw:List Xv->TwF):Prop:=∀(A:Around) (outer:List Env) (s:Shared) (H:Hp) (f:Addr) (vs as:List V) (us:List Value) (Q:VK) (j:List Addr) (S S':Sto) (xs bz:List Xv) (z:Xv),
 xS k A->zcy P w K mg base A outer s H->zbH H L f vs->yc K j H bz vs->zZ as us->En K ⟨H,j,S⟩ j H (as.map f7) (xs.map f7) S->tw bz xs S=f7 (.ok z S')->
 (∀v j' H' σ ρ,En K ⟨H,j,S⟩ j' H' σ ρ S'->Xis K j' H' z v->Q v H')->codeAny (model P w) A (.call (.ref f) ⟨us,[]⟩) (CL outer P w H s Q) s
theorem YW.mono {P:Program} {w:World} {mg:Str->Option Value} {base:Heap} {i k:Nat} {L:xq} {tw:List Xv->TwF} (h:YW P w K mg base i L tw) (hk:i<=k):YW P w K mg base k L tw:=
 λA outer s H f vs as us Q j S S' xs bz z hr=>h A outer s H f vs as us Q j S S' xs bz z (hr.mono hk)
theorem zeq {P:Program} {w:World} {mg:Str->Option Value} {base:Heap} {k:Nat} {fns:List (xq×(List Xv->TwF))} (h:∀p∈fns,YW P w K mg base k p.1 p.2):zqj P w K mg base k (zqk K fns):=by
 rintro A outer s H f as us Q hr e0 r ⟨j,S,S',xs,bz,L,tw,z,E1,hx,hp,ht,q⟩;cases hx with
 |lam la l=>exact h (L,tw) (zfK hp) A outer s H f _ as us Q j S S' xs bz z hr e0 la l r E1 ht q
theorem zb7 {P:Program} {w:World} {mg:Str->Option Value} {base:Heap} {k n mm:Nat} {L:xq} {ps:List Str} {m:TwE} (Sc:zfJ ps L.fr L.sc) (hn:ps.length=n) (hm:L.fr.length=mm)
  (hb:∀(bG:List (Str×Addr)) (pm eD:Value) (c:Addr) (us:List Value),us.length=ps.length->bindArgs (Dq "<lambda>" L.q L.par L.body L.sc bG pm (.ref c) eD) ⟨us,[]⟩=pure (ps.zip us))
  (pz:∀(bG:List (Str×Addr)) (f c:Addr) (A:Around) (outer:List Env) (s:Shared) (H:Hp),xS k (zds P w K mg base (ps++L.fr) L bG f c A outer s H).A->∃t,PE (zds P w K mg base (ps++L.fr) L bG f c A outer s H) L.body t/\RE K E0 t m):
  YW P w K mg base (k+1) L (zep n mm m):=by
 intro A outer s H f vs as us Q j S S' xs bz z hr e0 la l r E1 ht q;unfold zep at ht;split at ht
 .rename_i hl;have oy:as.length=xs.length:=by have:=E1.len;simpa using this
  refine zmQ Sc hb hr e0 la (by rw[l.len,hl.2,hm]) r (by rw[oy,hl.1,hn]) λbG c lY=> ?_;obtain⟨t,h1,h2⟩:=pz bG f c A outer s H lY;refine⟨t,h1,h2 (E1.slots (σ':=(as++vs).map f7) (ρ':=(xs++bz).map f7) (by simp[oy,l.len]) λi x e=> ?_) ht λj' H' X E' v hv=>q _ _ _ _ _ E' hv⟩;rw[uf,uI] at e;obtain⟨y,e,e'⟩:=e;cases e';by_cases hi:i<xs.length
  .rw[uc hi] at e;obtain⟨v,h3,h4⟩:=E1.slot i x (by rw[uf,e];rfl);rw[uf,uI] at h3;obtain⟨v',h3,ka⟩:=h3;cases ka;exact⟨v,by rw[uf,uc ⋯,h3];rfl,h4⟩
  .rw[ur ⋯] at e;obtain⟨v,h3,h4⟩:=l.get e;exact⟨v,by rw[uf,ur ⋯,oy,h3];rfl,h4⟩
 .cases ht
theorem zb8 {fns:List (xq×(List Xv->TwF))} {i:Nat} {t:TA} {ms:List TwE} (h:RL K E t (evL ms)):RE K E (zlg i (zqk K fns) t) (US fns i ms):=by
 intro F j σ H ρ S r Q En0 e k;unfold US at e;split at e
 .rename_i L bz er;have e':ρ[i]? =f7 (f7 (.lam L bz)):=by
   cases q:ρ[i]? with
   |none=>rw[q] at er;cases er
   |some z=>rw[q] at er;exact congrArg f7 er
  obtain⟨v,e1,hx⟩:=En0.slot i _ e';have kP:=hx;cases hx with
  | @lam f vs _ _ la l=>
   obtain⟨bG,pm,eD,c,h1,_⟩:=la.ex;refine⟨.ref f,f,e1,⟨rfl,_,h1⟩,?_⟩;rcases zu e with⟨xs,S1,e2,e⟩|⟨c,S1,e2,rfl⟩
   .refine h En0 e2 λj1 H1 X1 E1 as hv=>⟨⟨rfl,_,X1.imm _ _ h1 rfl⟩,?_⟩;cases hp:Yq fns L with
    |none=>rw[hp] at e;cases e
    |some tw=>
     rw[hp] at e;dsimp only[B8] at e;split at e
     .rename_i x S2 e3;cases e;obtain⟨l1,s1⟩:=zbQ hv;refine⟨j1,S1,S2,xs,bz,L,tw,x,E1.enter l1 s1,kP.mono X1,hp,e3,λv j' H' σ' ρ' Ex hz=> ?_⟩;obtain⟨E2,X2⟩:=E1.leave Ex;exact k j' H' (X1.trans X2) E2 v hz
     .cases e
   .exact h En0 e2 k
 .cases e
theorem zb9 {L:xq} {n:Nat} {is:List Nat} {xs:List Xv} {P:Xv->Sto->Prop} (h:S[n]? =f7 (.tab L.t)) (hc:zhg ρ is=f7 xs) (k:P (.lam L xs) S):W (zeo L n is ρ S) P:= .of (by
 unfold zeo;rw[h];dsimp only;rw[if_pos rfl,hc]
 rfl) k
theorem zca {fns:List (xq×(List Xv->TwF))} {i:Nat} {L:xq} {bz:List Xv} {tw:List Xv->TwF} {ms:List TwE} {P:Xv->Sto->Prop} (h:ρ[i]? =f7 (f7 (.lam L bz))) (hp:Yq fns L=f7 tw) (k:W (evL ms ρ S) λxs S1=>W (tw bz xs S1) P):W (US fns i ms ρ S) P:=by
 unfold US;rw[h];dsimp only[Option.join];refine W.bind (k.imp λxs S1 k=> ?_);rw[hp];obtain⟨x,S2,e,k⟩:=k;dsimp only[B8];rw[e];exact .of rfl k
theorem TU {n m:Nat} {e:TwE} {bz xs:List Xv} {P:Xv->Sto->Prop} (h1:xs.length=n) (h2:bz.length=m) (k:W (e ((xs++bz).map f7) S) P):W (zep n m e bz xs S) P:=by
 unfold zep;rw[if_pos ⟨h1,h2⟩];exact k
end
noncomputable def noE:Expr:= .Name Str.empty ⟨0,0,0,0⟩
def zmR (s:Stmt):Expr:=match s with
 | .Return (f7 e) _=>e
 |_=>noE
def zlh (e:Expr) (i:Nat):Expr:=match e with
 | .Call _ es _ _=>es.getD i noE
 |_=>noE
noncomputable def zli (s:Stmt) (i:Nat):Stmt:=(wZ s).getD i (.Pass ⟨0,0,0,0⟩)
noncomputable def zcb (e:Expr):Arguments:=match e with
 | .Lambda a _ _ _=>a
 |_=>{posonlyargs:=[],args:=[],vararg:=gC,kwonlyargs:=[],kw_defaults:=[],kwarg:=gC,defaults:=[]}
def TV (e:Expr):Expr:=match e with
 | .Lambda _ b _ _=>b
 |_=>noE
noncomputable def zfM (e:Expr):Scope:=match e with
 | .Lambda _ _ s _=>s
 |_=>{kind:= .function,names:=[],isGenerator:=kb,isCoroutine:=kb}
theorem Zs {K:u5} {f c P:Addr} (h:zgQ K f=f7 (c,P)):B2 K c P=ia/\∀{oc:Value} {od:Option Addr} {fd:FuncData} {sl:Array (Option Value)},K.lookup f=f7 ⟨oc,od,.func fd,sl⟩->fd.code= .ref c:=by
 unfold zgQ at h;split at h
 .rename_i tS _ e1;split at h
  .rename_i c1 e2;split at h
   .split at h
    .split at h
     .rename_i hd;cases h;refine⟨hd,λe=> ?_⟩;rw[e1] at e;cases e;exact e2
     .cases h
    .cases h
   .cases h
  .cases h
 .cases h
noncomputable def UD (fz:List Str) (CX:CXT) (P:Program) (w:World) (K:u5) (mg:Str->Option Value) (base:Heap) (N:List Str) (qual:Str) (scope:Scope) (f:Addr) (cd:Value) (A:Around) (outer:List Env) (s:Shared) (H:Hp) (E:XK):Cx:=
 {Xk CX P w K mg base N qual scope f cd A outer s H E with fn:=λx=> !fz.contains x,zn:=λx=>fz.contains x}
theorem Inv.toZ {fz:List Str} {CX:CXT} {P:Program} {w:World} {K:u5} {mg:Str->Option Value} {base:Heap} {N:List Str} {qual:Str} {scope:Scope} {f:Addr} {cd:Value} {A:Around} {outer:List Env} {s s1:Shared} {H H1:Hp} {E:XK} {pins:List (Addr×Obj)} {σ:St}
  (I:Inv (Xk CX P w K mg base N qual scope f cd A outer s H E) pins σ H1 s1):Inv (UD fz CX P w K mg base N qual scope f cd A outer s H E) pins σ H1 s1:=
 ⟨⟨I.ok.mod,I.ok.kind,I.ok.glob,I.ok.blt,I.ok.above,I.ok.inj,I.ok.has,λx c _ e=>I.ok.cab x c (.inl rfl) e,I.ok.hd,I.ok.frames,I.ok.stk,I.ok.exf,I.ok.bs,I.ok.bsz,I.ok.noex,I.ok.exfs,I.ok.funs,I.ok.frf⟩,I.os,I.bare,I.base,I.loc,I.cell,I.free,
  λx c e=> .inl ((I.freeC x c e).elim (λz=>z) λz=>AA (show ia=kb from z.1)),I.pin,I.hok,I.len⟩
theorem Fun.okZ {P:Program} {w:World} {K:u5} {mg:Str->Option Value} {base:Heap} {x qual:Str} {st:Stmt} {f c T:Addr} {fd:FuncData} {N ps:List Str} {k:Nat} {sp:Sp} {fz:List Str} (F:Fun K x qual st f fd) (hT:zgQ K f=f7 (c,T)) (S:zr N ps (ze st)) (len:∀vs H Q E,sp vs H Q E->vs.length=ps.length)
  (dI:∀(A:Around) (outer:List Env) (s:Shared) (H:Hp) (vs:List V) (Q:VK) (E:XK),xS k (A.deeper (envOfC qual (ze st) s.heap.objs.size f (.ref c)))->sp vs H Q E->
   ∃t,PSs (UD fz (CXE P w) P w K mg base N qual (ze st) f (.ref c) A outer s H E) (wZ st) t/\t {nx:=λ_ H'=>Q .non H',rt:=Q} (ZI N vs) H):ZP P w K mg base (CXE P w) (k+1) f fd ps sp:=by
 obtain⟨oc,od,kV,doc,pm,an,bT,ct,gi,rfl,lk,dS⟩:=F.ex;have hc:bT= .ref c:=(Zs hT).2 lk;subst hc;refine⟨len,λA outer s H args us vs Q E hr e0 hb r i6=> ?_⟩;have hl:=len _ _ _ _ i6;have KX:K.In s.heap:=e0.mod.kin.keeps λb o e=>(e0.bs b o e).1;have lim:s.heap.NoLimit:=e0.mod.nolimit.keeps λb o e=>(e0.bs b o e).1;have fQ:∀y∈ps.zip us,(ze st).names.lookup y.1=f7 .local\/((ze st).names.lookup y.1=f7 .cell/\((cellsFrom (s.heap.objs.size+1) (ze st).names []).lookup y.1).isSome=ia):=λ⟨n,v⟩ hy=>by
  rcases S.par n (AI hy).1 with q|q
  .exact .inl q
  .exact .inr ⟨q,AQ _ _ _ (.inl q)⟩
 refine codeAny_call_function hr.depth (KX _ _ lk) rfl S.co S.gen rfl (BP KX dS) (hb _ _ _ _ ?_);refine wpAny_newFunctionEnv_cells S.kind fQ λenv he s1 x=> ?_;subst he;refine⟨lim.keeps x.toInCall.keep,codeAny_func ?_⟩;obtain⟨t,ht,hq⟩:=dI A outer s H vs Q E (hr.deeper _) i6;have I:Inv (UD fz (CXE P w) P w K mg base N qual (ze st) f (.ref c) A outer s H E) [] (ZI N vs) H s1:=(zat S hr.hd e0 hl r x).toZ;refine wpAny_mono (ht [] s1 (ZI N vs) H _ I hq) (λfl s' hs=> ?_) λe s' hs=>hs;have fin:∀{σ':St} {H':Hp} {v:V} {u:Value},Inv (UD fz (CXE P w) P w K mg base N qual (ze st) f (.ref c) A outer s H E) [] σ' H' s'->zW v u->Q v H'->CE outer P w H s Q u s':=
  λ{σ' H' v u} J rv q=>⟨v,H',J.os,J.bare,J.base,J.hok,rv,q⟩
 cases fl with
 |ret u=>
  obtain⟨v,σ',H',J,rv,q⟩:=hs;exact fin J rv q
 |next=>
  obtain⟨σ',H',J,q⟩:=hs;exact fin (v:=V.non) (u:=Value.none) J rfl q
 |brk=>
  obtain⟨_,_,_,q⟩:=hs;exact uW q
 |cont=>
  obtain⟨_,_,_,q⟩:=hs;exact uW q
noncomputable def zlj (osc sc:Scope) (N fz fr:List Str) (is:List Nat):Bool:=zkg osc sc&&fr.length==is.length&&(fr.zip is).all (λp=>sc.names.lookup p.1==f7 .free&&N[p.2]? ==f7 p.1)&&sc.names.all (λy=>y.2 != .free||fz.contains y.1)
theorem TW {X:Cx} {osc sc:Scope} {N fz fr:List Str} {is:List Nat} (hs:X.env.scope=osc) (hN:X.N=N) (hf:X.fn=λx=> !fz.contains x) (hz:X.zn=λx=>fz.contains x) (h:zlj osc sc N fz fr is=ia):zo4 X sc fr is:=by
 unfold zlj at h;simp only[uX,y8,beq_iff_eq,bne_iff_ne,ne_eq,BD] at h;obtain⟨⟨⟨h1,h2⟩,h3⟩,h4⟩:=h;refine⟨blk hs h1,λi x e=> ?_,λy hy e=> ?_⟩
 .have hi:i<is.length:=by rw[<-h2];exact (u9.1 e).1
  have e2:is[i]? =f7 is[i]:=u6 hi;obtain⟨g1,g2⟩:=h3 (x,is[i]) (ud (i:=i) (by rw[C0];exact⟨e,e2⟩));exact⟨g1,is[i],e2,by rw[hN];exact g2⟩
 .have g:=(h4 y hy).resolve_left λz=>z e;rw[hf,hz];exact⟨g,by dsimp only;rw[g];rfl⟩
theorem TX {X:Cx} {L:xq} {e:Expr} {pos:Pos} {is:List Nat} {c P:Addr} (S:zo4 X L.sc L.fr is) (hq:X.env.qual=L.t.d++".<locals>.") (gK:X.env.code= .ref c) (hC:B2 X.K c P=ia)
  (hL:e= .Lambda L.par L.body L.sc pos:=by rfl) (jV:defaultsOf L.par X.env=([],[]):=by rfl):PE X e (zo5 L P is):=by
 rw[hL];exact zo6 (id:=L.id) S hq gK hC jV
section
variable {P:Program} {w:World} {K:u5} {mg:Str->Option Value} {base:Heap} {k i:Nat}
theorem zcc:∀p∈([]:List (xq×(List Xv->TwF))),YW P w K mg base k p.1 p.2:=λp hp=>nomatch hp
theorem XW {L:xq} {tw:List Xv->TwF} {fns:List (xq×(List Xv->TwF))} (h:YW P w K mg base i L tw) (hk:i<=k) (r:∀p∈fns,YW P w K mg base k p.1 p.2):∀p∈(L,tw)::fns,YW P w K mg base k p.1 p.2:=λp hp=>by
 rcases uy.mp hp with rfl|hp
 .exact h.mono hk
 .exact r p hp
end
noncomputable def YX (nm m:Str) (tw:TwF) (o:TwE) (ms:List TwE):TwE:=λρ S=>rb (o ρ S) λx S1=>(zb3 S1 x nm).bind λp=>if p.2.lookup m=gC then rb (evL ms ρ S1) λxs S2=>(match tw (x::xs) S2 with
  |some (.ok y S3)=>f7 (.ok y S3)
  |_=>gC) else gC
section
variable {K:u5} {E:XK} {C:Addr} {nm m:Str} {ρ:Rho} {S:Sto}
theorem Yc {n:Nat} {tw:TwF} {o:TwE} {to:TE} {ms:List TwE} {t:TA} (dE:um K mainGlobals nm=f7 (f7 (.ref C))) (ho:RE K E to o) (h:RL K E t (evL ms)) (hn:ms.length+1=n:=by rfl):RE K E (zjN C m (sTw K n tw) [] E0 to t) (YX nm m tw o ms):=by
 intro F j σ H ρ S r Q En0 e k;rcases zu e with⟨x,S1,e1,e⟩|⟨c,S1,e1,rfl⟩
 .refine ho En0 e1 λj1 H1 X1 E1 u hu=> ?_;rw[v3] at e;obtain⟨⟨q,fs⟩,e2,e⟩:=e;dsimp only at e;split at e
  .rename_i nW;obtain⟨a,dx,mF,rfl,hj,f1,f2⟩:=E1.ins dE hu e2;refine⟨a,dx,mF,rfl,f1,f2.look.2 nW,?_⟩;rcases zu e with⟨xs,S2,e3,e⟩|⟨c,S2,e3,rfl⟩
   .refine h E1 e3 λj2 H2 X2 E2 vs hv=> ?_;rw[y0];split at e
    .rename_i y S3 e4;cases e;exact Yb E2 (.cons (hu.mono X2) hv) (by rw[ux,hv.len,ZQ e3,hn]) e4 (λj' H' X E3 v hw=>k _ _ ((X1.trans X2).trans X) E3 v hw)
    .cases e
   .exact h E1 e3 (k.step X1)
  .cases e
 .exact ho En0 e1 k
theorem XX {tw:TwF} {o:TwE} {ms:List TwE} {P:Xv->Sto->Prop} (h:W (o ρ S) λx S1=>∃n fs,x= .ref n/\S1[n]? =f7 (.ins nm fs)/\fs.lookup m=gC/\W (evL ms ρ S1) λxs S2=>W (tw (x::xs) S2) P):W (YX nm m tw o ms ρ S) P:=
 W.bind (h.imp λx S1 h=>by
  obtain⟨n,fs,rfl,e1,e2,k⟩:=h;have e3:zb3 S1 (.ref n) nm=f7 (n,fs):=by unfold zb3;simp[e1]
  rw[e3,uz];dsimp only;rw[if_pos e2];refine W.bind (k.imp λxs S2 k=> ?_);obtain⟨y,S3,e,k⟩:=k;rw[e]
  exact .of rfl k)
end
theorem zaC {K:u5} {C m d:Str} {g f:Addr} (h1:um K mainGlobals C=f7 (f7 (.ref g))) (h2:uk K (.ref g) m=f7 (f7 (.ref f))) (h:(vZ K ⟨f7 C,m,d⟩).isSome=ia):∃c P,zgQ K f=f7 (c,P)/\vZ K ⟨f7 C,m,d⟩=f7 (c,P):=by
 obtain⟨⟨c,P⟩,e⟩:=y7.1 h;refine⟨c,P,?_,e⟩;unfold vZ zgP at e;dsimp only at e;rw[h1] at e;dsimp only at e;rw[h2] at e;exact e
noncomputable def Vx (K:u5) (eJ:List Vs):List Addr:=eJ.filterMap λt=>(vZ K t).map (·.2)
noncomputable def zer:List Addr->Bool
 |[]=>ia
 |a::r=> !r.contains a&&zer r
noncomputable def zdt (K:u5) (ts:List Addr) (eJ:List Vs):Bool:=eJ.all (λt=>match vZ K t with
 |some (_,P)=>ts.contains P&&(K.lookup P).isNone
 |none=>kb)&&zer (Vx K eJ)
theorem zdu:∀{l:List Addr},zer l=ia->l.Nodup
 |[],_=>CB
 |a::r,h=>by
  unfold zer at h;simp only[uX,D4,CI,decide_eq_false_iff_not] at h;exact Al.mpr ⟨h.1,zdu h.2⟩
structure zmS (K:u5) (ts:List Addr) (eJ:List Vs) (cK:List Addr):Prop where
 at_:∀(i:Nat) t,eJ[i]? =f7 t->∃c P,cK[i]? =f7 P/\vZ K t=f7 (c,P)
 len:cK.length=eJ.length
 nd:cK.Nodup
 sub:∀P∈cK,P∈ts/\K.lookup P=gC/\∃t c,vZ K t=f7 (c,P)
theorem zig {K:u5} {ts:List Addr} {eJ:List Vs} (h:zdt K ts eJ=ia):zmS K ts eJ (Vx K eJ):=by
 unfold zdt at h;rw[uX,y8] at h;obtain⟨h1,h2⟩:=h;have key:∀(l:List Vs),(∀t∈l,t∈eJ)->(∀(i:Nat) t,l[i]? =f7 t->∃c P,(Vx K l)[i]? =f7 P/\vZ K t=f7 (c,P))/\(Vx K l).length=l.length/\∀P∈Vx K l,P∈ts/\K.lookup P=gC/\∃t c,vZ K t=f7 (c,P):=by
  intro l
  induction l with
  |nil=>intro _;exact⟨λi t e=>by simp at e,rfl,λP hP=>by cases hP⟩
  |cons t r ih=>
   intro hs;obtain⟨g1,g2,g3⟩:=ih λt ht=>hs t (uj _ ht);have ht:=h1 t (hs t uv);cases e:vZ K t with
   |none=>rw[e] at ht;cases ht
   |some p=>
    obtain⟨c,P⟩:=p;rw[e] at ht;simp only[uX,CI,decide_eq_true_eq,Option.isNone_iff_eq_none] at ht;have e2:Vx K (t::r)=P::Vx K r:=by unfold Vx;rw[AB,e];rfl
    rw[e2];refine⟨λi u eu=> ?_,by simp[g2],λQ hQ=> ?_⟩
    .cases i with
     |zero=>simp at eu;subst eu;exact⟨c,P,rfl,e⟩
     |succ i=>
      obtain⟨c',P',a,b⟩:=g1 i u (by simpa using eu);exact⟨c',P',by simpa using a,b⟩
    .rcases uy.mp hQ with rfl|hQ
     .exact⟨ht.1,ht.2,t,c,e⟩
     .exact g3 Q hQ
 obtain⟨g1,g2,g3⟩:=key eJ λ_ h=>h;exact⟨g1,g2,zdu h2,g3⟩
theorem zmT {K:u5} {t:Vs} {c P:Addr} (h:vZ K t=f7 (c,P)):B2 K c P=ia:=by
 unfold vZ at h;rw[v3] at h;obtain⟨f,_,h⟩:=h;exact (Zs h).1
structure zlk (cK:List Addr) (H:Hp):Prop where
 all:∀b,H b=gC\/(∃o xs,H b=f7 (.frz o (.lst xs)))\/(b∈cK/\H b=f7 (.tbl #[]))
 tb:∀P∈cK,H P=f7 (.tbl #[])
def zcd (K:u5) (cK:List Addr):Sp:=λvs H Q _=>∃(a:Addr) (ns:List Int),vs=[V.ref a]/\zlk cK H/\SqX K H a (ns.map V.int)/\ns.length<=63/\∀H',Q (.bl ia) H'
theorem zmU {P:Program} {w:World} {K:u5} {mg:Str->Option Value} {base:Heap} {CX:CXT} {k:Nat} {f:Addr} {fd:FuncData} {ps:List Str} {tw:TwF} {ts cK:List Addr} {eJ:List Vs} (Fn:ZP P w K mg base CX k f fd ps (sTw K 1 tw)) (hT:zmS K ts eJ cK)
  (h:∀ns:List Int,ns.length<=63->∃S,tw [.ref 0] (.frz (ns.map Xv.int)::eJ.map .tab)=f7 (.ok (.bl ia) S)):ZP P w K mg base CX k f fd ps (zcd K cK):=by
 refine Fn.imp ?_;rintro vs H Q E ⟨a,ns,rfl,hO,hS,hl,q⟩;obtain⟨S',e⟩:=h ns hl;have hlen:(a::cK).length=(Ce.frz (ns.map Xv.int)::eJ.map Ce.tab).length:=by simp[hT.len]
 refine⟨rfl,a::cK,.frz (ns.map Xv.int)::eJ.map .tab,[.ref 0],_,?_,e,λv j' H' σ ρ E' hv=> ?_⟩
 .refine⟨rfl,λi x e=> ?_,hlen,λn m b c d e1 e2 e3 e4 z1 z2=> ?_,λn c b e1 e2=> ?_,Ext.refl,λn c e=>⟨c,e,λz=>z,λ_=>rfl⟩,hlen,λb u e=> .inl e,λn b hn e=> ?_,λb e=>e⟩
  .cases i with
   |zero=>simp at e;subst e;exact⟨_,rfl,.ref rfl⟩
   |succ i=>simp at e
  .cases n with
   |zero=>simp at e3;subst e3;cases z1
   |succ n=>
    cases m with
    |zero=>simp at e4;subst e4;cases z2
    |succ m=>
     simp only[Cb] at e1 e2;obtain⟨h1,g1⟩:=u9.1 e1;obtain⟨h2,g2⟩:=u9.1 e2;rw[(C3 hT.nd).mp (g1.trans g2.symm)]
  .cases n with
   |zero=>
    simp at e1 e2;subst e1 e2;refine⟨ns.map V.int,?_,yc.ints ns⟩;rcases hS with (hS|⟨o,hS⟩)|hS
    .rcases hO.all a with z|⟨o,xs,z⟩|⟨_,z⟩
     .rw[z] at hS;cases hS
     .rw[z] at hS;cases hS
     .rw[z] at hS;cases hS
    .exact .inl ⟨o,hS⟩
    .exact .inr λH=> .inr hS
   |succ n=>
    simp only[Cb,uf,uI] at e1 e2;obtain⟨t,e1,rfl⟩:=e1;obtain⟨c,P',g1,g2⟩:=hT.at_ n t e1;rw[g1] at e2;cases e2;exact⟨#[],c,hO.tb _ (ud g1),g2,trivial,λpos cv q=>by cases q⟩
  .dsimp only at hn;have:=(u9.1 e).1;omega
 .rw[hv.bl_inv];exact q H'
theorem zjh {P:Program} {w:World} {K:u5} {mg mb:Str->Option Value} {CX:CXT} {k:Nat} {fa a:Addr} {fd:FuncData} {x:Str} {sp:Sp} {s₁:Shared} {vs:List Value} {ns:List Int} {ts cK:List Addr} {eJ:List Vs}
  (KX:K.In s₁.heap) (hT:zmS K ts eJ cK) (nD:∀P∈ts,s₁.heap.get? P=f7 (AW #[])) (dE:s₁.heap.Ns mainGlobals mg) (hb:s₁.heap.Ns builtinsNs mb) (pK:∀x:Str,x≠"__name__"->mb x=bootBuiltins x) (nX:s₁.heap.NoLimit)
  (pJ:∃bm ob,mg "__builtins__"=f7 (.ref bm)/\bm≠builtinsNs/\s₁.heap.get? bm=f7 ob/\ob.cls= .type "module"/\ob.dict=f7 builtinsNs/\ob.data= .plain) (px:s₁.heap.NoSeer) (iA:P.given.tree=gC) (hg:s₁.gens= #[])
  (ha:s₁.heap.get? a=f7 {cls:= .type "list",data:= .seq vs.toArray}) (hi:IntsAre vs ns) (hl:ns.length<=sizeLine) (hr:xS k callerA)
  (F:∀base:Heap,K.In base->base.Ns mainGlobals mg->ZP P w K mg base CX k fa fd [x] sp) (lu:∀(s:Shared) (u:Value),BindsTo s fd ⟨[u],[]⟩ [(x,u)])
  (i6:∀H:Hp,zlk cK H->SqX K H a (ns.map V.int)->sp [.ref a] H (λv _=>v= .bl ia) λ_ _ _=>False)
  (oA:∀H e s',CX [] H s₁ (λ_ _ _=>False) e s'->False):
  codeAny (model P w) callerA (.call (.ref fa) ⟨[.ref a],[]⟩) (λr s'=>r= .ok (.ret (.bool ia))/\OldK s₁.heap s'.heap/\s'.os=s₁.os/\AllBare s'.gens) s₁:=by
 have rv:=zc7 hi;have mU:=hi.length;have kB:∀P∈cK,s₁.heap.get? P=f7 (AW #[]):=λP hP=>nD P (hT.sub P hP).1;have core:∀H:Hp,zlk cK H->SqX K H a (ns.map V.int)->HOk P w H s₁.heap->(∀b,H b≠gC->b=a\/b∈cK)->(H a≠gC->K.lookup a=gC)->
   codeAny (model P w) callerA (.call (.ref fa) ⟨[.ref a],[]⟩) (λr s'=>r= .ok (.ret (.bool ia))/\OldK s₁.heap s'.heap/\s'.os=s₁.os/\AllBare s'.gens) s₁:=by
  intro H hO hS hok hA hK;have eE:∀{b:Addr} {o:Obj},s₁.heap.get? b=f7 o->H b=gC->(zdK s₁.heap H).get? b=f7 o:=λe n=>zjz e n;have oO:∀{b:Addr} {o:Obj},s₁.heap.get? b=f7 o->o.cls≠ .type "list"->(o.cls≠ .none\/∀ps,o.data≠ .fields ps)->H b=gC:=λ{b o} e d d'=>by
   cases q:H b with
   |none=>rfl
   |some u=>
    rcases hA b (by rw[q];simp) with rfl|hm
    .rw[ha] at e;cases e;exact absurd rfl d
    .rw[kB b hm] at e;cases e;rcases d' with d'|d'
     .exact absurd rfl d'
     .exact absurd rfl (d' _)
  have iX:∀{b:Addr} {o:Obj} {es:Array DictEntry} {ep:Nat},s₁.heap.get? b=f7 o->o.data= .dict es ep->H b=gC:=λ{b o es ep} e d=>by
   cases q:H b with
   |none=>rfl
   |some u=>
    rcases hA b (by rw[q];simp) with rfl|hm
    .rw[ha] at e;cases e;have d':Data.seq vs.toArray _=Data.dict es ep:=d;cases d'
    .rw[kB b hm] at e;cases e;cases d
  have jm:∀{b:Addr} {m:Str->Option Value},s₁.heap.Ns b m->(zdK s₁.heap H).Ns b m:=λ{b m} ⟨o,es,ep,e,d,r⟩=>⟨o,es,ep,eE e (iX e d),d,r⟩
  have pO:K.In (zdK s₁.heap H):=λb o e=>eE (KX b o e) (by
   cases q:H b with
   |none=>rfl
   |some u=>
    rcases hA b (by rw[q];simp) with rfl|hm
    .rw[hK (by rw[q];simp)] at e;cases e
    .rw[(hT.sub b hm).2.1] at e;cases e)
  have hM:Mod P K mg (zdK s₁.heap H):=⟨pO,jm dE,⟨mb,jm hb,pK⟩,let ⟨mc,h1,h2⟩:=nX;⟨mc,jm h1,h2⟩,let ⟨bm,ob,b1,b2,b3,b4,b5,b6⟩:=pJ;⟨bm,ob,b1,b2,eE b3 (oO b3 (by rw[b4];simp) (.inl (by rw[b4];simp))),b4,b5,b6⟩,let ⟨bm,ob,b1,b2,b3,b4,b5,b6⟩:=pJ;let ⟨mc,c1,c2⟩:=px.statics;let ⟨mm,m1,m2⟩:=px.mods;⟨⟨mc,jm c1,c2⟩,⟨mm,jm m1,m2⟩,⟨mb,jm hb,pK⟩,⟨mg,bm,ob,jm dE,b1,eE b3 (oO b3 (by rw[b4];simp) (.inl (by rw[b4];simp))),b4,b5⟩⟩,iA⟩;have e0:zcy P w K mg (zdK s₁.heap H) callerA [] s₁ H:=⟨rfl,hM,λb o e=>zlW e,Az (ziA _ _),trivial,λb hb=>absurd (show b∈([]:List Addr) from hb) (by simp),hok,.of_eq hg⟩;refine codeAny_mono ((F _ pO (jm dE)).run callerA [] s₁ H ⟨[.ref a],[]⟩ [.ref a] [.ref a] _ _ hr e0 (lu s₁ (.ref a)) (.cons rfl .nil) (i6 H hO hS)) λr s' h=> ?_;cases r with
  |error e=>exact (oA H e s' h).elim
  |ok fl=>
   cases fl with
   |next=>exact uW h
   |brk=>exact uW h
   |cont=>exact uW h
   |ret u=>
    obtain⟨v,H',os,bare,un,kT,r',q⟩:=h;have q':v= .bl ia:=q;subst q';obtain rfl:u=Value.bool ia:=r';have old:∀b o,s₁.heap.get? b=f7 o->b∉cK->s'.heap.get? b=f7 o:=λb o e nb=>by
     cases q:H b with
     |none=>exact un.keep b o e q (by intro z;exact absurd (show b∈([]:List Addr) from z) (by simp)) (by simp)
     |some u=>
      rcases hO.all b with z|⟨ob,xs,z⟩|⟨z,_⟩
      .rw[q] at z;cases z
      .have z2:=un.frzs b ob _ z;obtain⟨e1,_⟩:=hok b _ z;obtain⟨e2,_⟩:=kT b _ z2;rw[e] at e1;cases e1;exact e2
      .exact absurd z nb
    refine⟨rfl,⟨λb o e=> ?_,λb o e=>un.there b o e (by simp)⟩,os,bare⟩;by_cases hb:b∈cK
    .obtain⟨_,_,t,c,ht⟩:=hT.sub b hb;obtain⟨o2,pZ,_,_,_,_,_,_,_,c1,c2,c3,c4,_⟩:=CQ KX (zmT ht);obtain⟨more,e1⟩:=un.tbls b _ (hO.tb b hb);have e2:=kT b _ e1;have e3:=kB b hb;rw[e] at e3;cases e3;exact .inr (.inl ⟨⟨c,o2,pZ,c1,c2,c3,c4⟩,rfl,#[],more,rfl,e2⟩)
    .exact .inl (old b o e hb)
 have aT:a∉cK:=λhm=>by
  have e:=kB a hm;rw[ha] at e;cases e
 have tH:∀(H:Hp),(∀P∈cK,H P=f7 (.tbl #[]))->∀b∈cK,∀u,H b=f7 u->yN P w H s₁.heap b u:=λH h b hb u e=>by
  rw[h b hb] at e;cases e;exact kB b hb
 cases hk:K.lookup a with
 |some o=>
  have e:=KX a o hk;rw[ha] at e;cases e;have tL:∀b,b∈cK->(if b∈cK then f7 (HO.tbl #[]) else gC)=f7 (HO.tbl #[]):=λb h=>if_pos h;refine core (λb=>if b∈cK then f7 (.tbl #[]) else gC) ⟨λb=> ?_,λb h=>if_pos h⟩ (.inr ⟨vs.toArray,_,hk,by rw[uo,mU];exact hl,by simpa using rv⟩) (λb u z=> ?_) (λb z=> ?_) λz=>absurd (if_neg aT) z
  .by_cases hb:b∈cK
   .exact .inr (.inr ⟨hb,if_pos hb⟩)
   .exact .inl (if_neg hb)
  .by_cases hb:b∈cK
   .exact tH (λb=>if b∈cK then f7 (.tbl #[]) else gC) (λb h=>if_pos h) b hb u z
   .have z':=(if_neg hb).symm.trans z;cases z'
  .by_cases hb:b∈cK
   .exact .inr hb
   .exact absurd (if_neg hb) z
 |none=>
  have h1:∀b,b∈cK->(if b=a then f7 (HO.frz {cls:= .type "list",data:= .seq vs.toArray} (.lst (ns.map V.int))) else if b∈cK then f7 (.tbl #[]) else gC)=f7 (HO.tbl #[]):=λb h=>by
   have ne:b≠a:=λz=>aT (by rw[<-z];exact h);rw[if_neg ne,if_pos h]
  refine core (λb=>if b=a then f7 (.frz {cls:= .type "list",data:= .seq vs.toArray} (.lst (ns.map V.int))) else if b∈cK then f7 (.tbl #[]) else gC) ⟨λb=> ?_,h1⟩ (.inl (.inr ⟨{cls:= .type "list",data:= .seq vs.toArray},if_pos rfl⟩)) (λb u z=> ?_) (λb z=> ?_) λ_=>hk
  .by_cases hb:b=a
   .exact .inr (.inl ⟨_,_,if_pos hb⟩)
   .by_cases hm:b∈cK
    .exact .inr (.inr ⟨hm,h1 b hm⟩)
    .exact .inl ((if_neg hb).trans (if_neg hm))
  .by_cases hb:b=a
   .have z':=(if_pos hb).symm.trans z;cases z';subst hb;exact⟨ha,by rw[uw];exact hl,vs,_,rv,ha⟩
   .by_cases hm:b∈cK
    .exact tH _ h1 b hm u z
    .have z':=((if_neg hb).trans (if_neg hm)).symm.trans z;cases z'
  .by_cases hb:b=a
   .exact .inl hb
   .by_cases hm:b∈cK
    .exact .inr hm
    .exact absurd ((if_neg hb).trans (if_neg hm)) z
theorem zll {l:Cp} {n k:Nat} {q:Program} {loose:List Str} {XP:(Str->Option Value)->Heap->Prop} {YP:World->Heap->Prop} {d:DefRec} {K:Params->u5} {CX:World->CXT} {x:Str} {ts:List Addr} {eJ:List Vs}
  (hn:l.most=f7 n) (fq:n<=63) (lq:d.params.defaults=[]) (hr:xS k callerA)
  (hY:∀(w:World) (h:Heap),YP w h->(K w.params).In h/\∀P∈ts,h.get? P=f7 (AW #[])) (hB:∀w:World,zdt (K w.params) ts eJ=ia)
  (F:∀(w:World) (mg:Str->Option Value) (fa:Addr) (h:Heap),(K w.params).In h->h.Ns mainGlobals mg->mg d.name=f7 (.ref fa)->
   ∃fd:FuncData,(∀(s:Shared) (u:Value),BindsTo s fd ⟨[u],[]⟩ [(x,u)])/\
    ∀base:Heap,(K w.params).In base->base.Ns mainGlobals mg->ZP l.prog w (K w.params) mg base (CX w) k fa fd [x] (zcd (K w.params) (Vx (K w.params) eJ)))
  (oA:∀(w:World) (H:Hp) (s:Shared) (e:Value) (s':Shared),CX w [] H s (λ_ _ _=>False) e s'->False) (o5:importsNone q=ia) (iA:l.prog.given.tree=gC):
  Dt q loose XP YP l.row.toRowW d [] (λf vs=>Dj f vs):=by
 refine Att.ze3 hn lq λw s₀ s₁ mg mb fa o pm cd doc a vs ns G Y ho hd dS jS jQ hints hlen hg=> ?_;obtain⟨KX,nD⟩:=hY w _ Y;obtain⟨fd,hb,hF⟩:=F w mg fa _ KX G.T.g jS;exact zjh KX (zig (hB w)) nD G.T.g G.T.b G.T.builtins G.T.nolimit G.T.bmain (G.T.seer o5) iA hg jQ hints (uC (uC hlen fq) ∅) hr hF hb (λH hO hS=>⟨a,ns,rfl,hO,hS,uC hlen fq,λ_=>rfl⟩) λH e s'=>oA w H s₁ e s'
end L2
namespace L2
open PySem PySem.Spec PyProof.Rows PySem.Calls PySem.W
section
variable {X:Cx}
noncomputable def zji (ns:List Int):Int:=ns.foldl (λa b=>if b<a then b else a) (ns.headD 0)
theorem zlm (ns:List Int):∀k,k<ns.length->ns.getD (argBest (λi j=>decide (ns.getD i 0<ns.getD j 0)) k) 0=(ns.take (k+1)).foldl (λa b=>if b<a then b else a) (ns.headD 0)/\argBest (λi j=>decide (ns.getD i 0<ns.getD j 0)) k<=k:=by
 intro k
 induction k with
 |zero=>
  intro h;cases ns with
  |nil=>simp at h
  |cons a r=>simp[argBest]
 |succ k ih=>
  intro h;obtain⟨h1,h2⟩:=ih ⋯;have hg:ns[k+1]? =f7 (ns.getD (k+1) 0):=by rw[uG,u6 h];rfl
  obtain⟨hi,e⟩:=u9.1 hg;rw[uO hi,e,List.foldl_append,<-h1];have hb:∀f:Nat->Nat->Bool,argBest f (k+1)=if f (k+1) (argBest f k)=ia then k+1 else argBest f k:=λf=>rfl
  rw[hb,Dm,List.foldl_nil];by_cases q:ns.getD (k+1) 0<ns.getD (argBest (λi j=>decide (ns.getD i 0<ns.getD j 0)) k) 0
  .rw[if_pos (decide_eq_true q),if_pos q];exact⟨rfl,ug _⟩
  .rw[if_neg (by rw[decide_eq_false q];decide),if_neg q];exact⟨rfl,⋯⟩
def znP (K:u5):List V->Hp->VK->Prop:=λxs H Q=>∃(p:Addr) (ns:List Int),xs=[.ref p]/\SqL K H p (ns.map V.int)/\ns≠[]/\Q (.int (zji ns)) H
theorem zjj {K:u5} (hc:X.calm=ia) (hK:X.K=K:=by rfl):vx X (.builtin "min") (znP K):=by
 subst hK;intro pins s σ H xs us Q I r h;obtain⟨p,ns,rfl,hq,gH,q⟩:=h;obtain⟨u,rfl,ru⟩:=Vm r;cases ru;obtain⟨ah,rv,pl,hz⟩:=I.list hq;have lt:p<s.heap.objs.size:=by
  obtain⟨o,n,e,_⟩:=id pl;exact Heap.lt_size e
 have hl:=rv.length;rw[uw] at hl;have h8:0<ns.length:=List.length_pos_iff.2 gH;have at_:∀(i:Nat) (v:Value),ah.toArray[i]? =f7 v->i<ns.length/\∃t,v=Value.int (ns.getD i 0) t:=λi v hv=>by
  have hv:ah[i]? =f7 v:=by simpa using hv
  have hi:i<ns.length:=by rw[hl];exact (u9.1 hv).1
  obtain⟨u,hu,t,ru⟩:=rv.get (i:=i) (x:=V.int ns[i]) (by rw[uf,u6 hi];rfl);rw[hu] at hv;cases hv;exact⟨hi,t,by rw[ru,uG,u6 hi];rfl⟩
 refine call_min_walkS (wpAny_pyIter_list pl.isList ?_);have W:=(Walks.list (prog:=X.prog) (w:=X.w) (A:=X.A.in1) (I.ok.hd hc) s.heap.objs.size p (uF lt) ah.toArray).toS;refine⟨s.heap.objs.size,_,_,_,_,_,_,λi j=>decide (ns.getD i 0<ns.getD j 0),rfl,W,?_,?_,?_,?_,?_⟩
 .exact⟨⟨_,Heap.get?_push_size _ rfl,rfl,rfl⟩,Heap.IsList.push pl.isList _⟩
 .intro b hb;rw[Heap.size_push];rcases (by simpa using hb:b=s.heap.objs.size\/b=p) with rfl|rfl
  .exact Aq _
  .exact D3 lt
 .rw[uo];omega
 .exact CmpOf.ints_lt (λi=>ns.getD i 0) (λi v hv=>(at_ i v hv).2)
 .intro v s' hv m
  have I1:Inv X pins σ H {s with heap:=s'.heap,toks:=s'.toks}:=I.kept λb o e=>m.heap b o (λz=>by
   have z:b=s.heap.objs.size:=by simpa using z
   exact absurd (Heap.lt_size e) (by rw[z];exact Ao _)) (Heap.get?_push_of_some _ e)
  have e:({s with heap:=s'.heap,toks:=s'.toks}:Shared)=s':=by
   have h1:=m.gens;have h2:=m.drawn;have h3:=m.os;cases s';simp only at h1 h2 h3;subst h1 h2 h3;rfl
  rw[e] at I1;obtain⟨_,t,rfl⟩:=at_ _ v hv;refine⟨.int (zji ns),H,I1,⟨t,?_⟩,q⟩;have:=(zlm ns (ns.length-1) ⋯).1;rw[show ns.length-1+1=ns.length by omega,A1] at this;rw[uo,<-hl,this];rfl
end
end L2
namespace L2
open PySem PySem.Spec PyProof.Rows
noncomputable def zfN:Opn:=λxs S=>match xs with
 |[x]=>((yx S x).bind Tw).bind λns=>if ns=[] then gC else f7 (.int (zji ns),S)
 |_=>gC
section
variable {K:u5} {S:Sto} {x:Xv} {P:Xv->Sto->Prop}
theorem zih:zaw K (znP K) zfN:=by
 intro F j σ H ρ S S' xs z vs Q E1 hv h k;unfold zfN at h;split at h
 .rename_i x;rw[v3] at h;obtain⟨ns,e,h⟩:=h;rw[v3] at e;obtain⟨l,e,e2⟩:=e;split at h
  .cases h
  .rename_i gH;cases h;obtain⟨w,rfl,hx⟩:=hv.d1;obtain⟨p,ws,rfl,h1,h2⟩:=E1.lstAt hx e;refine⟨p,ns,rfl,?_,gH,k _ _ _ Ext.refl E1 (.int _)⟩;rw[<-zfs e2 h2];exact h1.sql
 .cases h
theorem zmV {l:List Xv} {ns:List Int} (h1:yx S x=f7 l) (h2:Tw l=f7 ns) (h3:ns≠[]) (k:P (.int (zji ns)) S):WO (zfN [x] S) P:= .of (by
 unfold zfN;dsimp only
 rw[h1,uz,h2,uz,if_neg h3]) k
end
open PySem.Builtin.Int (intBits)
end L2
namespace L2
open PySem PySem.Spec PyProof.Rows
def zqQ (s:Stmt):Expr:=match s with
 | .Assign _ e _=>e
 |_=>noE
theorem zfO {K:u5} {m d:Str} {f:Addr} (h1:um K mainGlobals m=f7 (f7 (.ref f))) (h:(vZ K ⟨gC,m,d⟩).isSome=ia):∃c P,zgQ K f=f7 (c,P)/\vZ K ⟨gC,m,d⟩=f7 (c,P):=by
 obtain⟨⟨c,P⟩,e⟩:=y7.1 h;refine⟨c,P,?_,e⟩;unfold vZ zgP at e;dsimp only at e;rw[h1] at e;exact e
def PSm (X Y:Cx) (st:List Stmt) (t:TS):Prop:=
 ∀(pins:List (Addr×Obj)) (s:Shared) (σ:St) (H:Hp) (D:UJ),Inv X pins σ H s->t D σ H->wpAny (model X.prog X.w) X.A (execs st X.env) (SP Y pins D) X.xe s
section
variable {fz:List Str} {CX:CXT} {P:Program} {w:World} {K:u5} {mg:Str->Option Value} {base:Heap} {N:List Str} {qual:Str} {scope:Scope} {f:Addr} {cd:Value} {A:Around} {outer:List Env} {s:Shared} {H:Hp} {E:XK} {st:Stmt} {rest:List Stmt} {t u:TS}
theorem zo7 (h:PSs (UD fz CX P w K mg base N qual scope f cd A outer s H E) rest t):PSm (Xk CX P w K mg base N qual scope f cd A outer s H E) (UD fz CX P w K mg base N qual scope f cd A outer s H E) rest t:=
 λpins s1 σ H1 D I q=>h pins s1 σ H1 D I.toZ q
theorem zfP (h1:PS (Xk CX P w K mg base N qual scope f cd A outer s H E) st t) (h2:PSm (Xk CX P w K mg base N qual scope f cd A outer s H E) (UD fz CX P w K mg base N qual scope f cd A outer s H E) rest u):PSm (Xk CX P w K mg base N qual scope f cd A outer s H E) (UD fz CX P w K mg base N qual scope f cd A outer s H E) (st::rest) (zn1 t u):=by
 intro pins s1 σ H1 D I h;refine wpAny_execs_cons (thn (h1 pins s1 σ H1 {D with nx:=u D} I h) λfl s2 q=> ?_);cases fl with
 |next=>
  obtain⟨σ',H',I',q⟩:=q;exact h2 pins s2 σ' H' D I' q
 |ret v=>obtain⟨v',σ',H',I',q⟩:=q;exact⟨v',σ',H',I'.toZ,q⟩
 |brk=>obtain⟨σ',H',I',q⟩:=q;exact⟨σ',H',I'.toZ,q⟩
 |cont=>obtain⟨σ',H',I',q⟩:=q;exact⟨σ',H',I'.toZ,q⟩
end
theorem Fun.okZ2 {P:Program} {w:World} {K:u5} {mg:Str->Option Value} {base:Heap} {x qual:Str} {st:Stmt} {f c T:Addr} {fd:FuncData} {N ps:List Str} {k:Nat} {sp:Sp} {fz:List Str} (F:Fun K x qual st f fd) (hT:zgQ K f=f7 (c,T)) (S:zr N ps (ze st)) (len:∀vs H Q E,sp vs H Q E->vs.length=ps.length)
  (dI:∀(A:Around) (outer:List Env) (s:Shared) (H:Hp) (vs:List V) (Q:VK) (E:XK),xS k (A.deeper (envOfC qual (ze st) s.heap.objs.size f (.ref c)))->sp vs H Q E->
   ∃t,PSm (Xk (CXE P w) P w K mg base N qual (ze st) f (.ref c) A outer s H E) (UD fz (CXE P w) P w K mg base N qual (ze st) f (.ref c) A outer s H E) (wZ st) t/\t {nx:=λ_ H'=>Q .non H',rt:=Q} (ZI N vs) H):ZP P w K mg base (CXE P w) (k+1) f fd ps sp:=by
 obtain⟨oc,od,kV,doc,pm,an,bT,ct,gi,rfl,lk,dS⟩:=F.ex;have hc:bT= .ref c:=(Zs hT).2 lk;subst hc;refine⟨len,λA outer s H args us vs Q E hr e0 hb r i6=> ?_⟩;have hl:=len _ _ _ _ i6;have KX:K.In s.heap:=e0.mod.kin.keeps λb o e=>(e0.bs b o e).1;have lim:s.heap.NoLimit:=e0.mod.nolimit.keeps λb o e=>(e0.bs b o e).1;have fQ:∀y∈ps.zip us,(ze st).names.lookup y.1=f7 .local\/((ze st).names.lookup y.1=f7 .cell/\((cellsFrom (s.heap.objs.size+1) (ze st).names []).lookup y.1).isSome=ia):=λ⟨n,v⟩ hy=>by
  rcases S.par n (AI hy).1 with q|q
  .exact .inl q
  .exact .inr ⟨q,AQ _ _ _ (.inl q)⟩
 refine codeAny_call_function hr.depth (KX _ _ lk) rfl S.co S.gen rfl (BP KX dS) (hb _ _ _ _ ?_);refine wpAny_newFunctionEnv_cells S.kind fQ λenv he s1 x=> ?_;subst he;refine⟨lim.keeps x.toInCall.keep,codeAny_func ?_⟩;obtain⟨t,ht,hq⟩:=dI A outer s H vs Q E (hr.deeper _) i6;refine wpAny_mono (ht [] s1 (ZI N vs) H _ (zat S hr.hd e0 hl r x) hq) (λfl s' hs=> ?_) λe s' hs=>hs;have fin:∀{σ':St} {H':Hp} {v:V} {u:Value},Inv (UD fz (CXE P w) P w K mg base N qual (ze st) f (.ref c) A outer s H E) [] σ' H' s'->zW v u->Q v H'->CE outer P w H s Q u s':=
  λ{σ' H' v u} J rv q=>⟨v,H',J.os,J.bare,J.base,J.hok,rv,q⟩
 cases fl with
 |ret u=>
  obtain⟨v,σ',H',J,rv,q⟩:=hs;exact fin J rv q
 |next=>
  obtain⟨σ',H',J,q⟩:=hs;exact fin (v:=V.non) (u:=Value.none) J rfl q
 |brk=>
  obtain⟨_,_,_,q⟩:=hs;exact uW q
 |cont=>
  obtain⟨_,_,_,q⟩:=hs;exact uW q
end L2
namespace Mth
open PySem.Builtin.Int (intBits)
end Mth
namespace Prf
open PySem PySem.Spec PyProof.Rows L2
open PySem.Builtin.Int (intBits)
set_option maxHeartbeats 4000000
local macro_rules | `(tactic| walk_at "sc") => `(tactic| exact ⟨rfl, rfl, rfl, by decide +kernel, rfl, by decide +kernel, by decide +kernel⟩)
structure Fi (K:u5) (mg:Str->Option Value) (nm:Str) (st:Stmt) (ps:List Str) where
 a:Addr
 fd:FuncData
 F:Fun K nm nm st a fd
 m:mg nm=f7 (.ref a)
 b:Vn K fd ps []
structure Mi (K:u5) (g:Addr) (nm qn:Str) (st:Stmt) (ps:List Str) where
 a:Addr
 fd:FuncData
 F:Fun K nm qn st a fd
 b:Vn K fd ps []
 mt:zod K g nm a
def LoN (K:u5) (x qual:Str) (st:Stmt) (f:Addr):Prop:=∃fd,Fun K x qual st f fd
def FL (K:u5) (nm:Str) (st:Stmt):Prop:=∃f,um K mainGlobals nm=f7 (f7 (.ref f))/\LoN K nm nm st f
def ML (K:u5) (g:Addr) (nm qn:Str) (st:Stmt):Prop:=∃f,uk K (.ref g) nm=f7 (f7 (.ref f))/\By K (.ref f)=ia/\LoN K nm qn st f
theorem zql {K:u5} {x:Str} {st:Stmt} {f:Addr} {oc:Value} {od an:Option Addr} {gi:Array (Option Value)} {kV doc pm bT ct:Value} (a:um K mainGlobals x=f7 (f7 (.ref f)))
  (l:K.lookup f=f7 ⟨oc,od,.func (As x x (Wm st) (wZ st) (ze st) .none kV doc pm an bT ct),gi⟩) (c:Bg K bT x=ia) (k:Ag K (.ref f)=ia):FL K x st:=⟨f,a,_,zjX l c k⟩
theorem zqm {K:u5} {g:Addr} {x qn:Str} {st:Stmt} {f:Addr} {oc:Value} {od an:Option Addr} {gi:Array (Option Value)} {kV doc pm bT ct:Value} (a:uk K (.ref g) x=f7 (f7 (.ref f))) (i:By K (.ref f)=ia)
  (l:K.lookup f=f7 ⟨oc,od,.func (As x qn (Wm st) (wZ st) (ze st) .none kV doc pm an bT ct),gi⟩) (c:Bg K bT qn=ia) (k:Ag K (.ref f)=ia):ML K g x qn st:=⟨f,a,i,_,zjX l c k⟩
def BA (x qual:Str) (st:Stmt) (ps:List Str):Prop:=∀(kV doc pm:Value) (an:Option Addr) (bT ct:Value) (us:List Value),us.length=ps.length->bindArgs (As x qual (Wm st) (wZ st) (ze st) .none kV doc pm an bT ct) ⟨us,[]⟩=pure (ps.zip us)
noncomputable def FL.to {K:u5} {h:Heap} {mg:Str->Option Value} {x:Str} {st:Stmt} {ps:List Str} (H:FL K x st) (X:K.In h) (G:h.Ns mainGlobals mg) (B:BA x x st ps):Fi K mg x st ps:=
 ⟨H.choose,H.choose_spec.2.choose,H.choose_spec.2.choose_spec,uT X G H.choose_spec.1,H.choose_spec.2.choose_spec.binds B⟩
noncomputable def ML.to {K:u5} {g:Addr} {x qn:Str} {st:Stmt} {ps:List Str} (H:ML K g x qn st) (B:BA x qn st ps):Mi K g x qn st ps:=
 ⟨H.choose,H.choose_spec.2.2.choose,H.choose_spec.2.2.choose_spec,H.choose_spec.2.2.choose_spec.binds B,⟨H.choose_spec.1,H.choose_spec.2.1,H.choose_spec.2.2.choose_spec.kp⟩⟩
theorem at0 {P:List Value->Prop} (h:P []):∀us:List Value,us.length=0->P us
 |[],_=>h
theorem at_ {P:List Value->Prop} {n:Nat} (h:∀(a:Value) (us:List Value),us.length=n->P (a::us)):∀us:List Value,us.length=n+1->P us
 |a::us,e=>h a us (Nat.succ.inj e)
theorem zo8 {K:u5} {mg:Str->Option Value} {st:Stmt} {x:Str} {fa:Addr} (f:Fi K mg "law" st [x]) (hK:∀s:Shared,K.In s.heap->True) (h:mg "law"=f7 (.ref fa)):fa=f.a:=by
 have e:=h.symm.trans f.m;injection e with e
 injection e
def zqn:TS:=λ_ _ _=>False
theorem zbm {X:Cx} {st:Stmt}:PS X st zqn:=λ_ _ _ _ _ _ h=>uW h
section
variable {P:Program} {w:World} {K:u5} {mg:Str->Option Value} {base:Heap}
theorem okS {x qual:Str} {st:Stmt} {f:Addr} {fd:FuncData} {N ps:List Str} {k n m:Nat} {b:TwS} (F:Fun K x qual st f fd) (S:zr N ps (ze st)) (hp:ps.length=n) (hN:N.length=n+m)
  (h:∀{bT:Value} {A:Around} {outer:List Env} {s:Shared} {H:Hp} {E:XK},xS k (A.deeper (envOfC qual (ze st) s.heap.objs.size f bT))->∃t,PSs (Xk (CXE P w) P w K mg base N qual (ze st) f bT A outer s H E) (wZ st) t/\RS K E t b):
  ZP P w K mg base (CXE P w) (k+1) f fd ps (sTw K n (zK n m b)):=
 F.okE S (λ_ _ _ _ h=>h.1.trans hp.symm) λ_ _ _ _ _ _ _ _ hr h'=>let ⟨t,a,r⟩:=h hr;⟨t,a,zdh hN r h'⟩
variable (P w) (base)
noncomputable abbrev Fi.Ok {nm:Str} {st:Stmt} {ps:List Str} (f:Fi K mg nm st ps) (r n:Nat) (tw:TwF):Prop:=ZP P w K mg base (CXE P w) r f.a f.fd ps (sTw K n tw)
variable (mg)
noncomputable abbrev Mi.Ok {g:Addr} {nm qn:Str} {st:Stmt} {ps:List Str} (f:Mi K g nm qn st ps) (r n:Nat) (tw:TwF):Prop:=ZP P w K mg base (CXE P w) r f.a f.fd ps (sTw K n tw)
end
section
variable {P:Program} {w:World} {K:u5} {mg:Str->Option Value} {base:Heap} {fu:Nat}
noncomputable def top (i:Nat):Stmt:=PySem.Challenge.pw_lots_k48_loops_not_folded.main.body.getD i (.Pass ⟨0,0,0,0⟩)
abbrev Xp:Stmt:=top 14
abbrev zce:Stmt:=top 15
abbrev zhh:Stmt:=top 17
abbrev Wu:Stmt:=top 21
abbrev zes:Stmt:=top 22
abbrev UT:Stmt:=top 23
abbrev Vy:Stmt:=top 26
abbrev Yr:Stmt:=top 27
abbrev YY:Stmt:=top 28
abbrev Wv:Stmt:=top 29
abbrev Vz:Stmt:=top 34
abbrev Ww:Stmt:=top 35
abbrev VB:Stmt:=top 36
abbrev Ys:Stmt:=top 37
abbrev vE:Stmt:=top 38
abbrev vF:Stmt:=top 41
abbrev Zb:Stmt:=yU (top 45) 0
abbrev vG:Stmt:=yU (top 45) 1
abbrev Wx:Stmt:=yU (top 45) 2
abbrev ZT:Stmt:=yU (top 45) 3
abbrev Zc:Stmt:=yU (top 45) 5
abbrev Zz:Stmt:=yU (top 45) 6
abbrev Yt:Stmt:=yU (top 45) 7
abbrev Zd:Stmt:=yU (top 45) 8
abbrev wW:Stmt:=yU (top 45) 9
abbrev yZ:Stmt:=yU (top 45) 12
abbrev xC:Stmt:=yU (top 45) 13
abbrev Yu:Stmt:=yU (top 45) 14
abbrev yR:Stmt:=yU (top 45) 15
abbrev xy:Stmt:=yU (top 45) 16
abbrev wD:Stmt:=yU (top 45) 17
abbrev Xq:Stmt:=yU (top 45) 18
abbrev xG:Stmt:=yU (top 45) 19
abbrev Wy:Stmt:=yU (top 45) 21
abbrev xH:Stmt:=yU (top 45) 22
abbrev Zl:Stmt:=yU (top 45) 23
abbrev VC:Stmt:=top 47
abbrev VD:Stmt:=top 48
abbrev wN:Stmt:=top 49
abbrev Wz:Stmt:=top 50
abbrev ZU:Stmt:=top 51
abbrev Yv:Stmt:=top 52
abbrev VE:Stmt:=top 53
abbrev Ze:Stmt:=top 54
abbrev vH:Stmt:=top 55
abbrev Xr:Stmt:=top 56
abbrev WA:Stmt:=top 57
abbrev UU:Stmt:=top 58
abbrev UV:Stmt:=top 59
abbrev Zt:Stmt:=top 60
abbrev WB:Stmt:=top 61
abbrev Zm:Stmt:=top 62
abbrev VF:Stmt:=top 63
abbrev Yw:Stmt:=top 64
abbrev UW:Stmt:=top 65
abbrev ZV:Stmt:=top 66
abbrev zfQ:Stmt:=top 67
theorem xO:zr ["one","other","rest"] ["one","other"] (ze Xp):=by walk_at "sc"
theorem zaD:zr ["top","bottom","part"] ["top","bottom"] (ze zce):=by walk_at "sc"
theorem zmW:zr ["one","other"] ["one","other"] (ze zhh):=by walk_at "sc"
theorem zfR:zr ["boxes","name"] ["boxes","name"] (ze Wu):=by walk_at "sc"
theorem zln:zr ["boxes","state","operand"] ["boxes","state","operand"] (ze zes):=by walk_at "sc"
theorem VG:zr ["boxes","state","reckoning","one","other"] ["boxes","state","reckoning"] (ze UT):=by walk_at "sc"
theorem zet:zr ["deed"] ["deed"] (ze Vy):=by walk_at "sc"
theorem ve:zr ["block","deeds","deed","inner"] ["block"] (ze Yr):=by walk_at "sc"
theorem zeu:zr ["block","kind"] ["block","kind"] (ze YY):=by walk_at "sc"
theorem zcH:zr ["block"] ["block"] (ze Wv):=by walk_at "sc"
theorem zev:zr ["store","block","aim","counted"] ["store","block","aim","counted"] (ze Vz):=by walk_at "sc"
theorem Xs:zr ["store","block","aim","counted","deed"] ["store","block","aim","counted"] (ze Ww):=by walk_at "sc"
theorem ZW:zr ["store","deed","aim","counted","yes","turn"] ["store","deed","aim","counted"] (ze VB):=by walk_at "sc"
theorem YZ:zr ["store","name","reckoning","aim","level","size","number"] ["store","name","reckoning","aim"] (ze Ys):=by walk_at "sc"
theorem za5:zr ["store","level","aim"] ["store","level","aim"] (ze vE):=by walk_at "sc"
theorem zcI:zr ["store","operand"] ["store","operand"] (ze vF):=by walk_at "sc"
theorem TY:zr ["self","boxes"] ["self","boxes"] (ze Zb):=by walk_at "sc"
theorem UX:zr ["self","fact"] ["self","fact"] (ze vG):=by walk_at "sc"
theorem zcJ:zr ["self","one"] ["self","one"] (ze Wx):=by walk_at "sc"
theorem UE:zr ["self","level","kids","first"] ["self","level","kids"] (ze ZT):=by walk_at "sc"
theorem Xb:zr ["self","node","fact"] ["self","node"] (ze Zc):=by walk_at "sc"
theorem XY:zr ["self","node","fact"] ["self","node"] (ze Zz):=by walk_at "sc"
theorem za6:zr ["self","node","level","number"] ["self","node","level","number"] (ze Yt):=by walk_at "sc"
theorem Xc:zr ["self","node","state"] ["self","node","state"] (ze Zd):=by walk_at "sc"
theorem zcf:zr ["self","one","other"] ["self","one","other"] (ze wW):=by walk_at "sc"
theorem VH:zr ["self","nodes","rule"] ["self","nodes","rule"] (ze yZ):=by walk_at "sc"
theorem UY:zr ["self","chooser","nodes"] ["self","chooser","nodes"] (ze xC):=by walk_at "sc"
theorem WX:zr ["self","nodes","settle","known","settled"] ["self","nodes","settle","known"] (ze Yu):=by walk_at "sc"
theorem yK:zr ["self","nodes","settle","known","level","kids","number","these"] ["self","nodes","settle","known"] (ze yR):=by walk_at "sc"
theorem XZ:zr ["self","nodes","rule","facts"] ["self","nodes","rule"] (ze xy):=by walk_at "sc"
theorem vU:zr ["self","nodes","fact"] ["self","nodes"] (ze wD):=by walk_at "sc"
theorem zcg:zr ["self","node","level","number"] ["self","node","level","number"] (ze Xq):=by walk_at "sc"
theorem wE:zr ["self","node","level","number","known","here","kids"] ["self","node","level","number","known"] (ze xG):=by walk_at "sc"
theorem zcK:zr ["self","names","rule"] ["self","names","rule"] (ze Wy):=by walk_at "sc"
theorem wF:zr ["self","names","rule","numbers","level","size"] ["self","names","rule","numbers"] (ze xH):=by walk_at "sc"
theorem xP:zr ["self","state","nought","node","level","kids"] ["self","state"] (ze Zl):=by walk_at "sc"
theorem zew:zr ["_law_left","_law_many"] ["_law_left","_law_many"] (ze VC):=by walk_at "sc"
theorem vI:zr ["_law_number","_law_size","_law_word_here","_law_k"] ["_law_number","_law_size"] (ze VD):=by walk_at "sc"
theorem xi:zr ["_law_left","_law_many","_law_way","_law_some","_law_turn","_law_word_here","_law_cell","_law_size","_law_at"] ["_law_left","_law_many"] (ze wN):=by walk_at "sc"
theorem yw:zr ["_law_left","_law_most","_law_many","_law_boxes_here","_law_states_here","_law_name","_law_size"] ["_law_left","_law_most"] (ze Wz):=by walk_at "sc"
theorem zcL:zr ["_law_left","_law_boxes_here"] ["_law_left","_law_boxes_here"] (ze ZU):=by walk_at "sc"
theorem WY:zr ["_law_left","_law_boxes_here","_law_way"] ["_law_left","_law_boxes_here"] (ze Yv):=by walk_at "sc"
theorem WC:zr ["_law_left","_law_boxes_here","_law_one","_law_sign"] ["_law_left","_law_boxes_here"] (ze VE):=by walk_at "sc"
theorem vJ:zr ["_law_left","_law_boxes_here","_law_name","_law_way","_law_one"] ["_law_left","_law_boxes_here","_law_name"] (ze Ze):=by walk_at "sc"
theorem xY:zr ["_law_left","_law_size","_law_most","_law_some","_law_at"] ["_law_left","_law_size"] (ze vH):=by walk_at "sc"
theorem VI:zr ["_law_left","_law_boxes_here","_law_kind","_law_box"] ["_law_left","_law_boxes_here","_law_kind"] (ze Xr):=by walk_at "sc"
theorem UF:zr ["_law_boxes_here","_law_state_here","_law_operand_here","_law_k"] ["_law_boxes_here","_law_state_here","_law_operand_here"] (ze WA):=by walk_at "sc"
theorem VJ:zr ["_law_boxes_here","_law_state_here","_law_name","_law_number","_law_after","_law_k"] ["_law_boxes_here","_law_state_here","_law_name","_law_number"] (ze UU):=by walk_at "sc"
theorem vt:zr ["_law_boxes_here","_law_state_here","_law_deed","_law_number","_law_other"] ["_law_boxes_here","_law_state_here","_law_deed"] (ze UV):=by walk_at "sc"
theorem zex:zr ["_law_found","_law_due_here"] ["_law_found","_law_due_here"] (ze Zt):=by walk_at "sc"
theorem zcM:zr ["_law_found"] ["_law_found"] (ze WB):=by walk_at "sc"
theorem xQ:zr ["_law_boxes_here","_law_states_here","_law_box","_law_longer","_law_state_here"] ["_law_boxes_here"] (ze Zm):=by walk_at "sc"
theorem yE:zr ["_law_left","_law_boxes_here","_law_body","_law_loop_here","_law_k","_law_way","_law_test_here"] ["_law_left","_law_boxes_here"] (ze VF):=by walk_at "sc"
theorem xZ:zr ["_law_store","_law_block","_law_aim","_law_counted","_law_word_here","e","_law_other"] ["_law_store","_law_block","_law_aim","_law_counted"] (ze Yw):=by walk_at "sc"
theorem Zu:zr ["_law_boxes_here","_law_block","_law_state_here","_law_spot","_law_counted","_law_gain","_law_deed"] ["_law_boxes_here","_law_block","_law_state_here","_law_spot","_law_counted"] (ze UW):=by walk_at "sc"
theorem UG:zr ["_law_store","_law_boxes_here","_law_node","_law_dues","_law_states_here"] ["_law_store","_law_boxes_here","_law_node","_law_dues"] (ze ZV):=by walk_at "sc"
theorem wV:zr ["_law_script","_law_left","_law_boxes_here","_law_spot","_law_counted","_law_block","_law_k","_law_kind","_law_at","_law_loops","_law_store","_law_aim","_law_marks","_law_dues"] ["_law_script"] (ze zfQ):=by walk_at "sc"
abbrev zhi:BE:=zlh (zqQ (zli Ys 2)) 1
def TZ:xq:=⟨1,zcb zhi,TV zhi,zfM zhi,⟨gC,"set_back","set_back"⟩,["store","reckoning","size"]⟩
abbrev zhj:BE:=zlh (zmR (zli vF 0)) 1
def zaa:xq:=⟨2,zcb zhj,TV zhj,zfM zhj,⟨gC,"worth_node","worth_node"⟩,["store","operand"]⟩
abbrev zhk:BE:=zlh (zmR (zli wW 0)) 1
def VL:xq:=⟨3,zcb zhk,TV zhk,zfM zhk,⟨f7 "Store","added","Store.added"⟩,[]⟩
abbrev zhl:BE:=zlh (zmR (zli yZ 0)) 1
def zab:xq:=⟨4,zcb zhl,TV zhl,zfM zhl,⟨f7 "Store","reckoned_of","Store.reckoned_of"⟩,["self","rule"]⟩
abbrev zhm:BE:=zlh (zmR (zli xC 0)) 1
def zac:xq:=⟨5,zcb zhm,TV zhm,zfM zhm,⟨f7 "Store","chosen_by","Store.chosen_by"⟩,["self"]⟩
noncomputable abbrev WZ:List Vs:=[⟨gC,"set_back","set_back"⟩,⟨gC,"worth_node","worth_node"⟩,⟨f7 "Store","added","Store.added"⟩,⟨f7 "Store","reckoned_of","Store.reckoned_of"⟩,⟨f7 "Store","chosen_by","Store.chosen_by"⟩]
set_option genInjectivity false in
set_option genSizeOf false in
structure Tx (K:u5) (mg:Str->Option Value) where
 c5:Fi K mg "common_part" Xp ["one","other"]
 dJ:Fi K mg "lowest" zce ["top","bottom"]
 fg:Fi K mg "plus" zhh ["one","other"]
 cB:Fi K mg "place_of" Wu ["boxes","name"]
 df:Fi K mg "worth" zes ["boxes","state","operand"]
 cS:Fi K mg "reckoned" UT ["boxes","state","reckoning"]
 cH:Fi K mg "blocks_of" Vy ["deed"]
 bj:Fi K mg "deeds_within" Yr ["block"]
 cF:Fi K mg "stands_in" YY ["block","kind"]
 cu:Fi K mg "is_bounded" Wv ["block"]
 bI:Fi K mg "fold_back" Vz ["store","block","aim","counted"]
 bu:Fi K mg "block_back" Ww ["store","block","aim","counted"]
 cG:Fi K mg "deed_back" VB ["store","deed","aim","counted"]
 cA:Fi K mg "set_back" Ys ["store","name","reckoning","aim"]
 bV:Fi K mg "held_at_each" vE ["store","level","aim"]
 bU:Fi K mg "worth_node" vF ["store","operand"]
 af:Fi K mg "_law_take" VC ["_law_left","_law_many"]
 cf:Fi K mg "_law_word" VD ["_law_number","_law_size"]
 cy:Fi K mg "_law_names" wN ["_law_left","_law_many"]
 cz:Fi K mg "_law_boxes" Wz ["_law_left","_law_most"]
 cx:Fi K mg "_law_state" ZU ["_law_left","_law_boxes_here"]
 aN:Fi K mg "_law_operand" Yv ["_law_left","_law_boxes_here"]
 bS:Fi K mg "_law_test" VE ["_law_left","_law_boxes_here"]
 bL:Fi K mg "_law_reckoning" Ze ["_law_left","_law_boxes_here","_law_name"]
 bW:Fi K mg "_law_weights" vH ["_law_left","_law_size"]
 bN:Fi K mg "_law_simple" Xr ["_law_left","_law_boxes_here","_law_kind"]
 bK:Fi K mg "_law_worth" WA ["_law_boxes_here","_law_state_here","_law_operand_here"]
 cU:Fi K mg "_law_put" UU ["_law_boxes_here","_law_state_here","_law_name","_law_number"]
 cT:Fi K mg "_law_set" UV ["_law_boxes_here","_law_state_here","_law_deed"]
 bJ:Fi K mg "_law_same" Zt ["_law_found","_law_due_here"]
 cw:Fi K mg "_law_whole" WB ["_law_found"]
 bD:Fi K mg "_law_states" Zm ["_law_boxes_here"]
 cI:Fi K mg "_law_loop" VF ["_law_left","_law_boxes_here"]
 bY:Fi K mg "_law_refused" Yw ["_law_store","_law_block","_law_aim","_law_counted"]
 cV:Fi K mg "_law_due" UW ["_law_boxes_here","_law_block","_law_state_here","_law_spot","_law_counted"]
 bX:Fi K mg "_law_tells" ZV ["_law_store","_law_boxes_here","_law_node","_law_dues"]
 eT:Fi K mg "law" zfQ ["_law_script"]
 dH:mg "ValueError"=gC
 iy:mg "abs"=gC
 fJ:mg "all"=gC
 iw:mg "any"=gC
 gp:mg "bool"=gC
 fI:mg "int"=gC
 au:mg "isinstance"=gC
 bH:mg "len"=gC
 eM:mg "list"=gC
 jn:mg "max"=gC
 iu:mg "min"=gC
 aM:mg "range"=gC
 dB:mg "reversed"=gC
 gD:mg "str"=gC
 cq:mg "tuple"=gC
 aQ:Addr
 dZ:mg "LotsError"=f7 (.ref aQ)
 d5:Yh K mg "LotsError" aQ [.type "ValueError",.type "Exception",.type "BaseException",.type "object"] "ValueError.__new__"
 e8:YR K aQ
 cE:uR K (.ref aQ)=f7 (.type "type")
 cg:ub K aQ (.type "BaseException")=f7 ia
 d7:ub K aQ (.type "ValueError")=f7 ia
 aK:Addr
 eO:mg "NoNumber"=f7 (.ref aK)
 dv:Yh K mg "NoNumber" aK [.type "ValueError",.type "Exception",.type "BaseException",.type "object"] "ValueError.__new__"
 eR:YR K aK
 cO:uR K (.ref aK)=f7 (.type "type")
 cX:ub K aK (.type "BaseException")=f7 ia
 dz:ub K aK (.type "ValueError")=f7 ia
 bq:Addr
 fL:mg "NoText"=f7 (.ref bq)
 eG:Yh K mg "NoText" bq [.type "ValueError",.type "Exception",.type "BaseException",.type "object"] "ValueError.__new__"
 fN:YR K bq
 dG:uR K (.ref bq)=f7 (.type "type")
 dM:ub K bq (.type "BaseException")=f7 ia
 eI:ub K bq (.type "ValueError")=f7 ia
 aC:Addr
 dY:mg "NoProgram"=f7 (.ref aC)
 d4:Yh K mg "NoProgram" aC [.type "ValueError",.type "Exception",.type "BaseException",.type "object"] "ValueError.__new__"
 e7:YR K aC
 cD:uR K (.ref aC)=f7 (.type "type")
 cJ:ub K aC (.type "BaseException")=f7 ia
 d6:ub K aC (.type "ValueError")=f7 ia
 aq:Addr
 eW:mg "NoBound"=f7 (.ref aq)
 d9:Yh K mg "NoBound" aq [.type "ValueError",.type "Exception",.type "BaseException",.type "object"] "ValueError.__new__"
 cL:YR K aq
 de:uR K (.ref aq)=f7 (.type "type")
 dh:ub K aq (.type "BaseException")=f7 ia
 da:ub K aq (.type "ValueError")=f7 ia
 aX:Addr
 eV:mg "TooMany"=f7 (.ref aX)
 dP:Yh K mg "TooMany" aX [.type "ValueError",.type "Exception",.type "BaseException",.type "object"] "ValueError.__new__"
 eX:YR K aX
 dc:uR K (.ref aX)=f7 (.type "type")
 dg:ub K aX (.type "BaseException")=f7 ia
 dR:ub K aX (.type "ValueError")=f7 ia
 aL:Addr
 eP:mg "HandLeft"=f7 (.ref aL)
 dw:Yh K mg "HandLeft" aL [.type "ValueError",.type "Exception",.type "BaseException",.type "object"] "ValueError.__new__"
 eS:YR K aL
 cQ:uR K (.ref aL)=f7 (.type "type")
 cY:ub K aL (.type "BaseException")=f7 ia
 dA:ub K aL (.type "ValueError")=f7 ia
 aJ:Addr
 eN:mg "NoneKept"=f7 (.ref aJ)
 du:Yh K mg "NoneKept" aJ [.type "ValueError",.type "Exception",.type "BaseException",.type "object"] "ValueError.__new__"
 eQ:YR K aJ
 cN:uR K (.ref aJ)=f7 (.type "type")
 cW:ub K aJ (.type "BaseException")=f7 ia
 dy:ub K aJ (.type "ValueError")=f7 ia
 aw:Addr
 gE:mg "Store"=f7 (.ref aw)
 a9:Cls K aw
 ai:um K mainGlobals "Store"=f7 (f7 (.ref aw))
 ax:Ye K aw "boxes"
 bM:Ye K aw "facts"
 bR:Ye K aw "numbers"
 bp:Mi K aw "__init__" "Store.__init__" Zb ["self","boxes"]
 fK:Mk K aw bp.a
 aD:Mi K aw "number_of" "Store.number_of" vG ["self","fact"]
 aE:Mi K aw "leaf" "Store.leaf" Wx ["self","one"]
 aF:Mi K aw "fork" "Store.fork" ZT ["self","level","kids"]
 ak:Mi K aw "level_of" "Store.level_of" Zc ["self","node"]
 aB:Mi K aw "kids_of" "Store.kids_of" Zz ["self","node"]
 b7:Mi K aw "kid_at" "Store.kid_at" Yt ["self","node","level","number"]
 bo:Mi K aw "value_at" "Store.value_at" Zd ["self","node","state"]
 bF:Mi K aw "added" "Store.added" wW ["self","one","other"]
 dm:(vZ K ⟨f7 "Store","added","Store.added"⟩).isSome=ia
 aG:Mi K aw "reckoned_of" "Store.reckoned_of" yZ ["self","nodes","rule"]
 ck:(vZ K ⟨f7 "Store","reckoned_of","Store.reckoned_of"⟩).isSome=ia
 aR:Mi K aw "chosen_by" "Store.chosen_by" xC ["self","chooser","nodes"]
 cC:(vZ K ⟨f7 "Store","chosen_by","Store.chosen_by"⟩).isSome=ia
 aA:Mi K aw "joined" "Store.joined" Yu ["self","nodes","settle","known"]
 aO:Mi K aw "joined_below" "Store.joined_below" yR ["self","nodes","settle","known"]
 bB:Mi K aw "leaf_by" "Store.leaf_by" xy ["self","nodes","rule"]
 aP:Mi K aw "choice_among" "Store.choice_among" wD ["self","nodes"]
 bP:Mi K aw "fixed" "Store.fixed" Xq ["self","node","level","number"]
 ay:Mi K aw "fixed_below" "Store.fixed_below" xG ["self","node","level","number","known"]
 bw:Mi K aw "made" "Store.made" Wy ["self","names","rule"]
 aj:Mi K aw "made_behind" "Store.made_behind" xH ["self","names","rule","numbers"]
 bO:Mi K aw "point" "Store.point" Zl ["self","state"]
 eF:(vZ K ⟨gC,"set_back","set_back"⟩).isSome=ia
 dX:um K mainGlobals "set_back"=f7 (f7 (.ref cA.a))
 dF:(vZ K ⟨gC,"worth_node","worth_node"⟩).isSome=ia
 dq:um K mainGlobals "worth_node"=f7 (f7 (.ref bU.a))
 bZ:um K mainGlobals "NoBound"=f7 (f7 (.ref aq))
 bg:ub K aq (.ref aQ)=f7 ia
 aZ:ub K aq (.ref aK)=f7 kb
 bh:ub K aq (.ref bq)=f7 kb
 aW:ub K aq (.ref aC)=f7 kb
 ao:ub K aq (.ref aq)=f7 ia
 b9:ub K aq (.ref aX)=f7 kb
 b0:ub K aq (.ref aL)=f7 kb
 aY:ub K aq (.ref aJ)=f7 kb
 cM:Addr
 fM:mg "NOUGHT"=f7 (.ref cM)
 fV:∀H,SqT K H cM [.int 0,.int 1]
 f6:Addr
 jo:mg "ONE"=f7 (.ref f6)
 jD:∀H,SqT K H f6 [.int 1,.int 1]
local macro_rules | `(tactic| walk_at "q1") => `(tactic| first | exact .inl rfl | exact .inr rfl | assumption)
local macro_rules | `(tactic| walk_at "q2") => `(tactic| ((try simp only [Nat.add_eq]); omega))
local macro_rules | `(tactic| walk_at "q3") => `(tactic| first | with_reducible exact zd6 | with_reducible exact zkq | with_reducible exact zmr | with_reducible exact zgO | with_reducible exact zfk | with_reducible exact zmq | with_reducible exact zd5 | with_reducible exact zkp | with_reducible exact zgN)
local macro_rules | `($f \ ($o,$h,$p,$x)) => `(zl6 $o $h rfl ($f).m ($f).F.kp ($f).b .nil $p $x) | `($a \ $b) => `(@zx _ _ _ _ _ $a $b (by walk_at "q3"))
local macro_rules | `($a <|> $b) => `(@zjE _ _ _ _ _ $a $b)
local macro_rules | `(¬$a) => `(@zlY _ _ _ $a)
local macro_rules | `(!$a) => `(@zn2 _ _ _ _ $a)
local macro_rules | `(~~~$a) => `(@zof _ _ _ _ _ $a)
local macro_rules | `($r % ($a,$b)) => `(@zpO _ _ _ _ _ _ _ $r $a $b fun _ _ => rfl)
local macro_rules | `(tactic| walk_at "re") => `(tactic| repeat first |(with_reducible first|apply zk|apply zm|apply yg|apply wm|apply vi|apply xK|apply xc|apply vB|apply Za|apply vC|apply Ts|apply zks|apply zfp|apply Tr|apply Yj|apply ziZ|apply zfl|apply zgY|apply zhW|apply xN|apply zkO|apply zbS|apply Uo|apply Um|apply zkL|apply zax|apply zkE|apply vc|apply zbK|apply zoG|apply zgW|apply zkG|apply zoz|apply zmu|apply zhY|apply zkz|apply zd7|apply zfr|apply zow|apply zmv|apply zp0|apply Tv|apply zhV|apply zpZ|apply znJ|apply zkU|apply UN|apply zkD|apply zov|apply zkx|apply zox|apply zoD|apply zp5|apply zfq|apply zh7|apply zde|apply zoy|apply zid|apply zh0|apply zkw|apply zhZ|apply zkN|apply zoB|apply zp6|apply zkR|apply zkF|apply zgV|apply zdf|apply zed|apply zfo|apply zdi|apply zfv|apply zkv|apply zh6|apply zfu|apply zie|apply zg9|apply zoC|apply zku|apply zd9|apply zfI|apply zgX|apply zib|apply zfD|apply zfC|apply zkt|apply zih|apply zp7|apply zi9|apply zmC|apply zmB|apply zmO|apply zlb|apply zkA|apply zkC|apply zkS|apply zkM|apply zkT|apply zh4|apply zg0|apply zoA|apply zfG)| exact rfl | exact (‹Tx _ _›).a9 | exact (‹Tx _ _›).ax | exact (‹Tx _ _›).bM | exact (‹Tx _ _›).bR | exact (‹Tx _ _›).bZ | exact (‹Tx _ _›).ai | exact Nat.le_of_ble_eq_true rfl | exact Za | exact zgY | exact zbS | exact zkL | exact zbK | exact zgW | exact zhY | exact zfr | exact Tv | exact zkU | exact zkx | exact zfq | exact zh7 | exact zde | exact zh0 | exact zkw | exact zhZ | exact zkN | exact zkR | exact zgV | exact zdf | exact zdi | exact zfv | exact zh6 | exact zfu | exact zie | exact zg9 | exact zd9 | exact zfI | exact zgX | exact zih | exact zkC | exact zkS | exact zkM | exact zkT | exact zh4 | apply xN | apply vc | apply zkz | apply zid | apply zkA | apply zfG)
local macro_rules | `($s ^^^ ($i,$o,$e)) => `(@zn5 _ _ $i _ _ _ _ ($s).nd rfl $o $e (by rfl) (by walk_at "q1"))
def Yx (fu:Nat):TwS:=(zq (zH (eFn zkQ [(za 0)]) (gN 0)) (zq (zH (eFn zkQ [(za 1)]) (gN 1)) (zq (sWh fu (bE (eOp zi4 (za 1) (eC (.int 0)))) (zq (zH (eOp Vt (za 0) (za 1)) (gN 2)) (zq (zH (za 1) (gN 0)) (zH (za 2) (gN 1))))) (zO (za 0)))))
def VM (fu:Nat):TwF:=zK 2 1 (Yx fu)
theorem zch (T:Tx K mg):T.c5.Ok P w base 1 2 (VM fu):=
 okS T.c5.F xO rfl rfl (λhr=>⟨_,((xO^^^(0,uh rfl,zA ze0 rfl T.iy boot_abs (pv 0\zb)))<|>(xO^^^(1,uh rfl,zA ze0 rfl T.iy boot_abs (pv 1\zb)))<|>zeX PassesOwn.leaving (yv (zge (pv 1) zf)) ((xO^^^(2,uh rfl,zX Yd (pv 0) (pv 1)))<|>(xO^^^(0,uh rfl,pv 1))<|>¬(xO^^^(1,uh rfl,pv 2)))<|>¬(!pv 0)),(by unfold Yx;walk_at "re")⟩)
def zaE (fu:Nat):TwS:=(zq (zH (zD (VM fu) [(za 0),(za 1)]) (gN 2)) (zq (sIf (bE (eOp dLt (za 1) (eC (.int 0)))) (zH (eUn zi5 (za 2)) (gN 2)) zN) (zO (yz [(eOp zay (za 0) (za 2)),(eOp zay (za 1) (za 2))]))))
def zaF (fu:Nat):TwF:=zK 2 1 (zaE fu)
theorem zjk (T:Tx K mg):T.dJ.Ok P w base 2 2 (zaF fu):=
 okS T.dJ.F zaD rfl rfl (λhr=>⟨_,((zaD^^^(2,uh rfl,T.c5\(zch (fu:=fu) T,hr.mono ∅,zw,pv 0\(pv 1\zb))))<|>zU (yv (zjC (pv 1) zf)) (¬(zaD^^^(2,uh rfl,zjI zgp (pv 2)))) zt<|>¬(!(~~~(zX zbE (pv 0) (pv 2)\(zX zbE (pv 1) (pv 2)\zb))))),(by unfold zaE;walk_at "re")⟩)
def zey (fu:Nat):TwS:=(zO (zD (zaF fu) [(eOp YK (eOp Tt (eOp zM (za 0) (eC (.int 0))) (eOp zM (za 1) (eC (.int 1)))) (eOp Tt (eOp zM (za 1) (eC (.int 0))) (eOp zM (za 0) (eC (.int 1))))),(eOp Tt (eOp zM (za 0) (eC (.int 1))) (eOp zM (za 1) (eC (.int 1))))]))
def zez (fu:Nat):TwF:=zK 2 0 (zey fu)
theorem zmX (T:Tx K mg):T.fg.Ok P w base 3 2 (zez fu):=
 okS T.fg.F zmW rfl rfl (λhr=>⟨_,(¬(!(T.dJ\(zjk (fu:=fu) T,hr.mono ∅,zw,zX wB (zX Uk (zi (K:=K)%(pv 0,zf)) (zi (K:=K)%(pv 1,zf))) (zX Uk (zi (K:=K)%(pv 1,zf)) (zi (K:=K)%(pv 0,zf)))\(zX Uk (zi (K:=K)%(pv 0,zf)) (zi (K:=K)%(pv 1,zf))\zb))))),(by unfold zey;walk_at "re")⟩)
def VN (fu:Nat):TwS:=(zO (eMt zb4 (xh [gC] (iT (za 0)) (gN 0) yY (eOp zM (za 0) (eC (.int 0)))) [(za 1)]))
def Xd (fu:Nat):TwF:=zK 2 0 (VN fu)
theorem zaW (T:Tx K mg):T.cB.Ok P w base 1 2 (Xd fu):=
 okS T.cB.F zfR rfl rfl (λhr=>⟨_,(¬(!zc3 z9 PySem.F.slot_list_index PySem.F.type_list_index zki (xA (N':=["box"]) rfl (blk (osc:=ze Wu) rfl (by decide+kernel)) (yD yC) (Zj (K:=K) (pv 0)) (yf rfl) (λC s₀ H₀ fp=>zP (i:=0) (show (["box"]:List Str).Nodup from by decide+kernel) rfl (uh rfl)) (λC s₀ H₀ fp=>yB) (λC s₀ H₀ fp=>(zi (K:=K)%(pv 0,zf)))) (pv 1\zb))),(by unfold VN;walk_at "re")⟩)
def zci (fu:Nat):TwS:=(zq (sIf (bE (eUn (UO "str") (za 2))) (zO (eOp zM (za 1) (zD (Xd fu) [(za 0),(za 2)]))) zN) (zO (za 2)))
def VO (fu:Nat):TwF:=zK 3 0 (zci fu)
theorem zcj (T:Tx K mg):T.df.Ok P w base 2 3 (VO fu):=
 okS T.df.F zln rfl rfl (λhr=>⟨_,(zU (vw (zA (xj (K:=K)) rfl T.au boot_isinstance (zx (pv 2) (zx (wY (v:= .ty "str") rfl T.gD boot_str rfl) zb)))) (¬(!(zi (K:=K)%(pv 1,T.cB\(zaW (fu:=fu) T,hr.mono ∅,zw,pv 0\(pv 2\zb)))))) zt<|>¬(!pv 2)),(by unfold zci;walk_at "re")⟩)
def VP (fu:Nat):TwS:=(zq (zH (zD (VO fu) [(za 0),(za 1),(eOp zM (za 2) (eC (.int 0)))]) (gN 3)) (zq (sIf (bE (eOp ZR (eFn wT [(za 2)]) (eC (.int 1)))) (zO (za 3)) zN) (zq (zH (zD (VO fu) [(za 0),(za 1),(eOp zM (za 2) (eC (.int 2)))]) (gN 4)) (zq (sIf (bE (eOp (xB kb) (eOp zM (za 2) (eC (.int 1))) (eC (.str "+")))) (zO (eOp YK (za 3) (za 4))) zN) (zq (sIf (bE (eOp (xB kb) (eOp zM (za 2) (eC (.int 1))) (eC (.str "-")))) (zO (eOp zkJ (za 3) (za 4))) zN) (zO (eOp Tt (za 3) (za 4))))))))
def VQ (fu:Nat):TwF:=zK 3 2 (VP fu)
theorem zfS (T:Tx K mg):T.cS.Ok P w base 3 3 (VQ fu):=
 okS T.cS.F VG rfl rfl (λhr=>⟨_,((VG^^^(3,uh rfl,T.df\(zcj (fu:=fu) T,hr.mono ∅,zw,pv 0\(pv 1\((zi (K:=K)%(pv 2,zf))\zb)))))<|>zU (yv (xJ (zA (yj (K:=K)) rfl T.bH boot_len (pv 2\zb)) zf)) (¬(!pv 3)) zt<|>(VG^^^(4,uh rfl,T.df\(zcj (fu:=fu) T,hr.mono ∅,zw,pv 0\(pv 1\((zi (K:=K)%(pv 2,zf))\zb)))))<|>zU (yn xg (zi (K:=K)%(pv 2,zf)) zy (by rfl)) (¬(!zX wB (pv 3) (pv 4))) zt<|>zU (yn xg (zi (K:=K)%(pv 2,zf)) zy (by rfl)) (¬(!zX zgn (pv 3) (pv 4))) zt<|>¬(!zX Uk (pv 3) (pv 4))),(by unfold VP;walk_at "re")⟩)
def WD (fu:Nat):TwS:=(zq (sIf (bE (eOp (xB kb) (eOp zM (za 0) (eC (.int 0))) (eC (.str "if")))) (zO (yz [(eOp zM (za 0) (eC (.int 2))),(eOp zM (za 0) (eC (.int 3)))])) zN) (zq (sIf (bOr (bE (eOp (xB kb) (eOp zM (za 0) (eC (.int 0))) (eC (.str "while")))) (bE (eOp (xB kb) (eOp zM (za 0) (eC (.int 0))) (eC (.str "times"))))) (zO (yz [(eOp zM (za 0) (eC (.int 2)))])) zN) (zq (sIf (bE (eOp (xB kb) (eOp zM (za 0) (eC (.int 0))) (eC (.str "hand")))) (zO (eOp zM (za 0) (eC (.int 1)))) zN) (zO (yz [])))))
def WG (fu:Nat):TwF:=zK 1 0 (WD fu)
theorem zeA (T:Tx K mg):T.cH.Ok P w base 1 1 (WG fu):=
 okS T.cH.F zet rfl rfl (λhr=>⟨_,(zU (yn xg (zi (K:=K)%(pv 0,zf)) zy (by rfl)) (¬(!(~~~((zi (K:=K)%(pv 0,zf))\((zi (K:=K)%(pv 0,zf))\zb))))) zt<|>zU (PW.pt (zhD (yn xg (zi (K:=K)%(pv 0,zf)) zy (by rfl)) (zdL (yn xg (zi (K:=K)%(pv 0,zf)) zy (by rfl))))) (¬(!(~~~((zi (K:=K)%(pv 0,zf))\zb)))) zt<|>zU (yn xg (zi (K:=K)%(pv 0,zf)) zy (by rfl)) (¬(!(zi (K:=K)%(pv 0,zf)))) zt<|>¬(!(~~~zb))),(by unfold WD;walk_at "re")⟩)
def vf (fu:Nat) (eK:TwF):TwS:=(zq (zH (zbJ []) (gN 1)) (zq (Ws (iT (za 0)) (gN 2) (zq (zbN (eMt Wr (za 1) [(za 2)])) (Ws (iT (zD (WG fu) [(za 2)])) (gN 3) (zbN (eMt YT (za 1) [(zD eK [(za 3)])]))))) (zO (za 1))))
def yH (fu:Nat):Nat->TwF
 |0=>λ_ _=>gC
 |n+1=>zK 1 3 (vf fu (yH fu n))
theorem Zv (fu n:Nat):yH fu (n+1)=zK 1 3 (vf fu (yH fu n)):=by rfl
theorem VR (fu:Nat):yH fu 0=λ_ _=>gC:=by rfl
theorem zaG (T:Tx K mg):∀n:Nat,T.bj.Ok P w base (1+n) 1 (yH fu n):=by
 intro n
 induction n with
 |zero=>
  skip
  .rw[VR];exact YU
 |succ n ih=>
  .rw[Zv];exact okS T.bj.F ve rfl rfl (λhr=>⟨_,((ve^^^(1,uh rfl,@Wk _ _ _ _ zb))<|>wR PassesOwn.leaving rfl (Zj (K:=K) (pv 0)) (zP (i:=2) ve.nd rfl (uh rfl)) (Td (zc3 z9 Be Bf Uj (pv 1) (pv 2\zb))<|>¬wR PassesOwn.leaving rfl (Zj (K:=K) (T.cH\(zeA (fu:=fu) T,hr.mono (by walk_at "q2"),zw,pv 2\zb))) (zP (i:=3) ve.nd rfl (uh rfl)) (¬Td (zc3 z9 C6 C7 (zbG (K:=K)) (pv 1) ((T.bj\(ih,hr.mono (by walk_at "q2"),zw,pv 3\zb))\zb))))<|>¬(!pv 1)),(by unfold vf;walk_at "re")⟩)
theorem za7 (T:Tx K mg) (n:Nat):T.bj.Ok P w base (1+n) 1 (yH fu n):=(zaG T n)
def WH (fu:Nat):TwS:=(zO (eFn zft [(xh [gC,f7 1] (iL (zD (yH fu 12) [(za 0)])) (gN 0) yY (eOp (xB kb) (eOp zM (za 0) (eC (.int 0))) (za 1)))]))
def zad (fu:Nat):TwF:=zK 2 0 (WH fu)
theorem zeB (T:Tx K mg):T.cF.Ok P w base 14 2 (zad fu):=
 okS T.cF.F zeu rfl rfl (λhr=>⟨_,(¬(!zA (zdc (K:=K) rfl) rfl T.iw PyProof.Rows.Boot.«any» (zx (xA (N':=["deed","kind"]) rfl (blk (osc:=ze YY) rfl (by decide+kernel)) (yD (zL (i:=1) rfl rfl yC)) (Zr (K:=K) (T.bj\(za7 (fu:=fu) T 12,hr.mono ∅,zw,pv 0\zb))) (yf rfl) (λC s₀ H₀ fp=>zP (i:=0) (show (["deed","kind"]:List Str).Nodup from by decide+kernel) rfl (uh rfl)) (λC s₀ H₀ fp=>yB) (λC s₀ H₀ fp=>(Wi xg (zi (K:=K)%(pv 0,zf)) (pv 1) (by rfl)))) zb))),(by unfold WH;walk_at "re")⟩)
def Xt (fu:Nat):TwS:=(zO (eB (Tp (bE (zD (zad fu) [(za 0),(eC (.str "while"))])))))
def Xu (fu:Nat):TwF:=zK 1 0 (Xt fu)
theorem zcN (T:Tx K mg):T.cu.Ok P w base 15 1 (Xu fu):=
 okS T.cu.F zcH rfl rfl (λhr=>⟨_,(¬(!zgi (T.cF\(zeB (fu:=fu) T,hr.mono ∅,zw,pv 0\(zy\zb))))),(by unfold Xt;walk_at "re")⟩)
def vm (fu:Nat):TwS:=(zq (sIf (bE (zia ia (za 1) (xR "Store" "numbers" (za 0)))) (zq (zbj (xR "Store" "numbers" (za 0)) (za 1) (eFn wT [(xR "Store" "facts" (za 0))])) (zbN (eMt Wr (xR "Store" "facts" (za 0)) [(za 1)]))) zN) (zO (zek (xR "Store" "numbers" (za 0)) (za 1))))
def xV (fu:Nat):TwF:=zK 2 0 (vm fu)
theorem Yy (T:Tx K mg):T.aD.Ok P w mg base 1 2 (xV fu):=
 okS T.aD.F UX rfl rfl (λhr=>⟨_,(zU (yv (zb1 (K:=K) hr (pv 1) (xm (pv 0) rfl))) (zfB (K:=K) hr (xm (pv 0) rfl) (pv 1) (zA (yj (K:=K)) rfl T.bH boot_len (xm (pv 0) rfl\zb)) rfl<|>¬Td (zc3 z9 Be Bf Uj (xm (pv 0) rfl) (pv 1\zb))) zt<|>¬(!zfA (K:=K) hr (xm (pv 0) rfl) (pv 1) (λ_ _=>rfl))),(by unfold vm;walk_at "re")⟩)
def Xw (fu:Nat):TwS:=(zO (yp "Store" "number_of" (xV fu) (za 0) [(yz [(eC (.str "leaf")),(za 1)])]))
def wd (fu:Nat):TwF:=zK 2 0 (Xw fu)
theorem Zn (T:Tx K mg):T.aE.Ok P w mg base 2 2 (wd fu):=
 okS T.aE.F zcJ rfl rfl (λhr=>⟨_,(¬(!zQ (pv 0) T.a9 T.aD.mt (Yy (fu:=fu) T) (hr.mono ∅) T.aD.b .nil zw ((~~~(zy\(pv 1\zb)))\zb))),(by unfold Xw;walk_at "re")⟩)
def zqo (fu:Nat):TwE:=(zD (zez fu) [(eOp Yk (za 0) (eC (.int 0))),(eOp Yk (za 0) (eC (.int 1)))])
def zdv (fu:Nat):List Xv->TwF:=zep 1 0 (zqo fu)
theorem zqp (T:Tx K mg):YW P w K mg base 4 VL (zdv fu):=
 zb7 (ps:=["ones"]) ⟨rfl,rfl,rfl, *...*, *...*, *...*, *...*⟩ rfl rfl (λ_ _ _ _=>at_ λ_=>at0 rfl) (λbG f c A outer s H hr=>⟨_,(T.fg\(zmX (fu:=fu) T,hr.mono ∅,xW,(yX (K:=K)%(pv 0,zf))\((yX (K:=K)%(pv 0,zf))\zb))),(Ts (zm (wm zbK (zk 0) (vi _)) (zm (wm zbK (zk 0) (vi _)) yg)))⟩)
def Wa (fu:Nat):TwS:=(zq (zH (xh [gC,f7 0] (iT (za 1)) (gN 0) yY (eOp Yk (xR "Store" "facts" (za 1)) (za 0))) (gN 3)) (zq (sIf (bE (eFn zft [(xh [gC] (iL (za 3)) (gN 0) yY (eOp (xB kb) (eOp zM (za 0) (eC (.int 0))) (eC (.str "fork"))))])) (zO (eC .non)) zN) (zO (yp "Store" "leaf" (wd fu) (za 0) [(US [(VL,zdv fu)] 2 [(xh [gC] (iL (za 3)) (gN 0) yY (eOp zM (za 0) (eC (.int 1))))])]))))
def Zf (fu:Nat):TwF:=zK 3 1 (Wa fu)
theorem zaH (T:Tx K mg):T.bB.Ok P w mg base 5 3 (Zf fu):=
 okS T.bB.F XZ rfl rfl (λhr=>⟨_,(vY (i:=3) (N':=["node","self"]) rfl (blk (osc:=ze xy) rfl (by decide+kernel)) (yD (zL (i:=0) rfl rfl yC)) (Zj (K:=K) (pv 1)) (yf rfl) (λC s₀ H₀ fp=>zP (i:=0) (show (["node","self"]:List Str).Nodup from by decide+kernel) rfl (uh rfl)) (λC s₀ H₀ fp=>yB) (λC s₀ H₀ fp=>(yX (K:=K)%(xm (pv 1) rfl,pv 0))) XZ.nd rfl rfl<|>zU (vw (zA (zdc (K:=K) rfl) rfl T.iw PyProof.Rows.Boot.«any» (zx (xA (N':=["fact"]) rfl (blk (osc:=ze xy) rfl (by decide+kernel)) (yD yC) (Zr (K:=K) (pv 3)) (yf rfl) (λC s₀ H₀ fp=>zP (i:=0) (show (["fact"]:List Str).Nodup from by decide+kernel) rfl (uh rfl)) (λC s₀ H₀ fp=>yB) (λC s₀ H₀ fp=>(Wi xg (zi (K:=K)%(pv 0,zf)) zy (by rfl)))) zb))) (¬(!zjB)) zt<|>¬(!zQ (pv 0) T.a9 T.aE.mt (Zn (fu:=fu) T) (hr.mono ∅) T.aE.b .nil zw (zb5 (i:=2) (k:=4) rfl (by first|exact .inl rfl|exact .inr (.inl rfl)|exact .inr (.inr rfl)) (zeq (fns:=[(VL,zdv fu)]) (XW (zqp (fu:=fu) T) ∅ zcc)) (hr.mono ∅) (zx (xA (N':=["fact"]) rfl (blk (osc:=ze xy) rfl (by decide+kernel)) (yD yC) (Zr (K:=K) (pv 3)) (yf rfl) (λC s₀ H₀ fp=>zP (i:=0) (show (["fact"]:List Str).Nodup from by decide+kernel) rfl (uh rfl)) (λC s₀ H₀ fp=>yB) (λC s₀ H₀ fp=>(zi (K:=K)%(pv 0,zf)))) zb)\zb))),(xK (UN (Uo (cap:=[gC,f7 0]) (zkG (zk 1)) xc Um (wm zbK (vc T.ai T.a9 T.bM (zk 1)) (zk 0)))) (xK (zfp (ziZ (zfl zgX (zm (Uo (cap:=[gC]) (zd7 (zk 3)) xc Um (wm zgY (wm Za (zk 0) (vi _)) (zks _))) yg))) (vC zkt) Tr) (vC (xN T.ai (zk 0) (zm (zb8 (zm (Uo (cap:=[gC]) (zd7 (zk 3)) xc Um (wm Za (zk 0) (vi _))) yg)) yg)))))⟩)
def zqq (fu:Nat):TwE:=(yp "Store" "leaf_by" (Zf fu) (za 1) [(za 0),(za 2)])
def zdw (fu:Nat):List Xv->TwF:=zep 1 2 (zqq fu)
theorem zqr (T:Tx K mg):YW P w K mg base 6 zab (zdw fu):=
 zb7 (ps:=["these"]) ⟨rfl,rfl,rfl, *...*, *...*, *...*, *...*⟩ rfl rfl (λ_ _ _ _=>at_ λ_=>at0 rfl) (λbG f c A outer s H hr=>⟨_,(zQ (pv 1) T.a9 T.bB.mt (zaH (fu:=fu) T) (hr.mono ∅) T.bB.b .nil xW (pv 0\(pv 2\zb))),(xN T.ai (zk 1) (zm (zk 0) (zm (zk 2) yg)))⟩)
def wj (fu:Nat):TwS:=(zq (zH (eOp Yk (xR "Store" "facts" (za 0)) (eOp zM (za 1) (eC (.int 0)))) (gN 2)) (zO (eIf (bE (eOp (xB kb) (eOp zM (za 2) (eC (.int 0))) (eC (.str "fork")))) (eC .non) (eOp zM (za 1) (eOp YK (eC (.int 1)) (eOp zM (eOp zM (za 2) (eC (.int 1))) (eC (.int 0))))))))
def vV (fu:Nat):TwF:=zK 2 1 (wj fu)
theorem Ve (T:Tx K mg):T.aP.Ok P w mg base 1 2 (vV fu):=
 okS T.aP.F vU rfl rfl (λhr=>⟨_,((vU^^^(2,uh rfl,yX (K:=K)%(xm (pv 0) rfl,zi (K:=K)%(pv 1,zf))))<|>¬(!Vk (yn xg (zi (K:=K)%(pv 2,zf)) zy (by rfl)) zjB (zi (K:=K)%(pv 1,zX wB zf (zi (K:=K)%(zi (K:=K)%(pv 2,zf),zf)))))),(by unfold wj;walk_at "re")⟩)
def zqs (fu:Nat):TwE:=(yp "Store" "choice_among" (vV fu) (za 1) [(za 0)])
def zdx (fu:Nat):List Xv->TwF:=zep 1 1 (zqs fu)
theorem zqt (T:Tx K mg):YW P w K mg base 2 zac (zdx fu):=
 zb7 (ps:=["these"]) ⟨rfl,rfl,rfl, *...*, *...*, *...*, *...*⟩ rfl rfl (λ_ _ _ _=>at_ λ_=>at0 rfl) (λbG f c A outer s H hr=>⟨_,(zQ (pv 1) T.a9 T.aP.mt (Ve (fu:=fu) T) (hr.mono ∅) T.aP.b .nil xW (pv 0\zb)),(xN T.ai (zk 1) (zm (zk 0) yg))⟩)
def Xx (fu:Nat):TwS:=(zq (zH (eOp Yk (za 2) (eC (.int 0))) (gN 3)) (zq (sIf (bE (eFn zea [(xh [gC,f7 3] (iL (za 2)) (gN 0) yY (eOp ZR (za 0) (za 1)))])) (zO (za 3)) zN) (zO (yp "Store" "number_of" (xV fu) (za 0) [(yz [(eC (.str "fork")),(za 1),(eFn Xn [(za 2)])])]))))
def we (fu:Nat):TwF:=zK 3 1 (Xx fu)
theorem Zo (T:Tx K mg):T.aF.Ok P w mg base 2 3 (we fu):=
 okS T.aF.F UE rfl rfl (λhr=>⟨_,((UE^^^(3,A7 rfl,yX (K:=K)%(pv 2,zf)))<|>zU (vw (zA (Ul (K:=K) rfl) rfl T.fJ PyProof.Rows.Boot.«all» (zx (xA (N':=["kid","first"]) rfl (blk (osc:=ze ZT) rfl (by decide+kernel)) (yD (zL (i:=3) rfl rfl yC)) (Zr (K:=K) (pv 2)) (yf rfl) (λC s₀ H₀ fp=>zP (i:=0) (show (["kid","first"]:List Str).Nodup from by decide+kernel) rfl (uh rfl)) (λC s₀ H₀ fp=>yB) (λC s₀ H₀ fp=>(zgg (xJ (pv 0) (pv 1))))) zb))) (¬(!pv 3)) zt<|>¬(!zQ (pv 0) T.a9 T.aD.mt (Yy (fu:=fu) T) (hr.mono ∅) T.aD.b .nil zw ((~~~(zy\(pv 1\(wM (vq (K:=K)) rfl T.cq boot_tuple (pv 2\zb)\zb))))\zb))),(by unfold Xx;walk_at "re")⟩)
def Zg (fu:Nat):TwS:=(zq (zH (eOp Yk (xR "Store" "facts" (za 0)) (za 1)) (gN 2)) (zO (eIf (bE (eOp (xB kb) (eOp zM (za 2) (eC (.int 0))) (eC (.str "fork")))) (eOp zM (za 2) (eC (.int 2))) (yz []))))
def xl (fu:Nat):TwF:=zK 2 1 (Zg fu)
theorem Zh (T:Tx K mg):T.aB.Ok P w mg base 1 2 (xl fu):=
 okS T.aB.F XY rfl rfl (λhr=>⟨_,((XY^^^(2,uh rfl,yX (K:=K)%(xm (pv 0) rfl,pv 1)))<|>¬(!Vk (yn xg (zi (K:=K)%(pv 2,zf)) zy (by rfl)) (zi (K:=K)%(pv 2,zf)) (~~~zb))),(by unfold Zg;walk_at "re")⟩)
def wo (fu:Nat):TwS:=(zq (zH (eOp Yk (xR "Store" "facts" (za 0)) (za 1)) (gN 2)) (zO (eIf (bE (eOp (xB kb) (eOp zM (za 2) (eC (.int 0))) (eC (.str "fork")))) (eOp zM (za 2) (eC (.int 1))) (eFn wT [(xR "Store" "boxes" (za 0))]))))
def yo (fu:Nat):TwF:=zK 2 1 (wo fu)
theorem wq (T:Tx K mg):T.ak.Ok P w mg base 1 2 (yo fu):=
 okS T.ak.F Xb rfl rfl (λhr=>⟨_,((Xb^^^(2,uh rfl,yX (K:=K)%(xm (pv 0) rfl,pv 1)))<|>¬(!Vk (yn xg (zi (K:=K)%(pv 2,zf)) zy (by rfl)) (zi (K:=K)%(pv 2,zf)) (zA (yj (K:=K)) rfl T.bH boot_len (xm (pv 0) rfl\zb)))),(by unfold wo;walk_at "re")⟩)
def ZB (fu:Nat):TwS:=(zO (eIf (bE (eOp ZR (yp "Store" "level_of" (yo fu) (za 0) [(za 1)]) (za 2))) (eOp zM (yp "Store" "kids_of" (xl fu) (za 0) [(za 1)]) (za 3)) (za 1)))
def yV (fu:Nat):TwF:=zK 4 0 (ZB fu)
theorem Va (T:Tx K mg):T.b7.Ok P w mg base 2 4 (yV fu):=
 okS T.b7.F za6 rfl rfl (λhr=>⟨_,(¬(!Vk (yv (xJ (zQ (pv 0) T.a9 T.ak.mt (wq (fu:=fu) T) (hr.mono ∅) T.ak.b .nil zw (pv 1\zb)) (pv 2))) (zi (K:=K)%(zQ (pv 0) T.a9 T.aB.mt (Zh (fu:=fu) T) (hr.mono ∅) T.aB.b .nil zw (pv 1\zb),pv 3)) (pv 1))),(by unfold ZB;walk_at "re")⟩)
def ZC (fu:Nat) (d8:TwF) (c7:TwF):TwS:=(zq (sIf (bE (zia ia (za 1) (za 3))) (zq (zH (US [(zab,zdw fu),(zac,zdx fu)] 2 [(za 1)]) (gN 4)) (zbj (za 3) (za 1) (eIf (bE (eUn zgR (za 4))) (yp "Store" "joined_below" c7 (za 0) [(za 1),(za 2),(za 3)]) (za 4)))) zN) (zO (zek (za 3) (za 1))))
def yL (fu:Nat) (d8:TwF) (c7:TwF):TwS:=(zq (zH (eFn zfN [(xh [gC,f7 0] (iT (za 1)) (gN 0) yY (yp "Store" "level_of" (yo fu) (za 1) [(za 0)]))]) (gN 4)) (zq (zH (zbJ []) (gN 5)) (zq (Ws (iR1 (eOp zM (eOp zM (xR "Store" "boxes" (za 0)) (za 4)) (eC (.int 1)))) (gN 6) (zq (zH (eFn Xn [(xh [gC,f7 4,f7 6,f7 0] (iT (za 1)) (gN 0) yY (yp "Store" "kid_at" (yV fu) (za 3) [(za 0),(za 1),(za 2)]))]) (gN 7)) (zbN (eMt Wr (za 5) [(yp "Store" "joined" d8 (za 0) [(za 7),(za 2),(za 3)])])))) (zO (yp "Store" "fork" (we fu) (za 0) [(za 4),(za 5)])))))
mutual
def zR (fu:Nat):Nat->TwF
 |0=>λ_ _=>gC
 |n+1=>zK 4 1 (ZC fu (zR fu n) (zS fu n))
def zS (fu:Nat):Nat->TwF
 |0=>λ_ _=>gC
 |n+1=>zK 4 4 (yL fu (zR fu n) (zS fu n))
end
theorem Zw (fu n:Nat):zR fu (n+1)=zK 4 1 (ZC fu (zR fu n) (zS fu n)):=by rw[zR]
theorem VS (fu:Nat):zR fu 0=λ_ _=>gC:=by rw[zR]
theorem wG (fu n:Nat):zS fu (n+1)=zK 4 4 (yL fu (zR fu n) (zS fu n)):=by rw[zS]
theorem Yz (fu:Nat):zS fu 0=λ_ _=>gC:=by rw[zS]
theorem zaI (T:Tx K mg):∀n:Nat,T.aA.Ok P w mg base (6+n) 4 (zR fu n)/\T.aO.Ok P w mg base (6+n) 4 (zS fu n):=by
 intro n
 induction n with
 |zero=>
  refine⟨?_,?_⟩
  .rw[VS];exact YU
  .rw[Yz];exact YU
 |succ n ih=>
  refine⟨?_,?_⟩
  .rw[Zw];exact okS T.aA.F WX rfl rfl (λhr=>⟨_,(zU (yv (zb1 (K:=K) hr (pv 1) (pv 3))) ((WX^^^(4,uh rfl,zb5 (i:=2) (k:=6) rfl (by first|exact .inl rfl|exact .inr (.inl rfl)|exact .inr (.inr rfl)) (zeq (fns:=[(zab,zdw fu),(zac,zdx fu)]) (XW (zqr (fu:=fu) T) ∅ (XW (zqt (fu:=fu) T) ∅ zcc))) (hr.mono (by walk_at "q2")) (pv 1\zb)))<|>¬zfB (K:=K) hr (pv 3) (pv 1) (Vk (yv (zgf (pv 4))) (zQ (pv 0) T.a9 T.aO.mt ih.2 (hr.mono (by walk_at "q2")) T.aO.b .nil zw (pv 1\(pv 2\(pv 3\zb)))) (pv 4)) rfl) zt<|>¬(!zfA (K:=K) hr (pv 3) (pv 1) (λ_ _=>rfl))),(xK (zfp (ziZ (zib (zk 1) (zk 3))) (xK (vB (zb8 (zm (zk 1) yg)) xc) (zfD (zk 3) (zk 1) (znJ (ziZ (zkv (zk 4))) (xN T.ai (zk 0) (zm (zk 1) (zm (zk 2) (zm (zk 3) yg)))) (zk 4)))) Tr) (vC (zfC (zk 3) (zk 1))))⟩)
  .rw[wG];exact okS T.aO.F yK rfl rfl (λhr=>⟨_,((yK^^^(4,A7 rfl,zA (zjj (K:=K) rfl) rfl T.iu boot_min (zx (xA (N':=["node","self"]) rfl (blk (osc:=ze yR) rfl (by decide+kernel)) (yD (zL (i:=0) rfl rfl yC)) (Zj (K:=K) (pv 1)) (yf rfl) (λC s₀ H₀ fp=>zP (i:=0) (show (["node","self"]:List Str).Nodup from by decide+kernel) rfl (uh rfl)) (λC s₀ H₀ fp=>yB) (λC s₀ H₀ fp=>(zQ (pv 1) T.a9 T.ak.mt (wq (fu:=fu) T) (hr.mono (by walk_at "q2")) T.ak.b .nil xW (pv 0\zb)))) zb)))<|>(yK^^^(5,uh rfl,@Wk _ _ _ _ zb))<|>wR PassesOwn.leaving rfl (yu rfl T.aM ((zi (K:=K)%(zi (K:=K)%(xm (pv 0) rfl,pv 4),zf))\zb)) (zP (i:=6) yK.nd rfl (A7 rfl)) ((yK^^^(7,uh rfl,wM (vq (K:=K)) rfl T.cq boot_tuple (zx (xA (N':=["node","level","number","self"]) rfl (blk (osc:=ze yR) rfl (by decide+kernel)) (yD (zL (i:=4) rfl rfl (zL (i:=6) rfl rfl (zL (i:=0) rfl rfl yC)))) (Zj (K:=K) (pv 1)) (yf rfl) (λC s₀ H₀ fp=>zP (i:=0) (show (["node","level","number","self"]:List Str).Nodup from by decide+kernel) rfl (uh rfl)) (λC s₀ H₀ fp=>yB) (λC s₀ H₀ fp=>(zQ (pv 3) T.a9 T.b7.mt (Va (fu:=fu) T) (hr.mono (by walk_at "q2")) T.b7.b .nil xW (pv 0\(pv 1\(pv 2\zb)))))) zb)))<|>¬Td (zc3 z9 Be Bf Uj (pv 5) (zQ (pv 0) T.a9 T.aA.mt ih.1 (hr.mono (by walk_at "q2")) T.aA.b .nil zw (pv 7\(pv 2\(pv 3\zb)))\zb)))<|>¬(!zQ (pv 0) T.a9 T.aF.mt (Zo (fu:=fu) T) (hr.mono (by walk_at "q2")) T.aF.b .nil zw (pv 4\(pv 5\zb)))),(by unfold yL;walk_at "re")⟩)
theorem Vb (T:Tx K mg) (n:Nat):T.aA.Ok P w mg base (6+n) 4 (zR fu n):=(zaI T n).1
def wH (fu:Nat):TwS:=(zO (YX "Store" "joined" (zR fu 24) (za 0) [(za 1),(zeo zab 4 [0,2]),zaA]))
def Zx (fu:Nat):TwF:=zK 3 0 (wH fu)
theorem VT (T:Tx K mg):T.aG.Ok P w mg base 31 3 (Zx fu):=by
 obtain⟨zc,zp,hz,hk⟩:=zaC T.ai T.aG.mt.at_ T.ck;exact T.aG.F.okZ (fz:=["self","rule"]) hz VH (λvs H Q E h=>h.1) (λA outer s H vs Q E hr h=>⟨_,(¬(!zQ (pv 0) T.a9 T.aA.mt (Vb (fu:=fu) T 24) (hr.mono ∅) T.aA.b .nil xW (pv 1\(zx (TX (L:=zab) (is:=[0,2]) (TW (osc:=ze yZ) (N:=["self","nodes","rule"]) (fz:=["self","rule"]) rfl rfl rfl rfl (by decide+kernel)) rfl rfl (Zs hz).1) (zx Th zb))))),zdh (n:=3) (k:=0) (b:=wH fu) rfl (vC (Yc T.ai (zk 0) (zm (zk 1) (zm (zb6 hk) (zm zed yg))))) h⟩)
def YA (fu:Nat):TwS:=(zO (YX "Store" "reckoned_of" (Zx fu) (za 0) [(yz [(za 1),(za 2)]),(zeo VL 3 [])]))
def YB (fu:Nat):TwF:=zK 3 0 (YA fu)
theorem zck (T:Tx K mg):T.bF.Ok P w mg base 32 3 (YB fu):=by
 obtain⟨zc,zp,hz,hk⟩:=zaC T.ai T.bF.mt.at_ T.dm;exact T.bF.F.okZ (fz:=[]) hz zcf (λvs H Q E h=>h.1) (λA outer s H vs Q E hr h=>⟨_,(¬(!zQ (pv 0) T.a9 T.aG.mt (VT (fu:=fu) T) (hr.mono ∅) T.aG.b .nil xW ((~~~(pv 1\(pv 2\zb)))\(zx (TX (L:=VL) (is:=[]) (TW (osc:=ze wW) (N:=["self","one","other"]) (fz:=[]) rfl rfl rfl rfl (by decide+kernel)) rfl rfl (Zs hz).1) zb)))),zdh (n:=3) (k:=0) (b:=YA fu) rfl (vC (Yc T.ai (zk 0) (zm (Yj (zm (zk 1) (zm (zk 2) yg))) (zm (zb6 hk) yg)))) h⟩)
def vn (fu:Nat):TwS:=(zO (YX "Store" "joined" (zR fu 24) (za 0) [(eOp YV (yz [(za 1)]) (za 2)),(zeo zac 5 [0]),zaA]))
def vo (fu:Nat):TwF:=zK 3 0 (vn fu)
theorem UZ (T:Tx K mg):T.aR.Ok P w mg base 31 3 (vo fu):=by
 obtain⟨zc,zp,hz,hk⟩:=zaC T.ai T.aR.mt.at_ T.cC;exact T.aR.F.okZ (fz:=["self"]) hz UY (λvs H Q E h=>h.1) (λA outer s H vs Q E hr h=>⟨_,(¬(!zQ (pv 0) T.a9 T.aA.mt (Vb (fu:=fu) T 24) (hr.mono ∅) T.aA.b .nil xW (zX (YS (K:=K)) (~~~(pv 1\zb)) (pv 2)\(zx (TX (L:=zac) (is:=[0]) (TW (osc:=ze xC) (N:=["self","chooser","nodes"]) (fz:=["self"]) rfl rfl rfl rfl (by decide+kernel)) rfl rfl (Zs hz).1) (zx Th zb))))),zdh (n:=3) (k:=0) (b:=vn fu) rfl (vC (Yc T.ai (zk 0) (zm (wm Tv (Yj (zm (zk 1) yg)) (zk 2)) (zm (zb6 hk) (zm zed yg))))) h⟩)
def zqu (fu:Nat):TwE:=(yz [(eOp Vt (zD (VQ fu) [(xR "Store" "boxes" (za 1)),(za 0),(za 2)]) (za 3)),(eC (.int 1))])
def zdy (fu:Nat):List Xv->TwF:=zep 1 3 (zqu fu)
theorem zqv (T:Tx K mg):YW P w K mg base 4 TZ (zdy fu):=
 zb7 (ps:=["state"]) ⟨rfl,rfl,rfl, *...*, *...*, *...*, *...*⟩ rfl rfl (λ_ _ _ _=>at_ λ_=>at0 rfl) (λbG f c A outer s H hr=>⟨_,(~~~(zX Yd (T.cS\(zfS (fu:=fu) T,hr.mono ∅,xW,xm (pv 1) rfl\(pv 0\(pv 2\zb)))) (pv 3)\(zf\zb))),(Yj (zm (wm zgW (Ts (zm (vc T.ai T.a9 T.ax (zk 1)) (zm (zk 0) (zm (zk 2) yg)))) (zk 3)) (zm (vi _) yg)))⟩)
def zqw (fu:Nat):TwE:=(yz [(zD (VO fu) [(xR "Store" "boxes" (za 1)),(za 0),(za 2)]),(eC (.int 1))])
def zdz (fu:Nat):List Xv->TwF:=zep 1 2 (zqw fu)
theorem zqx (T:Tx K mg):YW P w K mg base 3 zaa (zdz fu):=
 zb7 (ps:=["state"]) ⟨rfl,rfl,rfl, *...*, *...*, *...*, *...*⟩ rfl rfl (λ_ _ _ _=>at_ λ_=>at0 rfl) (λbG f c A outer s H hr=>⟨_,(~~~((T.df\(zcj (fu:=fu) T,hr.mono ∅,xW,xm (pv 1) rfl\(pv 0\(pv 2\zb))))\(zf\zb))),(Yj (zm (Ts (zm (vc T.ai T.a9 T.ax (zk 1)) (zm (zk 0) (zm (zk 2) yg)))) (zm (vi _) yg)))⟩)
def xD (fu:Nat) (cm:TwF):TwS:=(zq (zH (eFn wT [(za 3)]) (gN 4)) (zq (sIf (bE (eOp ZR (za 4) (eFn wT [(xR "Store" "boxes" (za 0))]))) (zO (yp "Store" "leaf" (wd fu) (za 0) [(US [(TZ,zdy fu),(zaa,zdz fu)] 2 [(za 3)])])) zN) (zq (sIf (bE (eOp (dIn ia) (eOp zM (eOp zM (xR "Store" "boxes" (za 0)) (za 4)) (eC (.int 0))) (za 1))) (zO (yp "Store" "made_behind" cm (za 0) [(za 1),(za 2),(eOp YV (za 3) (yz [(eC (.int 0))]))])) zN) (zq (zH (eOp zM (eOp zM (xR "Store" "boxes" (za 0)) (za 4)) (eC (.int 1))) (gN 5)) (zO (yp "Store" "fork" (we fu) (za 0) [(za 4),(xh [gC,f7 1,f7 2,f7 0,f7 3] (iR1 (za 5)) (gN 0) yY (yp "Store" "made_behind" cm (za 3) [(za 1),(za 2),(eOp YV (za 4) (yz [(za 0)]))]))]))))))
def yi (fu:Nat):Nat->TwF
 |0=>λ_ _=>gC
 |n+1=>zK 4 2 (xD fu (yi fu n))
theorem xt (fu n:Nat):yi fu (n+1)=zK 4 2 (xD fu (yi fu n)):=by rfl
theorem YL (fu:Nat):yi fu 0=λ_ _=>gC:=by rfl
theorem Vf (T:Tx K mg):∀n:Nat,T.aj.Ok P w mg base (4+n) 4 (yi fu n):=by
 intro n
 induction n with
 |zero=>
  skip
  .rw[YL];exact YU
 |succ n ih=>
  .rw[xt];exact okS T.aj.F wF rfl rfl (λhr=>⟨_,((wF^^^(4,uh rfl,zA (yj (K:=K)) rfl T.bH boot_len (pv 3\zb)))<|>zU (yv (xJ (pv 4) (zA (yj (K:=K)) rfl T.bH boot_len (xm (pv 0) rfl\zb)))) (¬(!zQ (pv 0) T.a9 T.aE.mt (Zn (fu:=fu) T) (hr.mono (by walk_at "q2")) T.aE.b .nil zw (zb5 (i:=2) (k:=4) rfl (by first|exact .inl rfl|exact .inr (.inl rfl)|exact .inr (.inr rfl)) (zeq (fns:=[(TZ,zdy fu),(zaa,zdz fu)]) (XW (zqv (fu:=fu) T) ∅ (XW (zqx (fu:=fu) T) ∅ zcc))) (hr.mono (by walk_at "q2")) (pv 3\zb)\zb))) zt<|>zU (yn (ziQ (K:=K)) (zi (K:=K)%(zi (K:=K)%(xm (pv 0) rfl,pv 4),zf)) (pv 1) (by rfl)) (¬(!zQ (pv 0) T.a9 T.aj.mt ih (hr.mono (by walk_at "q2")) T.aj.b .nil zw (pv 1\(pv 2\(zX (YS (K:=K)) (pv 3) (~~~(zf\zb))\zb))))) zt<|>(wF^^^(5,uh rfl,zi (K:=K)%(zi (K:=K)%(xm (pv 0) rfl,pv 4),zf)))<|>¬(!zQ (pv 0) T.a9 T.aF.mt (Zo (fu:=fu) T) (hr.mono (by walk_at "q2")) T.aF.b .nil zw (pv 4\(zx (xA (N':=["number","names","rule","self","numbers"]) rfl (blk (osc:=ze xH) rfl (by decide+kernel)) (yD (zL (i:=1) rfl rfl (zL (i:=2) rfl rfl (zL (i:=0) rfl rfl (zL (i:=3) rfl rfl yC))))) (yu rfl T.aM (pv 5\zb)) (yf rfl) (λC s₀ H₀ fp=>zP (i:=0) (show (["number","names","rule","self","numbers"]:List Str).Nodup from by decide+kernel) rfl (uh rfl)) (λC s₀ H₀ fp=>yB) (λC s₀ H₀ fp=>(zQ (pv 3) T.a9 T.aj.mt ih (hr.mono (by walk_at "q2")) T.aj.b .nil xW (pv 1\(pv 2\(zX (YS (K:=K)) (pv 4) (~~~(pv 0\zb))\zb)))))) zb)))),(xK (vB (zfl zbS (zm (zk 3) yg)) xc) (xK (zfp (ziZ (zkO (zk 4) (zfl zbS (zm (vc T.ai T.a9 T.ax (zk 0)) yg)))) (vC (xN T.ai (zk 0) (zm (zb8 (zm (zk 3) yg)) yg))) Tr) (xK (zfp (zhW (wm zp8 (wm Za (wm Za (vc T.ai T.a9 T.ax (zk 0)) (zk 4)) (vi _)) (zk 1))) (vC (xN T.ai (zk 0) (zm (zk 1) (zm (zk 2) (zm (wm Tv (zk 3) (Yj (zm (vi _) yg))) yg))))) Tr) (xK (vB (wm Za (wm Za (vc T.ai T.a9 T.ax (zk 0)) (zk 4)) (vi _)) xc) (vC (xN T.ai (zk 0) (zm (zk 4) (zm (Uo (cap:=[gC,f7 1,f7 2,f7 0,f7 3]) (zax (zk 5)) xc Um (xN T.ai (zk 3) (zm (zk 1) (zm (zk 2) (zm (wm Tv (zk 4) (Yj (zm (zk 0) yg))) yg))))) yg))))))))⟩)
theorem VU (T:Tx K mg) (n:Nat):T.aj.Ok P w mg base (4+n) 4 (yi fu n):=(Vf T n)
def Xy (fu:Nat):TwS:=(zO (yp "Store" "made_behind" (yi fu 12) (za 0) [(za 1),(za 2),(yz [])]))
def Zp (fu:Nat):TwF:=zK 3 0 (Xy fu)
theorem UH (T:Tx K mg):T.bw.Ok P w mg base 17 3 (Zp fu):=
 okS T.bw.F zcK rfl rfl (λhr=>⟨_,(¬(!zQ (pv 0) T.a9 T.aj.mt (VU (fu:=fu) T 12) (hr.mono ∅) T.aj.b .nil zw (pv 1\(pv 2\((~~~zb)\zb))))),(by unfold Xy;walk_at "re")⟩)
def yS (fu:Nat) (di:TwF):TwS:=(zq (zH (yp "Store" "level_of" (yo fu) (za 0) [(za 1)]) (gN 5)) (zq (sIf (bE (eOp dGe (za 5) (za 2))) (zO (yp "Store" "kid_at" (yV fu) (za 0) [(za 1),(za 2),(za 3)])) zN) (zq (sIf (bE (zoH ia (za 1) (za 4))) (zq (zH (xh [gC,f7 2,f7 3,f7 4,f7 0] (iT (yp "Store" "kids_of" (xl fu) (za 0) [(za 1)])) (gN 0) yY (yp "Store" "fixed_below" di (za 4) [(za 0),(za 1),(za 2),(za 3)])) (gN 6)) (zg1 (za 4) (za 1) (yp "Store" "fork" (we fu) (za 0) [(za 5),(za 6)]))) zN) (zO (zh8 (za 4) (za 1))))))
def zV (fu:Nat):Nat->TwF
 |0=>λ_ _=>gC
 |n+1=>zK 5 2 (yS fu (zV fu n))
theorem xu (fu n:Nat):zV fu (n+1)=zK 5 2 (yS fu (zV fu n)):=by rfl
theorem YM (fu:Nat):zV fu 0=λ_ _=>gC:=by rfl
theorem Vg (T:Tx K mg):∀n:Nat,T.ay.Ok P w mg base (2+n) 5 (zV fu n):=by
 intro n
 induction n with
 |zero=>
  skip
  .rw[YM];exact YU
 |succ n ih=>
  .rw[xu];exact okS T.ay.F wE rfl rfl (λhr=>⟨_,((wE^^^(5,uh rfl,zQ (pv 0) T.a9 T.ak.mt (wq (fu:=fu) T) (hr.mono (by walk_at "q2")) T.ak.b .nil zw (pv 1\zb)))<|>zU (yv (zpz (pv 5) (pv 2))) (¬(!zQ (pv 0) T.a9 T.b7.mt (Va (fu:=fu) T) (hr.mono (by walk_at "q2")) T.b7.b .nil zw (pv 1\(pv 2\(pv 3\zb))))) zt<|>zU (yv (ziI (zjY hr) (pv 1) (pv 4))) (vY (i:=6) (N':=["kid","level","number","known","self"]) rfl (blk (osc:=ze xG) rfl (by decide+kernel)) (yD (zL (i:=2) rfl rfl (zL (i:=3) rfl rfl (zL (i:=4) rfl rfl (zL (i:=0) rfl rfl yC))))) (Zj (K:=K) (zQ (pv 0) T.a9 T.aB.mt (Zh (fu:=fu) T) (hr.mono (by walk_at "q2")) T.aB.b .nil zw (pv 1\zb))) (yf rfl) (λC s₀ H₀ fp=>zP (i:=0) (show (["kid","level","number","known","self"]:List Str).Nodup from by decide+kernel) rfl (uh rfl)) (λC s₀ H₀ fp=>yB) (λC s₀ H₀ fp=>(zQ (pv 4) T.a9 T.ay.mt ih (hr.mono (by walk_at "q2")) T.ay.b .nil xW (pv 0\(pv 1\(pv 2\(pv 3\zb)))))) wE.nd rfl rfl<|>¬zmf (zjY hr) (pv 4) (pv 1) (zQ (pv 0) T.a9 T.aF.mt (Zo (fu:=fu) T) (hr.mono (by walk_at "q2")) T.aF.b .nil zw (pv 5\(pv 6\zb))) rfl) zt<|>¬(!zme (zjY hr) (pv 4) (pv 1) (λ_ _=>rfl))),(by unfold yS;walk_at "re")⟩)
theorem VW (T:Tx K mg) (n:Nat):T.ay.Ok P w mg base (2+n) 5 (zV fu n):=(Vg T n)
def YC (fu:Nat):TwS:=(zO (yp "Store" "fixed_below" (zV fu 12) (za 0) [(za 1),(za 2),(za 3),zaA]))
def YD (fu:Nat):TwF:=zK 4 0 (YC fu)
theorem zcl (T:Tx K mg):T.bP.Ok P w mg base 15 4 (YD fu):=
 okS T.bP.F zcg rfl rfl (λhr=>⟨_,(¬(!zQ (pv 0) T.a9 T.ay.mt (VW (fu:=fu) T 12) (hr.mono ∅) T.ay.b .nil zw (pv 1\(pv 2\(pv 3\(zx Th zb)))))),(by unfold YC;walk_at "re")⟩)
def ZD (fu:Nat):TwS:=(zO (eFn Xn [(xh [gC,f7 2,f7 1,f7 0] (iR1 (eOp zM (eOp zM (xR "Store" "boxes" (za 0)) (za 1)) (eC (.int 1)))) (gN 0) yY (yp "Store" "fixed" (YD fu) (za 3) [(za 1),(za 2),(za 0)]))]))
def ZE (fu:Nat):TwF:=zK 3 0 (ZD fu)
theorem za8 (T:Tx K mg):T.bV.Ok P w base 16 3 (ZE fu):=
 okS T.bV.F za5 rfl rfl (λhr=>⟨_,(¬(!wM (vq (K:=K)) rfl T.cq boot_tuple (zx (xA (N':=["number","aim","level","store"]) rfl (blk (osc:=ze vE) rfl (by decide+kernel)) (yD (zL (i:=2) rfl rfl (zL (i:=1) rfl rfl (zL (i:=0) rfl rfl yC)))) (yu rfl T.aM ((zi (K:=K)%(zi (K:=K)%(xm (pv 0) rfl,pv 1),zf))\zb)) (yf rfl) (λC s₀ H₀ fp=>zP (i:=0) (show (["number","aim","level","store"]:List Str).Nodup from by decide+kernel) rfl (uh rfl)) (λC s₀ H₀ fp=>yB) (λC s₀ H₀ fp=>(zQ (pv 3) T.a9 T.bP.mt (zcl (fu:=fu) T) (hr.mono ∅) T.bP.b .nil xW (pv 1\(pv 2\(pv 0\zb)))))) zb))),(by unfold ZD;walk_at "re")⟩)
def VX (fu:Nat):TwS:=(zq (zH (zD (Xd fu) [(xR "Store" "boxes" (za 0)),(za 1)]) (gN 4)) (zq (zH (eOp zM (eOp zM (xR "Store" "boxes" (za 0)) (za 4)) (eC (.int 1))) (gN 5)) (zq (zH (YX "Store" "made" (Zp fu) (za 0) [(za 2),(zeo TZ 1 [0,2,5])]) (gN 6)) (zO (YX "Store" "chosen_by" (vo fu) (za 0) [(za 6),(zgU (ZE fu) [(za 0),(za 4),(za 3)])])))))
def VY (fu:Nat):TwF:=zK 4 3 (VX fu)
theorem zfT (T:Tx K mg):T.cA.Ok P w base 32 4 (VY fu):=by
 obtain⟨zc,zp,hz,hk⟩:=zfO T.dX T.eF;exact T.cA.F.okZ2 (fz:=["store","reckoning","size"]) hz YZ (λvs H Q E h=>h.1) (λA outer s H vs Q E hr h=>⟨_,(zfP (YZ^^^(4,uh rfl,T.cB\(zaW (fu:=fu) T,hr.mono ∅,zw,xm (pv 0) rfl\(pv 1\zb)))) (zfP (YZ^^^(5,A7 rfl,zi (K:=K)%(zi (K:=K)%(xm (pv 0) rfl,pv 4),zf))) (zo7 ((YZ^^^(6,uh rfl,zQ (pv 0) T.a9 T.bw.mt (UH (fu:=fu) T) (hr.mono ∅) T.bw.b .nil xW (pv 2\(zx (TX (L:=TZ) (is:=[0,2,5]) (TW (osc:=ze Ys) (N:=["store","name","reckoning","aim","level","size","number"]) (fz:=["store","reckoning","size"]) rfl rfl rfl rfl (by decide+kernel)) rfl rfl (Zs hz).1) zb))))<|>¬(!zQ (pv 0) T.a9 T.aR.mt (UZ (fu:=fu) T) (hr.mono ∅) T.aR.b .nil xW (pv 6\((T.bV\(za8 (fu:=fu) T,hr.mono ∅,xW,pv 0\(pv 4\(pv 3\zb))))\zb))))))),zdh (n:=4) (k:=3) (b:=VX fu) rfl (xK (vB (Ts (zm (vc T.ai T.a9 T.ax (zk 0)) (zm (zk 1) yg))) xc) (xK (vB (wm Za (wm Za (vc T.ai T.a9 T.ax (zk 0)) (zk 4)) (vi _)) xc) (xK (vB (Yc T.ai (zk 0) (zm (zk 2) (zm (zb6 hk) yg))) xc) (vC (Yc T.ai (zk 0) (zm (zk 6) (zm (zkI (zm (zk 0) (zm (zk 4) (zm (zk 3) yg)))) yg))))))) h⟩)
def Xz (fu:Nat):TwS:=(zO (YX "Store" "made" (Zp fu) (za 0) [(yz [(za 1)]),(zeo zaa 2 [0,1])]))
def XA (fu:Nat):TwF:=zK 2 0 (Xz fu)
theorem zcO (T:Tx K mg):T.bU.Ok P w base 18 2 (XA fu):=by
 obtain⟨zc,zp,hz,hk⟩:=zfO T.dq T.dF;exact T.bU.F.okZ (fz:=["store","operand"]) hz zcI (λvs H Q E h=>h.1) (λA outer s H vs Q E hr h=>⟨_,(¬(!zQ (pv 0) T.a9 T.bw.mt (UH (fu:=fu) T) (hr.mono ∅) T.bw.b .nil xW ((~~~(pv 1\zb))\(zx (TX (L:=zaa) (is:=[0,1]) (TW (osc:=ze vF) (N:=["store","operand"]) (fz:=["store","operand"]) rfl rfl rfl rfl (by decide+kernel)) rfl rfl (Zs hz).1) zb)))),zdh (n:=2) (k:=0) (b:=Xz fu) rfl (vC (Yc T.ai (zk 0) (zm (Yj (zm (zk 1) yg)) (zm (zb6 hk) yg)))) h⟩)
def Zq (fu:Nat) (cR:TwF) (dU:TwF):TwS:=(zq (Ws (zo3 (za 1)) (gN 4) (zH (zD dU [(za 0),(za 4),(za 2),(za 3)]) (gN 2))) (zO (za 2)))
def ZX (fu:Nat) (cR:TwF) (dU:TwF):TwS:=(zq (sIf (bE (eOp (xB kb) (eOp zM (za 1) (eC (.int 0))) (eC (.str "set")))) (zO (zD (VY fu) [(za 0),(eOp zM (za 1) (eC (.int 1))),(eOp zM (za 1) (eC (.int 2))),(za 2)])) zN) (zq (sIf (bE (eOp (xB kb) (eOp zM (za 1) (eC (.int 0))) (eC (.str "draw")))) zbM zN) (zq (sIf (ziW (bE (eOp (xB kb) (eOp zM (za 1) (eC (.int 0))) (eC (.str "gain")))) (bE (za 3))) (zO (yp "Store" "added" (YB fu) (za 0) [(za 2),(zD (XA fu) [(za 0),(eOp zM (za 1) (eC (.int 1)))])])) zN) (zq (sIf (bE (eOp (xB kb) (eOp zM (za 1) (eC (.int 0))) (eC (.str "look")))) zbM zN) (zq (sIf (bE (eOp (xB kb) (eOp zM (za 1) (eC (.int 0))) (eC (.str "if")))) (zq (zH (zD cR [(za 0),(eOp zM (za 1) (eC (.int 2))),(za 2),(za 3)]) (gN 4)) zbM) zN) (zq (sIf (bE (eOp (xB kb) (eOp zM (za 1) (eC (.int 0))) (eC (.str "times")))) (zq (Ws (iR1 (eOp zM (za 1) (eC (.int 1)))) (gN 5) (zH (zD cR [(za 0),(eOp zM (za 1) (eC (.int 2))),(za 2),(za 3)]) (gN 2))) (zO (za 2))) zN) (zq (sIf (bE (eOp (xB kb) (eOp zM (za 1) (eC (.int 0))) (eC (.str "hand")))) zbM zN) (zO (za 2)))))))))
mutual
def yr (fu:Nat):Nat->TwF
 |0=>λ_ _=>gC
 |n+1=>zK 4 1 (Zq fu (yr fu n) (yO fu n))
def yO (fu:Nat):Nat->TwF
 |0=>λ_ _=>gC
 |n+1=>zK 4 2 (ZX fu (yr fu n) (yO fu n))
end
theorem YE (fu n:Nat):yr fu (n+1)=zK 4 1 (Zq fu (yr fu n) (yO fu n)):=by rw[yr]
theorem Ta (fu:Nat):yr fu 0=λ_ _=>gC:=by rw[yr]
theorem Xe (fu n:Nat):yO fu (n+1)=zK 4 2 (ZX fu (yr fu n) (yO fu n)):=by rw[yO]
theorem zae (fu:Nat):yO fu 0=λ_ _=>gC:=by rw[yO]
theorem zcm (T:Tx K mg):∀n:Nat,T.bu.Ok P w base (32+n) 4 (yr fu n)/\T.cG.Ok P w base (32+n) 4 (yO fu n):=by
 intro n
 induction n with
 |zero=>
  refine⟨?_,?_⟩
  .rw[Ta];exact YU
  .rw[zae];exact YU
 |succ n ih=>
  refine⟨?_,?_⟩
  .rw[YE];exact okS T.bu.F Xs rfl rfl (λhr=>⟨_,(wR PassesOwn.leaving rfl (zou (K:=K) rfl T.dB (pv 1\zb)) (zP (i:=4) Xs.nd rfl (uh rfl)) (¬(Xs^^^(2,uh rfl,T.cG\(ih.2,hr.mono (by walk_at "q2"),zw,pv 0\(pv 4\(pv 2\(pv 3\zb)))))))<|>¬(!pv 2)),(by unfold Zq;walk_at "re")⟩)
  .rw[Xe];exact okS T.cG.F ZW rfl rfl (λhr=>⟨_,(zU (yn xg (zi (K:=K)%(pv 1,zf)) zy (by rfl)) (¬(!(T.cA\(zfT (fu:=fu) T,hr.mono (by walk_at "q2"),zw,pv 0\((zi (K:=K)%(pv 1,zf))\((zi (K:=K)%(pv 1,zf))\(pv 2\zb))))))) zt<|>zU (yn xg (zi (K:=K)%(pv 1,zf)) zy (by rfl)) (¬zbm) zt<|>zU (PW.pt (zdM (yn xg (zi (K:=K)%(pv 1,zf)) zy (by rfl)) (zbd (vw (pv 3))))) (¬(!zQ (pv 0) T.a9 T.bF.mt (zck (fu:=fu) T) (hr.mono (by walk_at "q2")) T.bF.b .nil zw (pv 2\((T.bU\(zcO (fu:=fu) T,hr.mono (by walk_at "q2"),zw,pv 0\((zi (K:=K)%(pv 1,zf))\zb)))\zb)))) zt<|>zU (yn xg (zi (K:=K)%(pv 1,zf)) zy (by rfl)) (¬zbm) zt<|>zU (yn xg (zi (K:=K)%(pv 1,zf)) zy (by rfl)) ((ZW^^^(4,uh rfl,T.bu\(ih.1,hr.mono (by walk_at "q2"),zw,pv 0\((zi (K:=K)%(pv 1,zf))\(pv 2\(pv 3\zb))))))<|>¬zbm) zt<|>zU (yn xg (zi (K:=K)%(pv 1,zf)) zy (by rfl)) (wR PassesOwn.leaving rfl (yu rfl T.aM ((zi (K:=K)%(pv 1,zf))\zb)) (zP (i:=5) ZW.nd rfl (uh rfl)) (¬(ZW^^^(2,A7 rfl,T.bu\(ih.1,hr.mono (by walk_at "q2"),zw,pv 0\((zi (K:=K)%(pv 1,zf))\(pv 2\(pv 3\zb)))))))<|>¬(!pv 2)) zt<|>zU (yn xg (zi (K:=K)%(pv 1,zf)) zy (by rfl)) (¬zbm) zt<|>¬(!pv 2)),(by unfold ZX;walk_at "re")⟩)
theorem zcP (T:Tx K mg) (n:Nat):T.bu.Ok P w base (32+n) 4 (yr fu n):=(zcm T n).1
def ZY (fu:Nat):TwS:=(zq (sIf (Tp (bE (zD (Xu fu) [(za 1)]))) (zhc "NoBound" [(eC (.str "a while stands in the block"))]) zN) (zO (zD (yr fu 6) [(za 0),(za 1),(za 2),(za 3)])))
def wO (fu:Nat):TwF:=zK 4 0 (ZY fu)
theorem zaf (T:Tx K mg):T.bI.Ok P w base 39 4 (wO fu):=
 okS T.bI.F zev rfl rfl (λhr=>⟨_,(zU (zar (vw (T.cu\(zcN (fu:=fu) T,hr.mono ∅,zw,pv 1\zb)))) (¬zj4 zmi rfl rfl T.d9 PySem.F.excBase_ValueError (zy\zb)) zt<|>¬(!(T.bu\(zcP (fu:=fu) T 6,hr.mono ∅,zw,pv 0\(pv 1\(pv 2\(pv 3\zb))))))),(by unfold ZY;walk_at "re")⟩)
def vK (fu:Nat):TwS:=(zq (zfF "Store" "boxes" (za 0) (za 1)) (zq (zfF "Store" "facts" (za 0) (zbJ [])) (zfF "Store" "numbers" (za 0) zaA)))
def wu (fu:Nat):TwF:=zK 2 0 (vK fu)
theorem zag (T:Tx K mg):T.bp.Ok P w mg base 1 2 (wu fu):=
 okS T.bp.F TY rfl rfl (λhr=>⟨_,(zgu (pv 0) (pv 1) rfl<|>zgu (pv 0) (@Wk _ _ _ _ zb) rfl<|>¬zgu (pv 0) Th rfl),(by unfold vK;walk_at "re")⟩)
def vL (fu:Nat):TwS:=(zq (sWh fu (bE (eOp (xB kb) (eOp zM (eOp Yk (xR "Store" "facts" (za 0)) (za 1)) (eC (.int 0))) (eC (.str "fork")))) (zH (eOp zM (yp "Store" "kids_of" (xl fu) (za 0) [(za 1)]) (eOp zM (za 2) (yp "Store" "level_of" (yo fu) (za 0) [(za 1)]))) (gN 1))) (zO (eOp zM (eOp Yk (xR "Store" "facts" (za 0)) (za 1)) (eC (.int 1)))))
def vM (fu:Nat):TwF:=zK 3 0 (vL fu)
theorem zah (T:Tx K mg):T.bo.Ok P w mg base 2 3 (vM fu):=
 okS T.bo.F Xc rfl rfl (λhr=>⟨_,(zeX PassesOwn.leaving (yn xg (zi (K:=K)%(yX (K:=K)%(xm (pv 0) rfl,pv 1),zf)) zy (by rfl)) (¬(Xc^^^(1,uh rfl,zi (K:=K)%(zQ (pv 0) T.a9 T.aB.mt (Zh (fu:=fu) T) (hr.mono ∅) T.aB.b .nil zw (pv 1\zb),zi (K:=K)%(pv 2,zQ (pv 0) T.a9 T.ak.mt (wq (fu:=fu) T) (hr.mono ∅) T.ak.b .nil zw (pv 1\zb))))))<|>¬(!(zi (K:=K)%(yX (K:=K)%(xm (pv 0) rfl,pv 1),zf)))),(by unfold vL;walk_at "re")⟩)
def VZ (fu:Nat):TwS:=(zq (zH (yp "Store" "leaf" (wd fu) (za 0) [(eC (.ct [.int 0,.int 1]))]) (gN 2)) (zq (zH (yp "Store" "leaf" (wd fu) (za 0) [(eC (.ct [.int 1,.int 1]))]) (gN 3)) (zq (Ws (iR3 (eOp zkJ (eFn wT [(xR "Store" "boxes" (za 0))]) (eC (.int 1))) (eUn zi5 (eC (.int 1))) (eUn zi5 (eC (.int 1)))) (gN 4) (zq (zH (xh [gC,f7 2] (iR1 (eOp zM (eOp zM (xR "Store" "boxes" (za 0)) (za 4)) (eC (.int 1)))) (gN 0) yY (za 1)) (gN 5)) (zq (zH (za 3) (zbP (za 5) (eOp zM (za 1) (za 4)))) (zH (yp "Store" "fork" (we fu) (za 0) [(za 4),(za 5)]) (gN 3))))) (zO (za 3)))))
def YF (fu:Nat):TwF:=zK 2 4 (VZ fu)
theorem zcn (T:Tx K mg):T.bO.Ok P w mg base 3 2 (YF fu):=
 okS T.bO.F xP rfl rfl (λhr=>⟨_,((xP^^^(2,A7 rfl,zQ (pv 0) T.a9 T.aE.mt (Zn (fu:=fu) T) (hr.mono ∅) T.aE.b .nil zw (ZO (v:= .ref T.cM) rfl T.fM rfl\zb)))<|>(xP^^^(3,uh rfl,zQ (pv 0) T.a9 T.aE.mt (Zn (fu:=fu) T) (hr.mono ∅) T.aE.b .nil zw (ZO (v:= .ref T.f6) rfl T.jo rfl\zb)))<|>wR PassesOwn.leaving rfl (zjc rfl T.aM (zX zgn (zA (yj (K:=K)) rfl T.bH boot_len (xm (pv 0) rfl\zb)) zf\(zjI zgp zf\(zjI zgp zf\zb)))) (zP (i:=4) xP.nd rfl (uh rfl)) (vY (i:=5) (N':=["number","nought"]) rfl (blk (osc:=ze Zl) rfl (by decide+kernel)) (yD (zL (i:=2) rfl rfl yC)) (yu rfl T.aM ((zi (K:=K)%(zi (K:=K)%(xm (pv 0) rfl,pv 4),zf))\zb)) (yf rfl) (λC s₀ H₀ fp=>zP (i:=0) (show (["number","nought"]:List Str).Nodup from by decide+kernel) rfl (uh rfl)) (λC s₀ H₀ fp=>yB) (λC s₀ H₀ fp=>(pv 1)) xP.nd rfl rfl<|>zgk (pv 3) (zgj (pv 5) (zi (K:=K)%(pv 1,pv 4)) zbx)<|>¬(xP^^^(3,uh rfl,zQ (pv 0) T.a9 T.aF.mt (Zo (fu:=fu) T) (hr.mono ∅) T.aF.b .nil zw (pv 4\(pv 5\zb)))))<|>¬(!pv 3)),(xK (vB (xN T.ai (zk 0) (zm (ziY λj H=> .ct (λH=>T.fV H) (.cons (.int _) (.cons (.int _) .nil))) yg)) xc) (xK (vB (xN T.ai (zk 0) (zm (ziY λj H=> .ct (λH=>T.jD H) (.cons (.int _) (.cons (.int _) .nil))) yg)) xc) (xK (zkE (zje (wm zgV (zfl zbS (zm (vc T.ai T.a9 T.ax (zk 0)) yg)) (vi _)) (zku zd9 (vi _)) (zku zd9 (vi _))) xc (xK (UN (Uo (cap:=[gC,f7 2]) (zax (wm Za (wm Za (vc T.ai T.a9 T.ax (zk 0)) (zk 4)) (vi _))) xc Um (zk 1))) (xK (vB (zk 3) (zfo (zk 5) (wm Za (zk 1) (zk 4)))) (vB (xN T.ai (zk 0) (zm (zk 4) (zm (zk 5) yg))) xc)))) (vC (zk 3)))))⟩)
def WI (fu:Nat):TwS:=(zq (sIf (bE (eOp ZR (eFn wT [(za 0)]) (eC (.int 0)))) (zO (eC (.int 0))) zN) (zO (eOp Vt (eMt zkB (za 0) []) (za 1))))
def zv (fu:Nat):TwF:=zK 2 0 (WI fu)
theorem zE (T:Tx K mg):T.af.Ok P w base 1 2 (zv fu):=
 okS T.af.F zew rfl rfl (λhr=>⟨_,(zU (yv (xJ (zA (yj (K:=K)) rfl T.bH boot_len (pv 0\zb)) zf)) (¬(!zf)) zt<|>¬(!zX Yd (zol z9 PySem.F.slot_list_pop PySem.F.type_list_pop zom (pv 0)) (pv 1))),(by unfold WI;walk_at "re")⟩)
def WJ (fu:Nat):TwS:=(zq (zH (eC (.str "")) (gN 2)) (zq (Ws (iR1 (za 1)) (gN 3) (zq (zH (eOp Tu (za 2) (eOp zfm (eC (.str "abcdefghijklmnopqrstuvwxyz")) (eOp Vt (za 0) (eC (.int 26))))) (gN 2)) (zH (eOp zaT (za 0) (eC (.int 26))) (gN 0)))) (zO (za 2))))
def vN (fu:Nat):TwF:=zK 2 2 (WJ fu)
theorem zai (T:Tx K mg):T.cf.Ok P w base 1 2 (vN fu):=
 okS T.cf.F vI rfl rfl (λhr=>⟨_,((vI^^^(2,uh rfl,zy))<|>wR PassesOwn.leaving rfl (yu rfl T.aM (pv 1\zb)) (zP (i:=3) vI.nd rfl (uh rfl)) ((vI^^^(2,uh rfl,zX UK (pv 2) (zdR%(zy,zX Yd (pv 0) zf))))<|>¬(vI^^^(0,uh rfl,zX zdO (pv 0) zf)))<|>¬(!pv 2)),(by unfold WJ;walk_at "re")⟩)
def XB (fu:Nat):TwS:=(zq (zH (zD (zv fu) [(za 0),(eC (.int 4))]) (gN 2)) (zq (sIf (bE (eOp ZR (za 2) (eC (.int 1)))) (zq (zH (zbJ [(eC (.str "pass")),(eC (.str "end")),(eC (.str "lost")),(eC (.str "set")),(eC (.str "hand")),(eC (.str "draw")),(eC (.str "if")),(eC (.str "gain")),(eC (.str "while")),(eC (.str "look")),(eC (.str "times")),(eC (.str "leaf")),(eC (.str "fork"))]) (gN 3)) (zq (zH (zD (zv fu) [(za 0),(eC (.int 13))]) (gN 4)) (zO (xh [gC,f7 3,f7 4] (iR1 (za 1)) (gN 0) yY (eOp Yk (za 1) (eOp Vt (eOp YK (za 2) (za 0)) (eC (.int 13)))))))) zN) (zq (zH (zD (vN fu) [(zD (zv fu) [(za 0),(eOp zi3 (eC (.int 26)) (eC (.int 8)))]),(eC (.int 8))]) (gN 5)) (zq (sIf (ziW (bE (eOp ZR (za 2) (eC (.int 2)))) (bE (eOp dLt (za 1) (eC (.int 9))))) (zO (xh [gC,f7 5] (iR1 (za 1)) (gN 0) yY (eSl zbL (za 1) oNo (WU (eOp YK (za 0) (eC (.int 1))))))) zN) (zq (zH (zD (zv fu) [(za 0),(eC (.int 1664))]) (gN 6)) (zq (zH (eOp YK (eC (.int 1)) (eOp Vt (za 6) (eC (.int 8)))) (gN 7)) (zq (zH (eOp Vt (eOp zaT (za 6) (eC (.int 8))) (za 7)) (gN 8)) (zO (xh [gC,f7 5,f7 7,f7 8,f7 6] (iR1 (za 1)) (gN 0) yY (eOp Tu (eOp Tu (eSl zbL (za 1) oNo (WU (za 3))) (zD (vN fu) [(eOp YK (eOp zaT (za 4) (eC (.int 64))) (za 0)),(eC (.int 1))])) (eSl zbL (za 1) (WU (eOp YK (za 3) (eC (.int 1)))) (WU (za 2)))))))))))))
def XC (fu:Nat):TwF:=zK 2 7 (XB fu)
theorem zcQ (T:Tx K mg):T.cy.Ok P w base 2 2 (XC fu):=
 okS T.cy.F xi rfl rfl (λhr=>⟨_,((xi^^^(2,uh rfl,T.af\(zE (fu:=fu) T,hr.mono ∅,zw,pv 0\(zf\zb))))<|>zU (yv (xJ (pv 2) zf)) ((xi^^^(3,A7 rfl,@Wk _ _ _ _ (zy\(zy\(zy\(zy\(zy\(zy\(zy\(zy\(zy\(zy\(zy\(zy\(zy\zb)))))))))))))))<|>(xi^^^(4,A7 rfl,T.af\(zE (fu:=fu) T,hr.mono ∅,zw,pv 0\(zf\zb))))<|>¬(!xA (N':=["_law_k","_law_some","_law_turn"]) rfl (blk (osc:=ze wN) rfl (by decide+kernel)) (yD (zL (i:=3) rfl rfl (zL (i:=4) rfl rfl yC))) (yu rfl T.aM (pv 1\zb)) (yf rfl) (λC s₀ H₀ fp=>zP (i:=0) (show (["_law_k","_law_some","_law_turn"]:List Str).Nodup from by decide+kernel) rfl (uh rfl)) (λC s₀ H₀ fp=>yB) (λC s₀ H₀ fp=>(yX (K:=K)%(pv 1,zX Yd (zX wB (pv 2) (pv 0)) zf))))) zt<|>(xi^^^(5,A7 rfl,T.cf\(zai (fu:=fu) T,hr.mono ∅,zw,(T.af\(zE (fu:=fu) T,hr.mono ∅,zw,pv 0\(zX zgo zf zf\zb)))\(zf\zb))))<|>zU (PW.pt (zdM (yv (xJ (pv 2) zf)) (zbd (yv (zjC (pv 1) zf))))) (¬(!xA (N':=["_law_k","_law_word_here"]) rfl (blk (osc:=ze wN) rfl (by decide+kernel)) (yD (zL (i:=5) rfl rfl yC)) (yu rfl T.aM (pv 1\zb)) (yf rfl) (λC s₀ H₀ fp=>zP (i:=0) (show (["_law_k","_law_word_here"]:List Str).Nodup from by decide+kernel) rfl (uh rfl)) (λC s₀ H₀ fp=>yB) (λC s₀ H₀ fp=>(XQ zgI (pv 1) Tf (Wl (zX wB (pv 0) zf)))))) zt<|>(xi^^^(6,A7 rfl,T.af\(zE (fu:=fu) T,hr.mono ∅,zw,pv 0\(zf\zb))))<|>(xi^^^(7,A7 rfl,zX wB zf (zX Yd (pv 6) zf)))<|>(xi^^^(8,A7 rfl,zX Yd (zX zdO (pv 6) zf) (pv 7)))<|>¬(!xA (N':=["_law_k","_law_word_here","_law_size","_law_at","_law_cell"]) rfl (blk (osc:=ze wN) rfl (by decide+kernel)) (yD (zL (i:=5) rfl rfl (zL (i:=7) rfl rfl (zL (i:=8) rfl rfl (zL (i:=6) rfl rfl yC))))) (yu rfl T.aM (pv 1\zb)) (yf rfl) (λC s₀ H₀ fp=>zP (i:=0) (show (["_law_k","_law_word_here","_law_size","_law_at","_law_cell"]:List Str).Nodup from by decide+kernel) rfl (uh rfl)) (λC s₀ H₀ fp=>yB) (λC s₀ H₀ fp=>(zX UK (zX UK (XQ zgI (pv 1) Tf (Wl (pv 3))) (T.cf\(zai (fu:=fu) T,hr.mono ∅,xW,zX wB (zX zdO (pv 4) zf) (pv 0)\(zf\zb)))) (XQ zgI (pv 1) (Wl (zX wB (pv 3) zf)) (Wl (pv 2))))))),(by unfold XB;walk_at "re")⟩)
def XD (fu:Nat):TwS:=(zq (zH (zD (zv fu) [(za 0),(eC (.int 40))]) (gN 2)) (zq (sIf (bE (eOp dGt (za 2) (eC (.int 9)))) (zH (eOp YK (eC (.int 1)) (eOp Vt (za 2) (eC (.int 3)))) (gN 2)) zN) (zq (zH (yz []) (gN 3)) (zq (zH (eC (.int 1)) (gN 4)) (zq (Ws (iL (zD (XC fu) [(za 0),(za 2)])) (gN 5) (zq (zH (eOp YK (eC (.int 1)) (zD (zv fu) [(za 0),(eC (.int 9))])) (gN 6)) (zq (sIf (ziW (bE (eOp dGt (za 2) (eC (.int 1)))) (bE (eOp dLt (za 1) (eC (.int 100))))) (zH (eOp YK (eC (.int 1)) (eOp Vt (za 6) (eC (.int 3)))) (gN 6)) zN) (zq (zH (eFn zoE [(za 6),(eOp zay (za 1) (za 4))]) (gN 6)) (zq (zH (eOp YV (za 3) (yz [(yz [(za 5),(za 6)])])) (gN 3)) (zH (eOp Tt (za 4) (za 6)) (gN 4))))))) (zO (za 3)))))))
def XE (fu:Nat):TwF:=zK 2 5 (XD fu)
theorem zcR (T:Tx K mg):T.cz.Ok P w base 3 2 (XE fu):=
 okS T.cz.F yw rfl rfl (λhr=>⟨_,((yw^^^(2,uh rfl,T.af\(zE (fu:=fu) T,hr.mono ∅,zw,pv 0\(zf\zb))))<|>zU (yv (zjD (pv 2) zf)) (¬(yw^^^(2,uh rfl,zX wB zf (zX Yd (pv 2) zf)))) zt<|>(yw^^^(3,uh rfl,~~~zb))<|>(yw^^^(4,uh rfl,zf))<|>wR PassesOwn.leaving rfl (Zr (K:=K) (T.cy\(zcQ (fu:=fu) T,hr.mono ∅,zw,pv 0\(pv 2\zb)))) (zP (i:=5) yw.nd rfl (uh rfl)) ((yw^^^(6,uh rfl,zX wB zf (T.af\(zE (fu:=fu) T,hr.mono ∅,zw,pv 0\(zf\zb)))))<|>zU (PW.pt (zdM (yv (zjD (pv 2) zf)) (zbd (yv (zjC (pv 1) zf))))) (¬(yw^^^(6,uh rfl,zX wB zf (zX Yd (pv 6) zf)))) zt<|>(yw^^^(6,uh rfl,zA (ziF rfl) rfl T.iu boot_min (pv 6\(zX zbE (pv 1) (pv 4)\zb))))<|>(yw^^^(3,uh rfl,zX (YS (K:=K)) (pv 3) (~~~((~~~(pv 5\(pv 6\zb)))\zb))))<|>¬(yw^^^(4,uh rfl,zX Uk (pv 4) (pv 6))))<|>¬(!pv 3)),(by unfold XD;walk_at "re")⟩)
def XF (fu:Nat):TwS:=(zO (eFn Xn [(xh [gC,f7 0] (iT (za 1)) (gN 0) yY (zD (zv fu) [(za 1),(eOp zM (za 0) (eC (.int 1)))]))]))
def XG (fu:Nat):TwF:=zK 2 0 (XF fu)
theorem zcS (T:Tx K mg):T.cx.Ok P w base 2 2 (XG fu):=
 okS T.cx.F zcL rfl rfl (λhr=>⟨_,(¬(!wM (vq (K:=K)) rfl T.cq boot_tuple (zx (xA (N':=["_law_box","_law_left"]) rfl (blk (osc:=ze ZU) rfl (by decide+kernel)) (yD (zL (i:=0) rfl rfl yC)) (Zj (K:=K) (pv 1)) (yf rfl) (λC s₀ H₀ fp=>zP (i:=0) (show (["_law_box","_law_left"]:List Str).Nodup from by decide+kernel) rfl (uh rfl)) (λC s₀ H₀ fp=>yB) (λC s₀ H₀ fp=>(T.af\(zE (fu:=fu) T,hr.mono ∅,xW,pv 1\((zi (K:=K)%(pv 0,zf))\zb))))) zb))),(by unfold XF;walk_at "re")⟩)
def ZF (fu:Nat):TwS:=(zq (zH (zD (zv fu) [(za 0),(eOp YK (eOp zmw (eC (.int 2)) (eFn wT [(za 1)])) (eC (.int 3)))]) (gN 2)) (zq (sIf (bE (eOp dGt (za 2) (eC (.int 2)))) (zO (eOp zM (eOp zM (za 1) (eOp Vt (za 2) (eFn wT [(za 1)]))) (eC (.int 0)))) zN) (zq (sIf (bE (eOp ZR (za 2) (eC (.int 2)))) (zO (zD (zv fu) [(za 0),(eOp zi3 (eC (.int 10)) (eC (.int 9)))])) zN) (zO (zD (zv fu) [(za 0),(eC (.int 10))])))))
def yW (fu:Nat):TwF:=zK 2 1 (ZF fu)
theorem wa (T:Tx K mg):T.aN.Ok P w base 2 2 (yW fu):=
 okS T.aN.F WY rfl rfl (λhr=>⟨_,((WY^^^(2,uh rfl,T.af\(zE (fu:=fu) T,hr.mono ∅,zw,pv 0\(zX wB (zX zob zf (zA (yj (K:=K)) rfl T.bH boot_len (pv 1\zb))) zf\zb))))<|>zU (yv (zjD (pv 2) zf)) (¬(!(zi (K:=K)%(zi (K:=K)%(pv 1,zX Yd (pv 2) (zA (yj (K:=K)) rfl T.bH boot_len (pv 1\zb))),zf)))) zt<|>zU (yv (xJ (pv 2) zf)) (¬(!(T.af\(zE (fu:=fu) T,hr.mono ∅,zw,pv 0\(zX zgo zf zf\zb))))) zt<|>¬(!(T.af\(zE (fu:=fu) T,hr.mono ∅,zw,pv 0\(zf\zb))))),(by unfold ZF;walk_at "re")⟩)
def WK (fu:Nat):TwS:=(zq (zH (zD (yW fu) [(za 0),(za 1)]) (gN 2)) (zq (zH (eOp zfm (eC (.str "=<#")) (zD (zv fu) [(za 0),(eC (.int 3))])) (gN 3)) (zO (yz [(za 2),(za 3),(zD (yW fu) [(za 0),(za 1)])]))))
def vO (fu:Nat):TwF:=zK 2 2 (WK fu)
theorem WL (T:Tx K mg):T.bS.Ok P w base 3 2 (vO fu):=
 okS T.bS.F WC rfl rfl (λhr=>⟨_,((WC^^^(2,uh rfl,T.aN\(wa (fu:=fu) T,hr.mono ∅,zw,pv 0\(pv 1\zb))))<|>(WC^^^(3,uh rfl,zdR%(zy,T.af\(zE (fu:=fu) T,hr.mono ∅,zw,pv 0\(zf\zb)))))<|>¬(!(~~~(pv 2\(pv 3\((T.aN\(wa (fu:=fu) T,hr.mono ∅,zw,pv 0\(pv 1\zb)))\zb)))))),(by unfold WK;walk_at "re")⟩)
def vP (fu:Nat):TwS:=(zq (zH (zD (zv fu) [(za 0),(eC (.int 6))]) (gN 3)) (zq (sIf (bE (eOp ZR (za 3) (eC (.int 5)))) (zO (yz [(za 2),(eC (.str "+")),(eOp YK (eC (.int 1)) (zD (zv fu) [(za 0),(eC (.int 8))]))])) zN) (zq (zH (zD (yW fu) [(za 0),(za 1)]) (gN 4)) (zq (sIf (bE (eOp ZR (za 3) (eC (.int 4)))) (zO (yz [(za 4),(eC (.str "-")),(za 2)])) zN) (zq (sIf (bE (eOp ZR (za 3) (eC (.int 0)))) (zO (yz [(za 4)])) zN) (zO (yz [(za 4),(eOp zfm (eC (.str " +-*")) (za 3)),(zD (yW fu) [(za 0),(za 1)])])))))))
def vQ (fu:Nat):TwF:=zK 3 2 (vP fu)
theorem zaj (T:Tx K mg):T.bL.Ok P w base 3 3 (vQ fu):=
 okS T.bL.F vJ rfl rfl (λhr=>⟨_,((vJ^^^(3,uh rfl,T.af\(zE (fu:=fu) T,hr.mono ∅,zw,pv 0\(zf\zb))))<|>zU (yv (xJ (pv 3) zf)) (¬(!(~~~(pv 2\(zy\(zX wB zf (T.af\(zE (fu:=fu) T,hr.mono ∅,zw,pv 0\(zf\zb)))\zb)))))) zt<|>(vJ^^^(4,uh rfl,T.aN\(wa (fu:=fu) T,hr.mono ∅,zw,pv 0\(pv 1\zb))))<|>zU (yv (xJ (pv 3) zf)) (¬(!(~~~(pv 4\(zy\(pv 2\zb)))))) zt<|>zU (yv (xJ (pv 3) zf)) (¬(!(~~~(pv 4\zb)))) zt<|>¬(!(~~~(pv 4\((zdR%(zy,pv 3))\((T.aN\(wa (fu:=fu) T,hr.mono ∅,zw,pv 0\(pv 1\zb)))\zb)))))),(by unfold vP;walk_at "re")⟩)
def ZG (fu:Nat):TwS:=(zq (zH (eC (.int 4)) (gN 2)) (zq (sIf (bE (eOp ZR (zD (zv fu) [(za 0),(eC (.int 4))]) (eC (.int 1)))) (zH (eOp zi3 (eC (.int 10)) (eC (.int 9))) (gN 2)) zN) (zq (zH (xh [gC,f7 0,f7 2] (iR1 (za 1)) (gN 0) yY (zD (zv fu) [(za 1),(za 2)])) (gN 3)) (zq (zH (zD (zv fu) [(za 0),(za 1)]) (gN 4)) (zq (zH (eFn zoF [(eC (.int 1)),(eOp Yk (za 3) (za 4))]) (zbP (za 3) (za 4))) (zO (eFn Xn [(za 3)])))))))
def ZH (fu:Nat):TwF:=zK 2 3 (ZG fu)
theorem za9 (T:Tx K mg):T.bW.Ok P w base 2 2 (ZH fu):=
 okS T.bW.F xY rfl rfl (λhr=>⟨_,((xY^^^(2,A7 rfl,zf))<|>zU (yv (xJ (T.af\(zE (fu:=fu) T,hr.mono ∅,zw,pv 0\(zf\zb))) zf)) (¬(xY^^^(2,A7 rfl,zX zgo zf zf))) zt<|>vY (i:=3) (N':=["_law_k","_law_left","_law_most"]) rfl (blk (osc:=ze vH) rfl (by decide+kernel)) (yD (zL (i:=0) rfl rfl (zL (i:=2) rfl rfl yC))) (yu rfl T.aM (pv 1\zb)) (yf rfl) (λC s₀ H₀ fp=>zP (i:=0) (show (["_law_k","_law_left","_law_most"]:List Str).Nodup from by decide+kernel) rfl (uh rfl)) (λC s₀ H₀ fp=>yB) (λC s₀ H₀ fp=>(T.af\(zE (fu:=fu) T,hr.mono ∅,xW,pv 1\(pv 2\zb)))) xY.nd rfl rfl<|>(xY^^^(4,uh rfl,T.af\(zE (fu:=fu) T,hr.mono ∅,zw,pv 0\(pv 1\zb))))<|>zgk (zA (ziE rfl) rfl T.jn boot_max (zf\((yX (K:=K)%(pv 3,pv 4))\zb))) (zgj (pv 3) (pv 4) zbx)<|>¬(!wM (vq (K:=K)) rfl T.cq boot_tuple (pv 3\zb))),(by unfold ZG;walk_at "re")⟩)
def YG (fu:Nat):TwS:=(zq (sIf (bE (eOp (xB kb) (za 2) (eC (.str "gain")))) (zO (yz [(eC (.str "gain")),(zD (yW fu) [(za 0),(za 1)])])) zN) (zq (sIf (bE (eOp (xB kb) (za 2) (eC (.str "look")))) (zO (yz [(eC (.str "look")),(zD (vO fu) [(za 0),(za 1)])])) zN) (zq (sIf (bOr (bE (eOp ZR (eFn wT [(za 1)]) (eC (.int 0)))) (bE (eOp (xB kb) (za 2) (eC (.str "pass"))))) (zO (yz [(eC (.str "pass"))])) zN) (zq (zH (eOp zM (za 1) (zD (zv fu) [(za 0),(eFn wT [(za 1)])])) (gN 3)) (zq (sIf (bE (eOp (xB kb) (za 2) (eC (.str "set")))) (zO (yz [(eC (.str "set")),(eOp zM (za 3) (eC (.int 0))),(zD (vQ fu) [(za 0),(za 1),(eOp zM (za 3) (eC (.int 0)))])])) zN) (zO (yz [(eC (.str "draw")),(eOp zM (za 3) (eC (.int 0))),(zD (ZH fu) [(za 0),(eOp zM (za 3) (eC (.int 1)))])])))))))
def vR (fu:Nat):TwF:=zK 3 1 (YG fu)
theorem Ua (T:Tx K mg):T.bN.Ok P w base 4 3 (vR fu):=
 okS T.bN.F VI rfl rfl (λhr=>⟨_,(zU (yn xg (pv 2) zy (by rfl)) (¬(!(~~~(zy\((T.aN\(wa (fu:=fu) T,hr.mono ∅,zw,pv 0\(pv 1\zb)))\zb))))) zt<|>zU (yn xg (pv 2) zy (by rfl)) (¬(!(~~~(zy\((T.bS\(WL (fu:=fu) T,hr.mono ∅,zw,pv 0\(pv 1\zb)))\zb))))) zt<|>zU (PW.pt (zhD (yv (xJ (zA (yj (K:=K)) rfl T.bH boot_len (pv 1\zb)) zf)) (zdL (yn xg (pv 2) zy (by rfl))))) (¬(!(~~~(zy\zb)))) zt<|>(VI^^^(3,uh rfl,zi (K:=K)%(pv 1,T.af\(zE (fu:=fu) T,hr.mono ∅,zw,pv 0\(zA (yj (K:=K)) rfl T.bH boot_len (pv 1\zb)\zb)))))<|>zU (yn xg (pv 2) zy (by rfl)) (¬(!(~~~(zy\((zi (K:=K)%(pv 3,zf))\((T.bL\(zaj (fu:=fu) T,hr.mono ∅,zw,pv 0\(pv 1\((zi (K:=K)%(pv 3,zf))\zb))))\zb)))))) zt<|>¬(!(~~~(zy\((zi (K:=K)%(pv 3,zf))\((T.bW\(za9 (fu:=fu) T,hr.mono ∅,zw,pv 0\((zi (K:=K)%(pv 3,zf))\zb)))\zb)))))),(by unfold YG;walk_at "re")⟩)
def XH (fu:Nat):TwS:=(zq (Ws (iR1 (eFn wT [(za 0)])) (gN 3) (sIf (bE (eOp (xB kb) (eOp zM (eOp zM (za 0) (za 3)) (eC (.int 0))) (za 2))) (zO (eOp zM (za 1) (za 3))) zN)) (zO (za 2)))
def wX (fu:Nat):TwF:=zK 3 1 (XH fu)
theorem XI (T:Tx K mg):T.bK.Ok P w base 1 3 (wX fu):=
 okS T.bK.F UF rfl rfl (λhr=>⟨_,(wR PassesOwn.leaving rfl (yu rfl T.aM (zA (yj (K:=K)) rfl T.bH boot_len (pv 0\zb)\zb)) (zP (i:=3) UF.nd rfl (uh rfl)) (¬zU (yn xg (zi (K:=K)%(zi (K:=K)%(pv 0,pv 3),zf)) (pv 2) (by rfl)) (¬(!(zi (K:=K)%(pv 1,pv 3)))) zt)<|>¬(!pv 2)),(by unfold XH;walk_at "re")⟩)
def Ub (fu:Nat):TwS:=(zq (zH (eFn zh3 [(za 1)]) (gN 4)) (zq (Ws (iR1 (eFn wT [(za 0)])) (gN 5) (sIf (bE (eOp (xB kb) (eOp zM (eOp zM (za 0) (za 5)) (eC (.int 0))) (za 2))) (zH (eOp Vt (za 3) (eOp zM (eOp zM (za 0) (za 5)) (eC (.int 1)))) (zbP (za 4) (za 5))) zN)) (zO (eFn Xn [(za 4)]))))
def Xf (fu:Nat):TwF:=zK 4 2 (Ub fu)
theorem zfU (T:Tx K mg):T.cU.Ok P w base 1 4 (Xf fu):=
 okS T.cU.F VJ rfl rfl (λhr=>⟨_,((VJ^^^(4,uh rfl,wM (zgH (K:=K)) rfl T.eM boot_list (pv 1\zb)))<|>wR PassesOwn.leaving rfl (yu rfl T.aM (zA (yj (K:=K)) rfl T.bH boot_len (pv 0\zb)\zb)) (zP (i:=5) VJ.nd rfl (uh rfl)) (¬zU (yn xg (zi (K:=K)%(zi (K:=K)%(pv 0,pv 5),zf)) (pv 2) (by rfl)) (¬zgk (zX Yd (pv 3) (zi (K:=K)%(zi (K:=K)%(pv 0,pv 5),zf))) (zgj (pv 4) (pv 5) zbx)) zt)<|>¬(!wM (vq (K:=K)) rfl T.cq boot_tuple (pv 4\zb))),(by unfold Ub;walk_at "re")⟩)
def Uc (fu:Nat):TwS:=(zq (zH (zD (wX fu) [(za 0),(za 1),(eOp zM (eOp zM (za 2) (eC (.int 2))) (eC (.int 0)))]) (gN 3)) (zq (sIf (bE (eOp ZR (eFn wT [(eOp zM (za 2) (eC (.int 2)))]) (eC (.int 3)))) (zq (zH (zD (wX fu) [(za 0),(za 1),(eOp zM (eOp zM (za 2) (eC (.int 2))) (eC (.int 2)))]) (gN 4)) (zq (sIf (bE (eOp (xB kb) (eOp zM (eOp zM (za 2) (eC (.int 2))) (eC (.int 1))) (eC (.str "+")))) (zH (eOp YK (za 3) (za 4)) (gN 3)) zN) (zq (sIf (bE (eOp (xB kb) (eOp zM (eOp zM (za 2) (eC (.int 2))) (eC (.int 1))) (eC (.str "-")))) (zH (eOp zkJ (za 3) (za 4)) (gN 3)) zN) (sIf (bE (eOp (xB kb) (eOp zM (eOp zM (za 2) (eC (.int 2))) (eC (.int 1))) (eC (.str "*")))) (zH (eOp Tt (za 3) (za 4)) (gN 3)) zN)))) zN) (zO (zD (Xf fu) [(za 0),(za 1),(eOp zM (za 2) (eC (.int 1))),(za 3)]))))
def Xg (fu:Nat):TwF:=zK 3 2 (Uc fu)
theorem zfV (T:Tx K mg):T.cT.Ok P w base 2 3 (Xg fu):=
 okS T.cT.F vt rfl rfl (λhr=>⟨_,((vt^^^(3,uh rfl,T.bK\(XI (fu:=fu) T,hr.mono ∅,zw,pv 0\(pv 1\((zi (K:=K)%(zi (K:=K)%(pv 2,zf),zf))\zb)))))<|>zU (yv (xJ (zA (yj (K:=K)) rfl T.bH boot_len ((zi (K:=K)%(pv 2,zf))\zb)) zf)) ((vt^^^(4,uh rfl,T.bK\(XI (fu:=fu) T,hr.mono ∅,zw,pv 0\(pv 1\((zi (K:=K)%(zi (K:=K)%(pv 2,zf),zf))\zb)))))<|>zU (yn xg (zi (K:=K)%(zi (K:=K)%(pv 2,zf),zf)) zy (by rfl)) (¬(vt^^^(3,uh rfl,zX wB (pv 3) (pv 4)))) zt<|>zU (yn xg (zi (K:=K)%(zi (K:=K)%(pv 2,zf),zf)) zy (by rfl)) (¬(vt^^^(3,uh rfl,zX zgn (pv 3) (pv 4)))) zt<|>¬zU (yn xg (zi (K:=K)%(zi (K:=K)%(pv 2,zf),zf)) zy (by rfl)) (¬(vt^^^(3,uh rfl,zX Uk (pv 3) (pv 4)))) zt) zt<|>¬(!(T.cU\(zfU (fu:=fu) T,hr.mono ∅,zw,pv 0\(pv 1\((zi (K:=K)%(pv 2,zf))\(pv 3\zb))))))),(by unfold Uc;walk_at "re")⟩)
def wP (fu:Nat) (dW:TwF):TwS:=(zq (sIf (bE (eUn (UO "tuple") (za 1))) (zq (sIf (bOr (Tp (bE (eUn (UO "tuple") (za 0)))) (bE (eOp zi4 (eFn wT [(za 0)]) (eFn wT [(za 1)])))) (zO (eC (.bl kb))) zN) (zO (eFn zea [(xh [gC,f7 0,f7 1] (iR1 (eFn wT [(za 1)])) (gN 0) yY (zD dW [(eOp zfn (za 1) (za 0)),(eOp zfn (za 2) (za 0))]))]))) zN) (zq (sIf (bE (eUn (UO "list") (za 1))) (zq (sIf (bOr (Tp (bE (eUn (UO "list") (za 0)))) (bE (eOp zi4 (eFn wT [(za 0)]) (eFn wT [(za 1)])))) (zO (eC (.bl kb))) zN) (zO (eFn zea [(xh [gC,f7 0,f7 1] (iR1 (eFn wT [(za 1)])) (gN 0) yY (zD dW [(eOp zfn (za 1) (za 0)),(eOp zfn (za 2) (za 0))]))]))) zN) (zq (sIf (bE (eUn zgR (za 1))) (zO (eUn zgR (za 0))) zN) (zq (sIf (bE (eUn (UO "str") (za 1))) (zO (ziX (eUn (UO "str") (za 0)) (eOp (xB kb) (za 0) (za 1)))) zN) (zO (ziX (eUn (UO "int") (za 0)) (ziX (eB (Tp (bE (eUn (UO "bool") (za 0))))) (eOp (xB kb) (za 0) (za 1)))))))))
def yP (fu:Nat):Nat->TwF
 |0=>λ_ _=>gC
 |n+1=>zK 2 0 (wP fu (yP fu n))
theorem ww (fu n:Nat):yP fu (n+1)=zK 2 0 (wP fu (yP fu n)):=by rfl
theorem zak (fu:Nat):yP fu 0=λ_ _=>gC:=by rfl
theorem zcT (T:Tx K mg):∀n:Nat,T.bJ.Ok P w base (0+n) 2 (yP fu n):=by
 intro n
 induction n with
 |zero=>
  skip
  .rw[zak];exact YU
 |succ n ih=>
  .rw[ww];exact okS T.bJ.F zex rfl rfl (λhr=>⟨_,(zU (vw (zA (xj (K:=K)) rfl T.au boot_isinstance (zx (pv 1) (zx (wY (v:= .ty "tuple") rfl T.cq boot_tuple rfl) zb)))) (zU (PW.pt (zhD (zar (vw (zA (xj (K:=K)) rfl T.au boot_isinstance (zx (pv 0) (zx (wY (v:= .ty "tuple") rfl T.cq boot_tuple rfl) zb))))) (zdL (yv (zge (zA (yj (K:=K)) rfl T.bH boot_len (pv 0\zb)) (zA (yj (K:=K)) rfl T.bH boot_len (pv 1\zb))))))) (¬(!zaM)) zt<|>¬(!zA (Ul (K:=K) rfl) rfl T.fJ PyProof.Rows.Boot.«all» (zx (xA (N':=["_law_k","_law_found","_law_due_here"]) rfl (blk (osc:=ze Zt) rfl (by decide+kernel)) (yD (zL (i:=0) rfl rfl (zL (i:=1) rfl rfl yC))) (yu rfl T.aM (zA (yj (K:=K)) rfl T.bH boot_len (pv 1\zb)\zb)) (yf rfl) (λC s₀ H₀ fp=>zP (i:=0) (show (["_law_k","_law_found","_law_due_here"]:List Str).Nodup from by decide+kernel) rfl (uh rfl)) (λC s₀ H₀ fp=>yB) (λC s₀ H₀ fp=>(T.bJ\(ih,hr.mono (by walk_at "q2"),xW,(zbk (K:=K)%(pv 1,pv 0))\((zbk (K:=K)%(pv 2,pv 0))\zb))))) zb))) zt<|>zU (vw (zA (xj (K:=K)) rfl T.au boot_isinstance (zx (pv 1) (zx (wY (v:= .ty "list") rfl T.eM boot_list rfl) zb)))) (zU (PW.pt (zhD (zar (vw (zA (xj (K:=K)) rfl T.au boot_isinstance (zx (pv 0) (zx (wY (v:= .ty "list") rfl T.eM boot_list rfl) zb))))) (zdL (yv (zge (zA (yj (K:=K)) rfl T.bH boot_len (pv 0\zb)) (zA (yj (K:=K)) rfl T.bH boot_len (pv 1\zb))))))) (¬(!zaM)) zt<|>¬(!zA (Ul (K:=K) rfl) rfl T.fJ PyProof.Rows.Boot.«all» (zx (xA (N':=["_law_k","_law_found","_law_due_here"]) rfl (blk (osc:=ze Zt) rfl (by decide+kernel)) (yD (zL (i:=0) rfl rfl (zL (i:=1) rfl rfl yC))) (yu rfl T.aM (zA (yj (K:=K)) rfl T.bH boot_len (pv 1\zb)\zb)) (yf rfl) (λC s₀ H₀ fp=>zP (i:=0) (show (["_law_k","_law_found","_law_due_here"]:List Str).Nodup from by decide+kernel) rfl (uh rfl)) (λC s₀ H₀ fp=>yB) (λC s₀ H₀ fp=>(T.bJ\(ih,hr.mono (by walk_at "q2"),xW,(zbk (K:=K)%(pv 1,pv 0))\((zbk (K:=K)%(pv 2,pv 0))\zb))))) zb))) zt<|>zU (yv (zgf (pv 1))) (¬(!zgg (zgf (pv 0)))) zt<|>zU (vw (zA (xj (K:=K)) rfl T.au boot_isinstance (zx (pv 1) (zx (wY (v:= .ty "str") rfl T.gD boot_str rfl) zb)))) (¬(!zdN (zA (xj (K:=K)) rfl T.au boot_isinstance (zx (pv 0) (zx (wY (v:= .ty "str") rfl T.gD boot_str rfl) zb))) (zgh (Wi xg (pv 0) (pv 1) (by rfl))))) zt<|>¬(!zdN (zA (xj (K:=K)) rfl T.au boot_isinstance (zx (pv 0) (zx (wY (v:= .ty "int") rfl T.fI boot_int rfl) zb))) (zdN (zgi (zA (xj (K:=K)) rfl T.au boot_isinstance (zx (pv 0) (zx (wY (v:= .ty "bool") rfl T.gp boot_bool rfl) zb)))) (zgh (Wi xg (pv 0) (pv 1) (by rfl)))))),(by unfold wP;walk_at "re")⟩)
theorem zeC (T:Tx K mg) (n:Nat):T.bJ.Ok P w base (0+n) 2 (yP fu n):=(zcT T n)
def XJ (fu:Nat):TwS:=(zO (ziX (eUn (UO "int") (za 0)) (eB (Tp (bE (eUn (UO "bool") (za 0)))))))
def XL (fu:Nat):TwF:=zK 1 0 (XJ fu)
theorem zcU (T:Tx K mg):T.cw.Ok P w base 1 1 (XL fu):=
 okS T.cw.F zcM rfl rfl (λhr=>⟨_,(¬(!zdN (zA (xj (K:=K)) rfl T.au boot_isinstance (zx (pv 0) (zx (wY (v:= .ty "int") rfl T.fI boot_int rfl) zb))) (zgh (zgi (zA (xj (K:=K)) rfl T.au boot_isinstance (zx (pv 0) (zx (wY (v:= .ty "bool") rfl T.gp boot_bool rfl) zb))))))),(by unfold XJ;walk_at "re")⟩)
def YH (fu:Nat):TwS:=(zq (zH (zbJ [(yz [])]) (gN 1)) (zq (Ws (iT (za 0)) (gN 2) (zq (zH (zbJ []) (gN 3)) (zq (Ws (iL (za 1)) (gN 4) (zbN (eMt YT (za 3) [(xh [gC,f7 4] (iR1 (eOp zM (za 2) (eC (.int 1)))) (gN 0) yY (eOp YV (za 1) (yz [(za 0)])))]))) (zH (za 3) (gN 1))))) (zO (za 1))))
def wI (fu:Nat):TwF:=zK 1 4 (YH fu)
theorem YI (T:Tx K mg):T.bD.Ok P w base 1 1 (wI fu):=
 okS T.bD.F xQ rfl rfl (λhr=>⟨_,((xQ^^^(1,uh rfl,@Wk _ _ _ _ ((~~~zb)\zb)))<|>wR PassesOwn.leaving rfl (Zj (K:=K) (pv 0)) (zP (i:=2) xQ.nd rfl (uh rfl)) ((xQ^^^(3,uh rfl,@Wk _ _ _ _ zb))<|>wR PassesOwn.leaving rfl (Zr (K:=K) (pv 1)) (zP (i:=4) xQ.nd rfl (A7 rfl)) (¬Td (zc3 z9 C6 C7 (zbG (K:=K)) (pv 3) (zx (xA (N':=["_law_number","_law_state_here"]) rfl (blk (osc:=ze Zm) rfl (by decide+kernel)) (yD (zL (i:=4) rfl rfl yC)) (yu rfl T.aM ((zi (K:=K)%(pv 2,zf))\zb)) (yf rfl) (λC s₀ H₀ fp=>zP (i:=0) (show (["_law_number","_law_state_here"]:List Str).Nodup from by decide+kernel) rfl (uh rfl)) (λC s₀ H₀ fp=>yB) (λC s₀ H₀ fp=>(zX (YS (K:=K)) (pv 1) (~~~(pv 0\zb))))) zb)))<|>¬(xQ^^^(1,uh rfl,pv 3)))<|>¬(!pv 1)),(by unfold YH;walk_at "re")⟩)
def WM (fu:Nat):TwS:=(zq (zH (zD (vR fu) [(za 0),(za 1),(eOp Yk (zbJ [(eC (.str "pass")),(eC (.str "set")),(eC (.str "gain")),(eC (.str "draw"))]) (zD (zv fu) [(za 0),(eC (.int 4))]))]) (gN 2)) (zq (zH (yz [(eC (.str "while")),(zD (vO fu) [(za 0),(za 1)]),(eOp Yk (zbJ [(yz []),(yz [(za 2)])]) (zD (zv fu) [(za 0),(eC (.int 2))]))]) (gN 3)) (zq (Ws (iR1 (zD (zv fu) [(za 0),(eC (.int 3))])) (gN 4) (zq (zH (zD (zv fu) [(za 0),(eC (.int 5))]) (gN 5)) (zq (zH (zD (vO fu) [(za 0),(za 1)]) (gN 6)) (zq (sIf (bE (eOp ZR (za 5) (eC (.int 0)))) (zH (yz [(eC (.str "times")),(zD (zv fu) [(za 0),(eC (.int 3))]),(yz [(za 3),(yz [(eC (.str "pass"))])])]) (gN 3)) zN) (zq (sIf (bE (eOp ZR (za 5) (eC (.int 1)))) (zH (yz [(eC (.str "if")),(za 6),(yz [(yz [(eC (.str "pass"))])]),(yz [(za 3)])]) (gN 3)) zN) (zq (sIf (bE (eOp ZR (za 5) (eC (.int 2)))) (zH (yz [(eC (.str "if")),(za 6),(yz [(za 3)]),(yz [])]) (gN 3)) zN) (zq (sIf (bE (eOp ZR (za 5) (eC (.int 3)))) (zH (yz [(eC (.str "hand")),(yz [(yz []),(yz [(yz [(eC (.str "pass"))]),(za 3)])])]) (gN 3)) zN) (sIf (bE (eOp ZR (za 5) (eC (.int 4)))) (zH (yz [(eC (.str "while")),(za 6),(yz [(za 3)])]) (gN 3)) zN)))))))) (zO (za 3)))))
def WN (fu:Nat):TwF:=zK 2 5 (WM fu)
theorem zeD (T:Tx K mg):T.cI.Ok P w base 5 2 (WN fu):=
 okS T.cI.F yE rfl rfl (λhr=>⟨_,((yE^^^(2,uh rfl,T.bN\(Ua (fu:=fu) T,hr.mono ∅,zw,pv 0\(pv 1\((yX (K:=K)%(@Wk _ _ _ _ (zy\(zy\(zy\(zy\zb)))),T.af\(zE (fu:=fu) T,hr.mono ∅,zw,pv 0\(zf\zb))))\zb)))))<|>(yE^^^(3,uh rfl,~~~(zy\((T.bS\(WL (fu:=fu) T,hr.mono ∅,zw,pv 0\(pv 1\zb)))\((yX (K:=K)%(@Wk _ _ _ _ ((~~~zb)\((~~~(pv 2\zb))\zb)),T.af\(zE (fu:=fu) T,hr.mono ∅,zw,pv 0\(zf\zb))))\zb)))))<|>wR PassesOwn.leaving rfl (yu rfl T.aM ((T.af\(zE (fu:=fu) T,hr.mono ∅,zw,pv 0\(zf\zb)))\zb)) (zP (i:=4) yE.nd rfl (uh rfl)) ((yE^^^(5,uh rfl,T.af\(zE (fu:=fu) T,hr.mono ∅,zw,pv 0\(zf\zb))))<|>(yE^^^(6,uh rfl,T.bS\(WL (fu:=fu) T,hr.mono ∅,zw,pv 0\(pv 1\zb))))<|>zU (yv (xJ (pv 5) zf)) (¬(yE^^^(3,uh rfl,~~~(zy\((T.af\(zE (fu:=fu) T,hr.mono ∅,zw,pv 0\(zf\zb)))\((~~~(pv 3\((~~~(zy\zb))\zb)))\zb)))))) zt<|>zU (yv (xJ (pv 5) zf)) (¬(yE^^^(3,uh rfl,~~~(zy\(pv 6\((~~~((~~~(zy\zb))\zb))\((~~~(pv 3\zb))\zb))))))) zt<|>zU (yv (xJ (pv 5) zf)) (¬(yE^^^(3,uh rfl,~~~(zy\(pv 6\((~~~(pv 3\zb))\((~~~zb)\zb))))))) zt<|>zU (yv (xJ (pv 5) zf)) (¬(yE^^^(3,uh rfl,~~~(zy\((~~~((~~~zb)\((~~~((~~~(zy\zb))\(pv 3\zb)))\zb)))\zb))))) zt<|>¬zU (yv (xJ (pv 5) zf)) (¬(yE^^^(3,uh rfl,~~~(zy\(pv 6\((~~~(pv 3\zb))\zb)))))) zt)<|>¬(!pv 3)),(by unfold WM;walk_at "re")⟩)
def Vc (fu:Nat):TwS:=(zq (zH (yz []) (gN 4)) (zq (zlc 5 gC (wO fu) [0,1,2,3] ["NoBound"] (zq (zH (eUn (za4 (Yp [("NoBound",kb)])) (za 5)) (gN 6)) (zH (yz [(eUn (za4 (Yp [("NoBound",ia)])) (za 5)),(eUn (za4 (Yp [("NoBound",ia)])) (za 5)),(za 6)]) (gN 4)))) (zO (eOp (zg7 kb) (za 4) (yz [(eC (.bl ia)),(eC (.bl ia)),(eC (.bl kb))])))))
def vg (fu:Nat):TwF:=zK 4 3 (Vc fu)
theorem zba (T:Tx K mg):T.bY.Ok P w base 40 4 (vg fu):=
 okS T.bY.F xZ rfl rfl (λhr=>⟨_,((xZ^^^(4,uh rfl,~~~zb))<|>zj9 (i:=5) (zj7 (zj5 (zaf (fu:=fu) T) (hr.mono ∅) rfl T.bI.m T.bI.F.kp T.bI.b .nil (Tk (zdZ (pv 0)) (Tk (zdZ (pv 1)) (Tk (zdZ (pv 2)) (Tk (zdZ (pv 3)) zmj)))))) rfl rfl rfl (λe=>zgE rfl T.dZ) xZ.nd rfl rfl (λe=>((xZ^^^(6,uh rfl,zA (zgG (K:=K)) rfl T.au boot_isinstance (zx (pv 5) (zx (~~~(zx (ZO (v:= .ref T.aK) rfl T.eO rfl) (zx (ZO (v:= .ref T.bq) rfl T.fL rfl) (zx (ZO (v:= .ref T.aC) rfl T.dY rfl) (zx (ZO (v:= .ref T.aX) rfl T.eV rfl) (zx (ZO (v:= .ref T.aL) rfl T.eP rfl) (zx (ZO (v:= .ref T.aJ) rfl T.eN rfl) zb))))))) zb))))<|>¬(xZ^^^(4,uh rfl,~~~(zA (xj (K:=K)) rfl T.au boot_isinstance (zx (pv 5) (zx (ZO (v:= .ref T.aq) rfl T.eW rfl) zb))\(zA (xj (K:=K)) rfl T.au boot_isinstance (zx (pv 5) (zx (wY (v:= .ty "ValueError") rfl T.dH PyProof.Rows.Boot.«ValueError» rfl) zb))\(pv 6\zb)))))))<|>¬(!Wi (zg3 (K:=K) hr) (pv 4) (~~~(zaM\(zaM\(zaM\zb)))) (by rfl))),(xK (vB (Yj yg) xc) (xK (zoZ (zaU.cons T.bZ (zoq T.cg T.e8.hc T.cE T.bg) zaU.nil) (zbl 0 (zbl 1 (zbl 2 (zbl 3 zmJ)))) (.inr ⟨rfl,rfl⟩) (xK (vB (zmL (XU (.ref T.aK) (XU (.ref T.bq) (XU (.ref T.aC) (XU (.ref T.aX) (XU (.ref T.aL) (XU (.ref T.aJ) zmK)))))) rfl (show (6:Nat)<=100 by decide) (Vw.cons T.bZ T.cL (XV (Wq T.eR.hc T.cO T.aZ (zdp T.ao T.aZ)) (XV (Wq T.fN.hc T.dG T.bh (zdp T.ao T.bh)) (XV (Wq T.e7.hc T.cD T.aW (zdp T.ao T.aW)) (XV (Wq T.eX.hc T.dc T.b9 (zdp T.ao T.b9)) (XV (Wq T.eS.hc T.cQ T.b0 (zdp T.ao T.b0)) (XV (Wq T.eQ.hc T.cN T.aY (zdp T.ao T.aY)) zhd)))))) Vw.nil) (zk 5)) xc) (vB (Yj (zm (zld rfl (UC.cons T.bZ T.cL (Wq T.cL.hc T.de T.ao (λ_=>rfl)) UC.nil) (zk 5)) (zm (zld rfl (UC.cons T.bZ T.cL (zmM T.da) UC.nil) (zk 5)) (zm (zk 6) yg)))) xc))) (vC (wm zg9 (zk 4) (Yj (zm (zhV _) (zm (zhV _) (zm (zhV _) yg))))))))⟩)
def Ud (fu:Nat):TwS:=(zq (zH (eC (.int 0)) (gN 5)) (zq (Ws (iT (za 1)) (gN 6) (zq (sIf (ziW (bE (eOp (xB kb) (eOp zM (za 6) (eC (.int 0))) (eC (.str "gain")))) (bE (za 4))) (zH (eOp YK (za 5) (zD (wX fu) [(za 0),(za 2),(eOp zM (za 6) (eC (.int 1)))])) (gN 5)) zN) (sIf (bE (eOp (xB kb) (eOp zM (za 6) (eC (.int 0))) (eC (.str "set")))) (zH (zD (Xg fu) [(za 0),(za 2),(za 6)]) (gN 2)) zN))) (zO (yz [(eOp YK (za 5) (eFn zdq [(eOp (zg7 kb) (za 2) (za 3))])),(eC (.int 1))]))))
def Ue (fu:Nat):TwF:=zK 5 2 (Ud fu)
theorem zfW (T:Tx K mg):T.cV.Ok P w base 3 5 (Ue fu):=
 okS T.cV.F Zu rfl rfl (λhr=>⟨_,((Zu^^^(5,uh rfl,zf))<|>wR PassesOwn.leaving rfl (Zj (K:=K) (pv 1)) (zP (i:=6) Zu.nd rfl (uh rfl)) (zU (PW.pt (zdM (yn xg (zi (K:=K)%(pv 6,zf)) zy (by rfl)) (zbd (vw (pv 4))))) (¬(Zu^^^(5,uh rfl,zX wB (pv 5) (T.bK\(XI (fu:=fu) T,hr.mono ∅,zw,pv 0\(pv 2\((zi (K:=K)%(pv 6,zf))\zb))))))) zt<|>¬zU (yn xg (zi (K:=K)%(pv 6,zf)) zy (by rfl)) (¬(Zu^^^(2,uh rfl,T.cT\(zfV (fu:=fu) T,hr.mono ∅,zw,pv 0\(pv 2\(pv 6\zb)))))) zt)<|>¬(!(~~~(zX wB (pv 5) (wM zcY rfl T.fI boot_int (Wi (zg3 (K:=K) hr) (pv 2) (pv 3) (by rfl)\zb))\(zf\zb))))),(by unfold Ud;walk_at "re")⟩)
def XM (fu:Nat):TwS:=(zq (zH (zD (wI fu) [(za 1)]) (gN 4)) (zq (sIf (Tp (bE (zD (XL fu) [(za 2)]))) (zO (eC (.bl kb))) zN) (zO (eFn zea [(xh [gC,f7 2,f7 3,f7 0,f7 4] (iR1 (eFn wT [(za 4)])) (gN 0) yY (zD (yP fu 10) [(yp "Store" "value_at" (vM fu) (za 3) [(za 1),(eOp Yk (za 4) (za 0))]),(eOp Yk (za 2) (za 0))]))]))))
def wg (fu:Nat):TwF:=zK 4 1 (XM fu)
theorem UI (T:Tx K mg):T.bX.Ok P w base 11 4 (wg fu):=
 okS T.bX.F UG rfl rfl (λhr=>⟨_,((UG^^^(4,A7 rfl,T.bD\(YI (fu:=fu) T,hr.mono ∅,zw,pv 1\zb)))<|>zU (zar (vw (T.cw\(zcU (fu:=fu) T,hr.mono ∅,zw,pv 2\zb)))) (¬(!zaM)) zt<|>¬(!zA (Ul (K:=K) rfl) rfl T.fJ PyProof.Rows.Boot.«all» (zx (xA (N':=["_law_k","_law_node","_law_dues","_law_store","_law_states_here"]) rfl (blk (osc:=ze ZV) rfl (by decide+kernel)) (yD (zL (i:=2) rfl rfl (zL (i:=3) rfl rfl (zL (i:=0) rfl rfl (zL (i:=4) rfl rfl yC))))) (yu rfl T.aM (zA (yj (K:=K)) rfl T.bH boot_len (pv 4\zb)\zb)) (yf rfl) (λC s₀ H₀ fp=>zP (i:=0) (show (["_law_k","_law_node","_law_dues","_law_store","_law_states_here"]:List Str).Nodup from by decide+kernel) rfl (uh rfl)) (λC s₀ H₀ fp=>yB) (λC s₀ H₀ fp=>(T.bJ\(zeC (fu:=fu) T 10,hr.mono ∅,xW,zQ (pv 3) T.a9 T.bo.mt (zah (fu:=fu) T) (hr.mono ∅) T.bo.b .nil xW (pv 1\((yX (K:=K)%(pv 4,pv 0))\zb))\((yX (K:=K)%(pv 2,pv 0))\zb))))) zb))),(by unfold XM;walk_at "re")⟩)
def zhn (fu:Nat):TwS:=(zq (zH (eUn Vu (eSl zgS (za 0) oNo (WU (eC (.int 200))))) (gN 1)) (zq (zH (zD (XE fu) [(za 1),(eC (.int 18))]) (gN 2)) (zq (zH (zD (XG fu) [(za 1),(za 2)]) (gN 3)) (zq (zH (eOp ZR (zD (zv fu) [(za 1),(eC (.int 2))]) (eC (.int 1))) (gN 4)) (zq (zH (yz []) (gN 5)) (zq (Ws (iR1 (zD (zv fu) [(za 1),(eC (.int 3))])) (gN 6) (zq (zH (eOp Yk (zbJ [(eC (.str "set")),(eC (.str "gain")),(eC (.str "pass"))]) (zD (zv fu) [(za 1),(eC (.int 3))])) (gN 7)) (zH (eOp YV (za 5) (yz [(zD (vR fu) [(za 1),(za 2),(za 7)])])) (gN 5)))) (zq (zH (zD (zv fu) [(za 1),(eOp YK (eFn wT [(za 5)]) (eC (.int 1)))]) (gN 8)) (zq (zH (eOp YV (eOp YV (eSl zgT (za 5) oNo (WU (za 8))) (yz [(zD (WN fu) [(za 1),(za 2)])])) (eSl zgT (za 5) (WU (za 8)) oNo)) (gN 9)) (zq (zH (zem "Store" (wu fu) [(za 2)]) (gN 10)) (zq (zH (yp "Store" "point" (YF fu) (za 10) [(za 3)]) (gN 11)) (zq (zH (xh [gC,f7 3] (iL (zD (wI fu) [(za 2)])) (gN 0) yY (yz [(eFn zdq [(eOp (zg7 kb) (za 0) (za 1))]),(eC (.int 1))])) (gN 12)) (zq (zH (xh [gC,f7 2,f7 5,f7 3,f7 4] (iL (zD (wI fu) [(za 2)])) (gN 0) yY (zD (Ue fu) [(za 1),(za 2),(za 0),(za 3),(za 4)])) (gN 13)) (zq (Ws (iR1 (eC (.int 2))) (gN 6) (zq (sIf (Tp (bE (zD (vg fu) [(za 10),(za 9),(za 11),(za 4)]))) (zO (eC (.bl kb))) zN) (sIf (Tp (bE (zD (wg fu) [(za 10),(za 2),(zD (wO fu) [(za 10),(za 5),(za 11),(za 4)]),(za 13)]))) (zO (eC (.bl kb))) zN))) (zO (zD (wg fu) [(za 10),(za 2),(za 11),(za 12)])))))))))))))))
def zho (fu:Nat):TwF:=zK 1 13 (zhn fu)
theorem zmY (T:Tx K mg):T.eT.Ok P w base 41 1 (zho fu):=
 okS T.eT.F wV rfl rfl (λhr=>⟨_,((wV^^^(1,uh rfl,zgM (K:=K) rfl rfl T.eM rfl T.dB (XQ (zkf (K:=K)) (pv 0) Tf (Wl zf))))<|>(wV^^^(2,A7 rfl,T.cz\(zcR (fu:=fu) T,hr.mono ∅,zw,pv 1\(zf\zb))))<|>(wV^^^(3,A7 rfl,T.cx\(zcS (fu:=fu) T,hr.mono ∅,zw,pv 1\(pv 2\zb))))<|>(wV^^^(4,A7 rfl,zgg (xJ (T.af\(zE (fu:=fu) T,hr.mono ∅,zw,pv 1\(zf\zb))) zf)))<|>(wV^^^(5,A7 rfl,~~~zb))<|>wR PassesOwn.leaving rfl (yu rfl T.aM ((T.af\(zE (fu:=fu) T,hr.mono ∅,zw,pv 1\(zf\zb)))\zb)) (zP (i:=6) wV.nd rfl (uh rfl)) ((wV^^^(7,uh rfl,yX (K:=K)%(@Wk _ _ _ _ (zy\(zy\(zy\zb))),T.af\(zE (fu:=fu) T,hr.mono ∅,zw,pv 1\(zf\zb)))))<|>¬(wV^^^(5,A7 rfl,zX (YS (K:=K)) (pv 5) (~~~((T.bN\(Ua (fu:=fu) T,hr.mono ∅,zw,pv 1\(pv 2\(pv 7\zb))))\zb)))))<|>(wV^^^(8,uh rfl,T.af\(zE (fu:=fu) T,hr.mono ∅,zw,pv 1\(zX wB (zA (yj (K:=K)) rfl T.bH boot_len (pv 5\zb)) zf\zb))))<|>(wV^^^(9,uh rfl,zX (YS (K:=K)) (zX (YS (K:=K)) (XQ (zhU (K:=K)) (pv 5) Tf (Wl (pv 8))) (~~~((T.cI\(zeD (fu:=fu) T,hr.mono ∅,zw,pv 1\(pv 2\zb)))\zb))) (XQ (zhU (K:=K)) (pv 5) (Wl (pv 8)) Tf)))<|>(wV^^^(10,uh rfl,zl7 T.fK (zag (fu:=fu) T) (hr.mono ∅) rfl T.gE T.bp.b .nil zw (pv 2\zb)))<|>(wV^^^(11,uh rfl,zQ (pv 10) T.a9 T.bO.mt (zcn (fu:=fu) T) (hr.mono ∅) T.bO.b .nil zw (pv 3\zb)))<|>vY (i:=12) (N':=["_law_state_here","_law_spot"]) rfl (blk (osc:=ze zfQ) rfl (by decide+kernel)) (yD (zL (i:=3) rfl rfl yC)) (Zr (K:=K) (T.bD\(YI (fu:=fu) T,hr.mono ∅,zw,pv 2\zb))) (yf rfl) (λC s₀ H₀ fp=>zP (i:=0) (show (["_law_state_here","_law_spot"]:List Str).Nodup from by decide+kernel) rfl (uh rfl)) (λC s₀ H₀ fp=>yB) (λC s₀ H₀ fp=>(~~~(wM zcY rfl T.fI boot_int (Wi (zg3 (K:=K) hr) (pv 0) (pv 1) (by rfl)\zb)\(zf\zb)))) wV.nd rfl rfl<|>vY (i:=13) (N':=["_law_state_here","_law_boxes_here","_law_block","_law_spot","_law_counted"]) rfl (blk (osc:=ze zfQ) rfl (by decide+kernel)) (yD (zL (i:=2) rfl rfl (zL (i:=5) rfl rfl (zL (i:=3) rfl rfl (zL (i:=4) rfl rfl yC))))) (Zr (K:=K) (T.bD\(YI (fu:=fu) T,hr.mono ∅,zw,pv 2\zb))) (yf rfl) (λC s₀ H₀ fp=>zP (i:=0) (show (["_law_state_here","_law_boxes_here","_law_block","_law_spot","_law_counted"]:List Str).Nodup from by decide+kernel) rfl (uh rfl)) (λC s₀ H₀ fp=>yB) (λC s₀ H₀ fp=>(T.cV\(zfW (fu:=fu) T,hr.mono ∅,xW,pv 1\(pv 2\(pv 0\(pv 3\(pv 4\zb))))))) wV.nd rfl rfl<|>wR PassesOwn.leaving rfl (yu rfl T.aM (zf\zb)) (zP (i:=6) wV.nd rfl (uh rfl)) (zU (zar (vw (T.bY\(zba (fu:=fu) T,hr.mono ∅,zw,pv 10\(pv 9\(pv 11\(pv 4\zb))))))) (¬(!zaM)) zt<|>¬zU (zar (vw (T.bX\(UI (fu:=fu) T,hr.mono ∅,zw,pv 10\(pv 2\((T.bI\(zaf (fu:=fu) T,hr.mono ∅,zw,pv 10\(pv 5\(pv 11\(pv 4\zb)))))\(pv 13\zb))))))) (¬(!zaM)) zt)<|>¬(!(T.bX\(UI (fu:=fu) T,hr.mono ∅,zw,pv 10\(pv 2\(pv 11\(pv 12\zb))))))),(by unfold zhn;walk_at "re")⟩)
end
section
open Mth
def Big (fu:Nat):Prop:=2^9000<=fu
theorem Big.le {fu:Nat} (h:Big fu):1000000<=fu:=uC (show 1000000<=2^20 by decide) (uC (CJ ∅ ∅) h)
local macro_rules | `(tactic| walk_at "w1") => `(tactic| first
 | with_reducible apply za3 | ((with_reducible apply zj); exact rfl) |(with_reducible first|apply yI|apply zoI|apply zo)| with_reducible apply zmF
 | with_reducible apply zh | ((with_reducible apply yd); try dsimp only[ui]) | with_reducible apply zbh | with_reducible apply yk | with_reducible apply mD
 |(with_reducible first|apply ym|apply zkW|apply vr|apply zp9)| with_reducible apply zee
 |(with_reducible first|apply zg|apply Xo|apply zef|apply xX)| with_reducible apply yl
 | with_reducible apply zkX | with_reducible apply zkY | with_reducible apply zkZ
 |(with_reducible first|apply zoL|apply zoM|apply zoN|apply zqa|apply oN|apply zqb|apply zqc|apply zoO)| with_reducible apply zoP
 |(with_reducible first|apply zoS|apply zoT|apply zoU)| with_reducible apply zoV
 | ((with_reducible apply zoR); exact⟨∅, by decide, by decide⟩)
 | ((with_reducible apply zoQ); first | exact .inl ∅ | exact .inr ∅)
 | with_reducible refine Exists.intro _ (And.intro rfl ?_))
local macro_rules | `(tactic| walk_at "w") => `(tactic| repeat walk_at "w1")
local macro_rules|`(tactic|ext)=>`(tactic|walk_at "w")
local macro_rules | `(tactic| walk_at "wr") => `(tactic| (refine zoK rfl rfl ?_; dsimp only [List.map, HAppend.hAppend, Append.append, List.append, List.replicate]))
section
variable {fu:Nat} {S S' S2:Sto} {x y:Xv}
theorem xw {c:Prop} [Decidable c] {A B:Prop} (h:c->A) (g:¬c->B):(decide c=ia->A)/\(decide c=kb->B):=⟨λe=>h (of_decide_eq_true e),λe=>g (of_decide_eq_false e)⟩
def Kp (w:Nat->Prop) (S S':Sto):Prop:=S.length<=S'.length/\∀(n:Nat) c,S[n]? =f7 c->¬w n->S'[n]? =f7 c
theorem Kp.refl (w:Nat->Prop):Kp w S S:=⟨ug _,λ_ _ e _=>e⟩
theorem Kp.trans {w:Nat->Prop} (a:Kp w S S') (b:Kp w S' S2):Kp w S S2:=⟨uC a.1 b.1,λn c e z=>b.2 n c (a.2 n c e z) z⟩
theorem Kp.mono {w w':Nat->Prop} (a:Kp w S S') (h:∀n,w n->w' n):Kp w' S S':=⟨a.1,λn c e z=>a.2 n c e λq=>z (h n q)⟩
theorem Kp.pre {w:Nat->Prop} (p:S<+:S'):Kp w S S':=⟨p.length_le,λn c e _=>by
 obtain⟨T,rfl⟩:=p;rw[uc (u9.1 e).1]
 exact e⟩
theorem Kp.app {w:Nat->Prop} {T:Sto} (a:Kp w S S'):Kp w S (S'++T):=a.trans (Kp.pre (ua _ _))
theorem Kp.set {w:Nat->Prop} {n:Nat} {c:Ce} (a:Kp w S S') (h:w n\/S.length<=n):Kp w S (S'.set n c):=⟨by simpa using a.1,λm d e z=>by
 rw[uZ];have hm:=(u9.1 e).1
 rw[if_neg λq=>by
  subst q;rcases h with h|h
  .exact z h
  .omega]
 exact a.2 m d e z⟩
theorem yF {c:Ce}:(S++[c])[S.length]? =f7 c:=by simp
theorem wk {n:Nat} {c c':Ce} (h:S[n]? =f7 c):(S.set n c')[n]? =f7 c':=by rw[uZ,if_pos rfl,if_pos (u9.1 h).1]
theorem xx {n m:Nat} {c c':Ce} (h:S[m]? =f7 c) (q:n≠m):(S.set n c')[m]? =f7 c:=by rw[uZ,if_neg q];exact h
theorem zco {n:Nat} (h:n<=100):n<sizeLine:=uP h ∅
def zT (mx ln:Nat) (S:Sto):Prop:=∃ns:List Int,S[ln]? =f7 (.lst (ns.map Xv.int))/\ns.length<=mx
theorem zT.keep {w:Nat->Prop} {mx ln:Nat} (h:zT mx ln S) (k:Kp w S S') (z:¬w ln):zT mx ln S':=by
 obtain⟨ns,e,l⟩:=h;exact⟨ns,k.2 _ _ e z,l⟩
theorem zT.more {mx my ln:Nat} (h:zT mx ln S) (k:mx<=my):zT my ln S:=by
 obtain⟨ns,e,l⟩:=h;exact⟨ns,e,uC l k⟩
theorem zmZ {mx ln:Nat} {many:Int} (hl:zT mx ln S) (hm:0<many):W (zv fu [.ref ln,.int many] S) λv S'=>∃c,v= .int c/\0<=c/\c<many/\zT (mx-1) ln S'/\Kp (· =ln) S S':=by
 obtain⟨ns,e,l⟩:=id hl;walk_at "wr";unfold WI;ext;refine zF ?_;ext;refine zg2 (zG e) ?_;ext;rw[uw];refine xw (λh=> ?_) (λh=> ?_)
 .ext;exact⟨⋯,hm,⟨ns,e,⋯⟩,Kp.refl _⟩
 .ext;refine zbY ?_;ext;refine⟨⟨_,zG e⟩,?_⟩;ext;have hn:ns.length-1<ns.length:=by omega
  refine WO.of (show zkB (.ref ln) [] S = f7 (.int ns[ns.length - 1], S.set ln (.lst (ns.dropLast.map Xv.int))) by
   unfold zkB;rw[Zk e];dsimp only;rw[uw,uf,u6 hn,<-List.map_dropLast]
   rfl) ?_
  ext;refine Yo hm ?_;refine⟨_,rfl,y6 _ ⋯,z4 _ hm,⟨_,wk e,by rw[CF];omega⟩,(Kp.refl _).set (.inl rfl)⟩
theorem yT {mx ln:Nat} {many:Int} (hl:zT mx ln S) (hm:0<many):W (zv fu [.ref ln,.int many] S) λv S'=>∃c,v= .int c/\0<=c/\c<many/\zT mx ln S'/\Kp (· =ln) S S':=by
 refine (zmZ hl hm).imp ?_;rintro _ S1 ⟨c,rfl,h0,h1,l,k⟩;exact⟨c,rfl,h0,h1,l.more ⋯,k⟩
noncomputable def plX:Nat->Xv->Bool
 |_,.int _=>ia
 |_,.str _=>ia
 |n+1,.tup l=>decide (l.length<=100)&&l.all (plX n)
 |_,_=>kb
theorem zo9 {l:List Xv} {i:Int} {z:Xv} (h:atI l i=f7 z):zfn (.tup l) (.int i) S=f7 (z,S):=by
 show (atI l i).map (λz=>(z,S))=_;rw[h];rfl
theorem zal:∀n:Nat,ZL (uJ n (Xv.bl ia))=f7 (uJ n ia)
 |0=>rfl
 |n+1=>by rw[CT,CT];simp[ZL,zal n]
theorem zeE {P:Xv->Sto->Prop} {l:List Xv} {bs:List Bool} (h:yx S x=f7 l) (h2:ZL l=f7 bs) (k:P (.bl (bs.all id)) S):WO (zea [x] S) P:= .of (by unfold zea;dsimp only;rw[h,uz,h2];rfl) k
theorem zI {P:Xv->Sto->Prop} {a b:Str} (k:P (.bl (decide (a=b))) S):WO (xB kb (.str a) (.str b) S) P:= .of (by show f7 (Xv.bl (kb !=decide (a=b)),S)=_;rw[Bh]) k
theorem zm0 {P:Xv->Sto->Prop} {a b:Int} (k:P (.bl (decide (a=b))) S):WO (xB kb (.int a) (.int b) S) P:= .of (by show f7 (Xv.bl (kb !=decide (a=b)),S)=_;rw[Bh]) k
theorem zlo:∀(n:Nat) {S:Sto} {x:Xv},plX n x=ia->W (yP fu (n+1) [x,x] S) λv S'=>v= .bl ia/\S<+:S':=by
 have flat:∀(n:Nat) {S:Sto} {x:Xv},((∃i,x= .int i)\/∃s,x= .str s)->W (yP fu (n+1) [x,x] S) λv S'=>v= .bl ia/\S<+:S':=by
  intro n S x hx;rw[ww];walk_at "wr";unfold wP;refine zh (zF ?_);ext;refine vk (v:=kb) (by rcases hx with⟨i,rfl⟩|⟨s,rfl⟩<;>rfl) ?_;refine⟨_,rfl,λz=>(by cases z),λ_=>zo ?_⟩;refine zh (zF ?_);ext;refine vk (v:=kb) (by rcases hx with⟨i,rfl⟩|⟨s,rfl⟩<;>rfl) ?_;refine⟨_,rfl,λz=>(by cases z),λ_=>zo ?_⟩;refine zh (zF ?_);ext;refine WO.of (show zgR x S=f7 (.bl kb,S) by rcases hx with⟨i,rfl⟩|⟨s,rfl⟩<;>rfl) ?_;refine⟨_,rfl,λz=>(by cases z),λ_=>zo ?_⟩;refine zh (zF ?_);ext;rcases hx with⟨i,rfl⟩|⟨s,rfl⟩
  .refine vk (v:=kb) rfl ?_;refine⟨_,rfl,λz=>(by cases z),λ_=>zo ?_⟩;refine yk (zbg ?_);ext;refine vk (v:=ia) rfl ?_;refine⟨_,rfl,λ_=> ?_,λz=>(by cases z)⟩;refine zbg ?_;ext;refine vk (v:=kb) rfl ?_;refine⟨_,rfl,_,rfl,λ_=> ?_,λz=>(by cases z)⟩;ext;refine zm0 ?_;exact⟨by rw[decide_eq_true rfl],uU _⟩
  .refine vk (v:=ia) rfl ?_;refine⟨_,rfl,λ_=> ?_,λz=>(by cases z)⟩;refine yk (zbg ?_);ext;refine vk (v:=ia) rfl ?_;refine⟨_,rfl,λ_=> ?_,λz=>(by cases z)⟩;ext;refine zI ?_;exact⟨by rw[decide_eq_true rfl],uU _⟩
 intro n
 induction n with
 |zero=>
  intro S x h;refine flat 0 ?_;cases x<;>first|exact .inl ⟨_,rfl⟩|exact .inr ⟨_,rfl⟩|(simp[plX] at h)
 |succ n ih=>
  intro S x h;cases x with
  |int i=>exact flat _ (.inl ⟨_,rfl⟩)
  |str i=>exact flat _ (.inr ⟨_,rfl⟩)
  |tup l=>
   unfold plX at h;rw[uX,y8] at h;obtain⟨hl,hV⟩:=h;have hl:=of_decide_eq_true hl;rw[ww];walk_at "wr";unfold wP;refine zh (zF ?_);ext;refine vk (v:=ia) rfl ?_;refine⟨_,rfl,λ_=> ?_,λz=>(by cases z)⟩;refine zh (zF (zdj ?_));ext;refine vk (v:=ia) rfl ?_;refine⟨_,rfl,λz=>(by cases z),λ_=> ?_⟩;ext;refine WO.of (show wT [Xv.tup l] S=f7 (.int l.length,S) from rfl) ?_;ext;refine WO.of (show wT [Xv.tup l] S=f7 (.int l.length,S) from rfl) ?_;ext;refine⟨λz=> ?_,λ_=>zo ?_⟩
   .simp at z
   refine yk (xX (zg ?_));refine xp (wU ?_);ext;refine WO.of (show wT [Xv.tup l] S=f7 (.int l.length,S) from rfl) ?_;refine⟨_,rfl,⟨⋯,⋯⟩,_,rfl,?_⟩;refine yQ (by rw[zY];exact v8 (zco ⋯)) (λi es S2=>S<+:S2/\es=uJ i (.bl ia)) (λ_ _ _ _ _=>rfl) ?_ ⟨uU _,rfl⟩ ?_
   .rintro i w es S2 hw gI ⟨p2,rfl⟩;obtain⟨hi,rfl⟩:=xk hw;have iE:i<l.length:=by omega
    have lg:atI l ((0:Int)+(i:Int))=f7 l[i]:=by rw[y9];exact UR ⋯ (by rw[uM];exact u6 iE)
    refine .of rfl ?_;dsimp only[xM,uY,ui];ext;refine⟨rfl,?_⟩;ext;refine WO.of (zo9 lg) ?_;ext;refine WO.of (zo9 lg) ?_;ext;refine (ih (hV _ (y4 iE))).imp ?_;rintro _ S3 ⟨rfl,p3⟩;exact⟨p2.trans p3,by rw[B3]⟩
   .rintro es S2 _ ⟨p2,rfl⟩;ext;refine zeE wc (zal _) ?_;refine⟨by simp,p2.trans (ua _ _)⟩
  |_=>simp[plX] at h
abbrev Q2:=Int×Int
noncomputable def qv (q:Q2):Xv:= .tup [.int q.1,.int q.2]
noncomputable def ksX (ks:List Nat):List Xv:=ks.map λ(k:Nat)=> .int (k:Int)
inductive zC where
 |leaf (q:Q2)
 |fork (lv:Nat) (ks:List Nat)
noncomputable def Zy:zC->NK
 | .leaf q=> .tup [.str "leaf",.tup [.int q.1,.int q.2]]
 | .fork lv ks=> .tup [.str "fork",.int (lv:Int),.tup (ks.map λ(k:Nat)=> .int (k:Int))]
def QX (x:Xv) (q:Q2):Prop:=x.tupOf=f7 [.int q.1,.int q.2]
theorem zqy (q:Q2):QX (qv q) q:=rfl
def FX (x:Xv):zC->Prop
 | .leaf q=>∃y,x= .tup [.str "leaf",y]/\QX y q
 | .fork lv ks=>x= .tup [.str "fork",.int (lv:Int),.tup (ksX ks)]
inductive F2:List Xv->List zC->Prop
 |nil:F2 [] []
 |cons {x:Xv} {f:zC} {xs:List Xv} {fs:List zC}:FX x f->F2 xs fs->F2 (x::xs) (f::fs)
theorem F2.len:∀{xs:List Xv} {fs:List zC},F2 xs fs->xs.length=fs.length
 |_,_,.nil=>rfl
 |_,_,.cons _ l=>by rw[ux,ux,l.len]
theorem F2.get:∀{xs:List Xv} {fs:List zC} {i:Nat} {f:zC},F2 xs fs->fs[i]? =f7 f->∃x,xs[i]? =f7 x/\FX x f
 |_,_,_,_,.nil,e=>by simp at e
 |_,_,0,_,.cons h _,e=>by simp at e;subst e;exact⟨_,rfl,h⟩
 |_,_,i+1,f,.cons _ l,e=>by
  obtain⟨x,e1,e2⟩:=l.get (i:=i) (f:=f) (by simpa using e);exact⟨x,by simpa using e1,e2⟩
theorem F2.snoc:∀{xs:List Xv} {fs:List zC} {x:Xv} {f:zC},F2 xs fs->FX x f->F2 (xs++[x]) (fs++[f])
 |_,_,_,_,.nil,h=> .cons h .nil
 |_,_,_,_,.cons h l,k=> .cons h (l.snoc k)
theorem zeF:∀ks:List Nat,XR (ksX ks)=f7 (ks.map λ(k:Nat)=> .int (k:Int))
 |[]=>rfl
 |k::r=>by
  show XR (Xv.int (k:Int)::ksX r)=_;simp[XR,Yi,zeF r]
theorem zhp:∀ks:List Nat,WT (ks.map λ(k:Nat)=>NK.int (k:Int))<=1
 |[]=>by simp[WT]
 |k::r=>by
  have:=zhp r;simp[WT,vW];omega
theorem zam {x:Xv} {f:zC} (h:FX x f):Uw x=f7 (Zy f):=by
 cases f with
 |leaf q=>
  obtain⟨y,rfl,hy⟩:=h;have:Yi y=f7 (.tup [.int q.1,.int q.2]):=by
   unfold QX at hy;cases y with
   |tup l=>simp only[Xv.tupOf,uQ] at hy;subst hy;simp[Yi,XR]
   |ct l=>simp only[Xv.tupOf,uQ] at hy;subst hy;simp[Yi,XR]
   |_=>simp[Xv.tupOf] at hy
  simp[Uw,Zy,Yi,XR,this,vW,WT]
 |fork lv ks=>
  have hx:x= .tup [.str "fork",.int (lv:Int),.tup (ksX ks)]:=h;subst hx;have:=zhp ks;simp[Uw,Zy,Yi,XR,zeF,vW,WT];omega
theorem zdA {x:Xv} {f:zC} (h:FX x f):Tz x=gC:=by
 cases f with
 |leaf q=>obtain⟨y,rfl,_⟩:=h;rfl
 |fork lv ks=>have hx:x= .tup [.str "fork",.int (lv:Int),.tup (ksX ks)]:=h;subst hx;rfl
theorem Tc:∀{a b:List Nat},(a.map λ(k:Nat)=>NK.int (k:Int))=(b.map λ(k:Nat)=>NK.int (k:Int))->a=b
 |[],[],_=>rfl
 |[],_::_,h=>by cases h
 |_::_,[],h=>by cases h
 |x::r,y::t,h=>by
  rw[uE,uE] at h;injection h with h1 h2
  injection h1 with h1
  rw[Tc h2,Bv.1 h1]
theorem zdB {f g:zC} (h:Zy f=Zy g):f=g:=by
 cases f with
 |leaf q=>
  cases g with
  |leaf p=>
   obtain⟨a,b⟩:=q;obtain⟨c,d⟩:=p;simp[Zy] at h;rw[h.1,h.2]
  |fork lv ks=>simp[Zy] at h
 |fork lv ks=>
  cases g with
  |leaf p=>simp[Zy] at h
  |fork lw js=>
   simp only[Zy,NK.tup.injEq,List.cons.injEq,NK.int.injEq,and_true,true_and] at h;rw[Tc h.2,Bv.1 h.1]
noncomputable def Xh (i:Nat):List Xv->List zC->List (NK×Xv×Xv)
 |x::xs,f::r=>(Zy f,x,.int (i:Int))::Xh (i+1) xs r
 |_,_=>[]
noncomputable def ZM (xs:List Xv):List zC->Ce
 |[]=> .dk []
 |f::r=> .dn (Xh 0 xs (f::r))
theorem zfX:∀(i:Nat) {xs:List Xv} {fs:List zC},F2 xs fs->(Xh i xs fs).length=fs.length
 |_,_,_,.nil=>rfl
 |i,_,_,.cons _ l=>by simp[Xh,zfX (i+1) l]
theorem zfY {g:zC} {y:Xv}:∀(i:Nat) {xs:List Xv} {fs:List zC},F2 xs fs->Xh i (xs++[y]) (fs++[g])=Xh i xs fs++[(Zy g,y,.int ((i+fs.length:Nat):Int))]
 |i,_,_,.nil=>by simp[Xh]
 |i,_,_,@F2.cons x f xs fs _ l=>by
  simp only[A0,Xh,zfY (i+1) l,ux];rw[show i+1+fs.length=i+(fs.length+1) by omega]
theorem zaJ {g:zC}:∀(i:Nat) {xs:List Xv} {fs:List zC},F2 xs fs->g∉fs->yA (Xh i xs fs) (Zy g)=gC
 |_,_,_,.nil,_=>by simp[Xh,yA]
 |i,_,_,@F2.cons x f xs fs _ l,h=>by
  have ih:=zaJ (g:=g) (i+1) l λz=>h (uj _ z);have gH:¬Zy f=Zy g:=λe=>h (by rw[zdB e];exact uv);unfold yA at ih ⊢;rw[Xh,uL,decide_eq_false gH];exact ih
theorem zdC {g:zC}:∀(i:Nat) {xs:List Xv} {fs:List zC} (j:Nat),F2 xs fs->fs.Nodup->fs[j]? =f7 g->yA (Xh i xs fs) (Zy g)=f7 (.int ((i+j:Nat):Int))
 |_,_,_,_,.nil,_,e=>by simp at e
 |i,_,_,0,@F2.cons x f xs fs _ l,_,e=>by
  simp at e;subst e;unfold yA;rw[Xh,uL,decide_eq_true rfl];rfl
 |i,_,_,j+1,@F2.cons x f xs fs _ l,nd,e=>by
  have ih:=zdC (g:=g) (i+1) j l (Al.1 nd).2 (by simpa using e);have gH:¬Zy f=Zy g:=λq=>(Al.1 nd).1 (by rw[zdB q];exact ud (by simpa using e));unfold yA at ih ⊢;rw[Xh,uL,decide_eq_false gH,show i+(j+1)=i+1+j by omega];exact ih
structure yG (sn fn dn:Nat) (bx:Xv) (fs:List zC) (S:Sto):Prop where
 o:S[sn]? =f7 (.ins "Store" [("boxes",bx),("facts",.ref fn),("numbers",.ref dn)])
 fd':∃xs,F2 xs fs/\S[fn]? =f7 (.lst xs)/\S[dn]? =f7 (ZM xs fs)
 nd:fs.Nodup
section
variable {sn fn dn:Nat} {bx:Xv} {fs:List zC}
theorem zfZ {xs l:List Xv}:ZM xs fs≠ .lst l:=by cases fs<;>simp[ZM]
theorem zlp {xs:List Xv} {c:Str} {l:List (Str×Xv)}:ZM xs fs≠ .ins c l:=by cases fs<;>simp[ZM]
theorem zlq {xs:List Xv} {t:Vs}:ZM xs fs≠ .tab t:=by cases fs<;>simp[ZM]
theorem yG.fd (h:yG sn fn dn bx fs S):fn≠dn:=λe=>by
 obtain⟨xs,_,h1,h2⟩:=h.fd';rw[e,h2] at h1;exact zfZ (uK h1)
theorem yG.sf (h:yG sn fn dn bx fs S):sn≠fn:=λe=>by
 obtain⟨xs,_,h1,h2⟩:=h.fd';have h3:=h.o;rw[e,h1] at h3;cases h3
theorem yG.sd (h:yG sn fn dn bx fs S):sn≠dn:=λe=>by
 obtain⟨xs,_,h1,h2⟩:=h.fd';have h3:=h.o;rw[e,h2] at h3;exact zlp (uK h3)
theorem yG.flt (h:yG sn fn dn bx fs S):fn<S.length/\dn<S.length:=by
 obtain⟨xs,_,h1,h2⟩:=h.fd';exact⟨(u9.1 h1).1,(u9.1 h2).1⟩
theorem yG.nd' (h:yG sn fn dn bx fs S) {n:Nat} {l:List Xv} (e:S[n]? =f7 (.lst l)):n≠dn:=λz=>by
 obtain⟨xs,_,h1,h2⟩:=h.fd';rw[z,h2] at e;exact zfZ (uK e)
theorem yG.keep {w:Nat->Prop} (h:yG sn fn dn bx fs S) (k:Kp w S S') (h1:¬w sn) (h2:¬w fn) (h3:¬w dn):yG sn fn dn bx fs S':=⟨k.2 _ _ h.o h1,(let ⟨xs,a,b,c⟩:=h.fd';⟨xs,a,k.2 _ _ b h2,k.2 _ _ c h3⟩),h.nd⟩
theorem yG.pre (h:yG sn fn dn bx fs S) (p:S<+:S'):yG sn fn dn bx fs S':=h.keep (Kp.pre (w:=λ_=>False) p) id id id
theorem zii {xs:List Xv} {f:zC} {x:Xv} (l:F2 xs fs) (nd:fs.Nodup) (hd:S[dn]? =f7 (ZM xs fs)) (hx:FX x f):∃o,WW S (.ref dn) x=f7 o/\(∀j:Nat,fs[j]? =f7 f->o=f7 (.int (j:Int)))/\(f∉fs->o=gC):=by
 unfold WW;dsimp only;rw[hd];cases l with
 |nil=>
  unfold ZM;dsimp only;rw[zdA hx,zam hx];exact⟨gC,rfl,(λj e=>by simp at e),λ_=>rfl⟩
 | @cons y g ys r h1 h2=>
  unfold ZM;dsimp only;rw[zam hx];refine⟨_,rfl,λj e=> ?_,λe=>zaJ 0 (.cons h1 h2) e⟩;rw[zdC 0 j (.cons h1 h2) nd e,Nat.zero_add]
theorem zm1 {xs:List Xv} {f:zC} {x:Xv} (l:F2 xs fs) (hd:S[dn]? =f7 (ZM xs fs)) (hl:fs.length<sizeLine) (hf:f∉fs) (hx:FX x f):TM S (.ref dn) x (.int (fs.length:Int))=f7 (S.set dn (ZM (xs++[x]) (fs++[f]))):=by
 unfold TM;dsimp only;rw[hd];cases l with
 |nil=>
  unfold ZM;dsimp only;rw[zdA hx,zam hx];rfl
 | @cons y g ys r h1 h2=>
  unfold ZM;dsimp only[A0];have l2:F2 (y::ys) (g::r):= .cons h1 h2;rw[if_pos (by rw[zfX 0 l2];exact hl),zam hx];dsimp only[Aa];unfold XT;rw[zaJ 0 l2 hf];have:=zfY (g:=f) (y:=x) 0 l2;rw[Nat.zero_add] at this;rw[A0,A0] at this;rw[this];rfl
structure yy (sn fn dn:Nat) (bx:Xv) (fs:List zC) (m:Nat) (S:Sto) (fs':List zC) (S':Sto):Prop where
 st:yG sn fn dn bx fs' S'
 pre:fs<+:fs'
 len:fs'.length<=fs.length+m
 kp:Kp (λn=>n=fn\/n=dn) S S'
theorem yG.grown (h:yG sn fn dn bx fs S):yy sn fn dn bx fs 0 S fs S:=⟨h,uU _,⋯,Kp.refl _⟩
theorem yy.trans {d3 bC:List zC} {m m':Nat} (a:yy sn fn dn bx fs m S d3 S') (b:yy sn fn dn bx d3 m' S' bC S2):yy sn fn dn bx fs (m+m') S bC S2:=⟨b.st,a.pre.trans b.pre,by have:=a.len;have:=b.len;omega,a.kp.trans b.kp⟩
theorem yy.more {d3:List zC} {m m':Nat} (a:yy sn fn dn bx fs m S d3 S') (h:m<=m'):yy sn fn dn bx fs m' S d3 S':=⟨a.st,a.pre,by have:=a.len;omega,a.kp⟩
theorem yy.app {d3:List zC} {m:Nat} (a:yy sn fn dn bx fs m S d3 S') (p:S'<+:S2):yy sn fn dn bx fs m S d3 S2:=⟨a.st.pre p,a.pre,a.len,a.kp.trans (Kp.pre p)⟩
theorem yy.of_pre (h:yG sn fn dn bx fs S) (p:S<+:S'):yy sn fn dn bx fs 0 S fs S':=h.grown.app p
theorem yy.set {d3:List zC} {m n:Nat} {c:Ce} (a:yy sn fn dn bx fs m S d3 S') (h:S.length<=n) (h0:S[sn]? ≠gC) (h1:S[fn]? ≠gC) (h2:S[dn]? ≠gC):yy sn fn dn bx fs m S d3 (S'.set n c):=by
 have q:∀k,S[k]? ≠gC->n≠k:=λk hk e=>hk (uA ⋯);obtain⟨xs,u1,u2,u3⟩:=a.st.fd';exact⟨⟨xx a.st.o (q _ h0),⟨xs,u1,xx u2 (q _ h1),xx u3 (q _ h2)⟩,a.st.nd⟩,a.pre,a.len,a.kp.set (.inr h)⟩
theorem xn {α:Type} {l l':List α} {i:Nat} {a:α} (p:l<+:l') (h:l[i]? =f7 a):l'[i]? =f7 a:=by
 obtain⟨t,rfl⟩:=p;rw[uc (u9.1 h).1];exact h
def Add (fs:List zC) (f:zC) (fs':List zC):Prop:=fs'=fs\/fs'=fs++[f]
theorem zf0 (h:yG sn fn dn bx fs S) (hl:fs.length<=1000000) {f:zC} {x:Xv} (hx:FX x f):W (xV fu [.ref sn,x] S) λv S'=>∃(i:Nat) (fs':List zC),v= .int (i:Int)/\fs'[i]? =f7 f/\Add fs f fs'/\yy sn fn dn bx fs 1 S fs' S':=by
 walk_at "wr";unfold vm;have hz:fs.length<sizeLine:=uP hl ∅;obtain⟨xs,l,mn,oj⟩:=h.fd';obtain⟨o,eo,os,on⟩:=zii l h.nd oj hx;refine zh (UQ (λρ S2=>ρ=[f7 (.ref sn),f7 x]/\∃(i:Nat) (fs':List zC),fs'[i]? =f7 f/\Add fs f fs'/\yy sn fn dn bx fs 1 S fs' S2) (zF ?_) ?_)
 .refine vr (zic ?_);ext;refine yM ?_;ext;refine⟨_,_,_,rfl,h.o,rfl,o,eo,_,rfl,λz=> ?_,λz=>zo ⟨rfl,?_⟩⟩
  .have hf:f∉fs:=λhm=>by
    obtain⟨j,hj⟩:=z5 hm;rw[os j hj] at z;cases z
   refine zh (zb2 ?_);ext;refine yM ?_;ext;refine⟨_,_,_,rfl,h.o,rfl,?_⟩;ext;refine zg2 (zG mn) ?_;rw[l.len];refine yM ?_;ext;refine⟨_,_,_,rfl,h.o,rfl,?_⟩;ext;refine⟨_,zm1 l oj hz hf hx,?_⟩;refine zbh (zbY (yM ?_));ext;have ho:=xx (c':=ZM (xs++[x]) (fs++[f])) h.o h.sd.symm;have fc:=xx (c':=ZM (xs++[x]) (fs++[f])) mn h.fd.symm;refine⟨_,_,_,rfl,ho,rfl,⟨_,zG fc⟩,?_⟩;ext;refine zaB (Zk fc) (by rw[l.len];exact hz) ?_;refine⟨rfl,fs.length,fs++[f],by simp,.inr rfl,⟨⟨xx ho h.sf.symm,⟨_,l.snoc hx,?_,xx (wk oj) h.fd⟩,?_⟩,ua _ _,by simp,((Kp.refl _).set (.inl (.inr rfl))).set (.inl (.inl rfl))⟩⟩
   .rw[wk fc]
   .rw[List.nodup_append];refine⟨h.nd,by simp,?_⟩;intro a ha b hb e;rw[uH] at hb;subst hb e;exact hf ha
  .have hm:f∈fs:=Ai λhm=>by
    rw[on hm] at z;cases z
   obtain⟨j,hj⟩:=z5 hm;exact⟨j,fs,hj,.inl rfl,h.grown.more ⋯⟩
 .rintro _ S2 ⟨rfl,i,fs',hi,ad,g⟩;refine yk (zfE ?_);refine yM ?_;ext;refine⟨_,_,_,rfl,g.st.o,rfl,?_⟩;ext;obtain⟨ys,l2,pG,sq⟩:=g.st.fd';obtain⟨o2,sO,os2,_⟩:=zii l2 g.st.nd sq hx;refine⟨_,by rw[sO,os2 i hi],i,fs',rfl,hi,ad,g⟩
theorem zeG (h:yG sn fn dn bx fs S) (hl:fs.length<=1000000) {q:Q2} {y:Xv} (hy:QX y q):W (wd fu [.ref sn,y] S) λv S'=>∃(i:Nat) (fs':List zC),v= .int (i:Int)/\fs'[i]? =f7 (.leaf q)/\Add fs (.leaf q) fs'/\yy sn fn dn bx fs 1 S fs' S':=by
 walk_at "wr";unfold Xw;refine yk (ye ?_);ext;refine⟨_,_,rfl,h.o,rfl,?_⟩;ext;exact zf0 h hl (f:= .leaf q) ⟨_,rfl,hy⟩
theorem yJ {l:List Xv} {i:Nat} {z:Xv} (h:l[i]? =f7 z):atI l (i:Int)=f7 z:=UR ⋯ (by rw[uM];exact h)
theorem Uf {ks:List Nat} {i k:Nat} (h:ks[i]? =f7 k):(ksX ks)[i]? =f7 (.int (k:Int)):=by unfold ksX;rw[uf,h];rfl
theorem yG.fact (h:yG sn fn dn bx fs S) {i:Nat} {f:zC} (hi:fs[i]? =f7 f):∃x l,FX x f/\yx S (.ref fn)=f7 l/\atI l (i:Int)=f7 x:=by
 obtain⟨xs,l,mn,_⟩:=h.fd';obtain⟨x,e,hx⟩:=l.get hi;exact⟨x,xs,hx,zG mn,yJ e⟩
theorem zeH (h:yG sn fn dn bx fs S) {i lv:Nat} {ks:List Nat} (hi:fs[i]? =f7 (.fork lv ks)):W (yo fu [.ref sn,.int (i:Int)] S) λv S'=>v= .int (lv:Int)/\S'=S:=by
 walk_at "wr";unfold wo;ext;refine yM ?_;ext;refine⟨_,_,_,rfl,h.o,rfl,?_⟩;ext;obtain⟨fx,fl,fv,hU,fc⟩:=h.fact hi;change fx=_ at fv;subst fv;refine xU hU fc ?_;ext;refine Vv ?_;ext;refine zI ⟨_,rfl,λ_=> ?_,λz=> ?_⟩
 .ext;exact⟨rfl,rfl⟩
 .exact absurd z ∅
theorem xF {P:Xv->Sto->Prop} {l:List Xv} (k:P (.int l.length) S):WO (wT [.tup l] S) P:= .of rfl k
theorem zlr {bl:List Xv} (h:yG sn fn dn (.tup bl) fs S) {i:Nat} {q:Q2} (hi:fs[i]? =f7 (.leaf q)):W (yo fu [.ref sn,.int (i:Int)] S) λv S'=>v= .int (bl.length:Int)/\S'=S:=by
 walk_at "wr";unfold wo;ext;refine yM ?_;ext;refine⟨_,_,_,rfl,h.o,rfl,?_⟩;ext;obtain⟨fx,fl,fv,hU,fc⟩:=h.fact hi;obtain⟨fy,rfl,o9⟩:=fv;refine xU hU fc ?_;ext;refine Vv ?_;ext;refine zI ⟨_,rfl,λz=>absurd z ∅,λ_=> ?_⟩;ext;refine yM ?_;ext;refine⟨_,_,_,rfl,h.o,rfl,?_⟩;ext;exact xF ⟨rfl,rfl⟩
theorem zhq (h:yG sn fn dn bx fs S) {i lv:Nat} {ks:List Nat} (hi:fs[i]? =f7 (.fork lv ks)):W (xl fu [.ref sn,.int (i:Int)] S) λv S'=>v= .tup (ksX ks)/\S'=S:=by
 walk_at "wr";unfold Zg;ext;refine yM ?_;ext;refine⟨_,_,_,rfl,h.o,rfl,?_⟩;ext;obtain⟨fx,fl,fv,hU,fc⟩:=h.fact hi;change fx=_ at fv;subst fv;refine xU hU fc ?_;ext;refine Vv ?_;ext;refine zI ⟨_,rfl,λ_=> ?_,λz=> ?_⟩
 .ext;exact yh rfl (show atI [Xv.str "fork",.int (lv:Int),.tup (ksX ks)] 2=f7 (.tup (ksX ks)) from rfl) ⟨rfl,rfl⟩
 .exact absurd z ∅
inductive VA (fs:List zC) (st:List Nat) (q:Q2):Nat->Nat->Prop
 |leaf {h n:Nat}:fs[n]? =f7 (.leaf q)->VA fs st q h n
 |fork {h n lv j k:Nat} {ks:List Nat}:fs[n]? =f7 (.fork lv ks)->st[lv]? =f7 j->ks[j]? =f7 k->VA fs st q h k->VA fs st q (h+1) n
theorem VA.mono {fs':List zC} {st:List Nat} {q:Q2} {h n:Nat} (p:fs<+:fs') (v:VA fs st q h n):VA fs' st q h n:=by
 induction v with
 |leaf e=>exact .leaf (xn p e)
 |fork e e1 e2 _ ih=>exact .fork (xn p e) e1 e2 ih
theorem VA.more {st:List Nat} {q:Q2} {h n h':Nat} (v:VA fs st q h n) (hh:h<=h'):VA fs st q h' n:=by
 induction v generalizing h' with
 |leaf e=>exact .leaf e
 | @fork h1 n1 lv j k ks e e1 e2 _ ih=>
  obtain⟨m,rfl⟩:∃m,h'=m+1:=⟨h'-1,⋯⟩;exact .fork e e1 e2 (ih ⋯)
theorem zhr (st:List Nat) (q:Q2) (H:yG sn fn dn bx fs S):∀(h n m:Nat),VA fs st q h n->h<m->WS (zbO (bE (eOp (xB kb) (eOp zM (eOp Yk (xR "Store" "facts" (za 0)) (za 1)) (eC (.int 0))) (eC (.str "fork")))) (zH (eOp zM (yp "Store" "kids_of" (xl fu) (za 0) [(za 1)]) (eOp zM (za 2) (yp "Store" "level_of" (yo fu) (za 0) [(za 1)]))) (gN 1)) m [f7 (.ref sn),f7 (.int (n:Int)),f7 (.tup (ksX st))] S) (λρ S'=>∃n':Nat,ρ=[f7 (.ref sn),f7 (.int (n':Int)),f7 (.tup (ksX st))]/\S'=S/\fs[n']? =f7 (.leaf q)) (λ_ _=>False):=by
 intro h n m v
 induction v generalizing m with
 | @leaf h n e=>
  intro hm;obtain⟨m,rfl⟩:∃k,m=k+1:=⟨m-1,⋯⟩;refine zeg ?_;ext;refine yM ?_;ext;refine⟨_,_,_,rfl,H.o,rfl,?_⟩;ext;obtain⟨fx,fl,fv,hU,fc⟩:=H.fact e;obtain⟨fy,rfl,o9⟩:=fv;refine xU hU fc ?_;ext;refine zI ⟨_,rfl,λz=> ?_,λ_=>⟨_,rfl,rfl,e⟩⟩;exact absurd z ∅
 | @fork h n lv j k ks e e1 e2 _ ih=>
  intro hm;obtain⟨m,rfl⟩:∃k,m=k+1:=⟨m-1,⋯⟩;refine zeg ?_;ext;refine yM ?_;ext;refine⟨_,_,_,rfl,H.o,rfl,?_⟩;ext;obtain⟨fx,fl,fv,hU,fc⟩:=H.fact e;change fx=_ at fv;subst fv;refine xU hU fc ?_;ext;refine zI ⟨_,rfl,λ_=> ?_,λz=>absurd z ∅⟩;ext;refine ye ?_;ext;refine⟨_,_,rfl,H.o,rfl,?_⟩;ext;refine (zhq H e).imp ?_;rintro _ S2 ⟨rfl,rfl⟩;ext;refine ye ?_;ext;refine⟨_,_,rfl,H.o,rfl,?_⟩;ext;refine (zeH H e).imp ?_;rintro _ S2 ⟨rfl,rfl⟩;ext;refine yh rfl (yJ (Uf e1)) ?_;refine yh rfl (yJ (Uf e2)) ?_;exact ih _ ⋯
theorem zm2 {st:List Nat} {q:Q2} {h n:Nat} (H:yG sn fn dn bx fs S) (v:VA fs st q h n) (hf:h<fu):W (vM fu [.ref sn,.int (n:Int),.tup (ksX st)] S) λv S'=>QX v q/\S'=S:=by
 walk_at "wr";unfold vL;rcases zhr (fu:=fu) st q H h n fu v hf with⟨ρ,S2,e0,n',rfl,rfl,e⟩|⟨_,_,_,z⟩
 rotate_left
 .exact z.elim
 refine zh (znK (.nx e0 ?_));ext;refine yM ?_;ext;refine⟨_,_,_,rfl,H.o,rfl,?_⟩;ext;obtain⟨fx,fl,fv,hU,fc⟩:=H.fact e;obtain⟨fy,rfl,o9⟩:=fv;refine xU hU fc ?_;ext;exact⟨o9,rfl⟩
theorem zm3 {i:Int}:W (XL fu [.int i] S) λv S'=>v= .bl ia/\S'=S:=by
 walk_at "wr";unfold XJ;refine yk (zbg ?_);ext;refine vk (v:=ia) rfl ?_;refine⟨_,rfl,λ_=> ?_,λz=>(by cases z)⟩;ext;refine vk (v:=kb) rfl ?_;exact⟨_,rfl,rfl,rfl⟩
end
end
section
variable {fu:Nat} {S S' S2:Sto} {x y:Xv} {sn fn dn:Nat} {bx:Xv} {fs:List zC}
theorem zf1:∀bs:List Bool,ZL (bs.map Xv.bl)=f7 bs
 |[]=>rfl
 |b::r=>by rw[uE];simp[ZL,zf1 r]
theorem Wb {P:Xv->Sto->Prop} {n:Nat} {l:List Xv} (h:S[n]? =f7 (.lst l)) (k:P (.tup l) S):WO (Xn [.ref n] S) P:= .of (by unfold Xn;dsimp only;rw[zG h];rfl) k
theorem xf (ks:List Nat):(ksX ks).length=ks.length:=by simp[ksX]
theorem WP (ks:List Nat) (k:Nat):ksX (ks++[k])=ksX ks++[.int (k:Int)]:=by simp[ksX]
theorem Ut {ks:List Nat} {i:Nat} {w:Xv} (h:(ksX ks)[i]? =f7 w):∃k,ks[i]? =f7 k/\w= .int (k:Int):=by
 unfold ksX at h;rw[uf] at h;cases e:ks[i]? with
 |none=>rw[e] at h;cases h
 |some k=>rw[e] at h;cases h;exact⟨k,rfl,rfl⟩
theorem zls (ks:List Nat):Ym (ZS S 39) (ksX ks)=f7 ((ks.map λ(k:Nat)=>(k:Int)).map D.int):=by
 induction ks with
 |nil=>rfl
 |cons k r ih=>
  show Ym (ZS S 39) (.int (k:Int)::ksX r)=_;simp only[Ym,ih];rfl
theorem zm4 {P:Xv->Sto->Prop} {ρ:Rho} {kn k0:Nat} {ks:List Nat} {cap:List (Option Nat)} {m n:TwE} (hk:S[kn]? =f7 (.lst (ksX ks))) (hl:ks.length<=100) (hn:W (n ρ S) λv S'=>v= .ref kn/\S'=S)
  (hm:∀k:Nat,W (m ((xM cap ρ).set 0 (f7 (.int (k:Int)))) S) λv S'=>v= .bl (decide ((k:Int)=(k0:Int)))/\S'=S)
  (k:P (.bl (decide (∀k∈ks,k=k0))) (S++[.lst ((ks.map λ(k:Nat)=>decide ((k:Int)=(k0:Int))).map Xv.bl)])):W (eFn zea [(xh cap (iL n) (gN 0) yY m)] ρ S) P:=by
 refine xX (zg (xp (zdk (hn.imp ?_))));rintro _ S1 ⟨rfl,rfl⟩;refine⟨_,zG hk,_,zG hk,?_⟩;refine yQ (by rw[xf];exact v8 (zco hl)) (λi es S2=>S2=S1/\es=((ks.take i).map λ(k:Nat)=>decide ((k:Int)=(k0:Int))).map Xv.bl) ?_ ?_ ⟨rfl,by simp⟩ ?_
 .rintro i es _ _ ⟨rfl,_⟩;exact zG hk
 .rintro i w es _ hw gI ⟨rfl,rfl⟩;obtain⟨kk,e1,rfl⟩:=Ut hw;refine .of rfl ?_;ext;refine⟨rfl,?_⟩;refine (hm kk).imp ?_;rintro _ _ ⟨rfl,rfl⟩;refine⟨rfl,?_⟩;obtain⟨hi,e1⟩:=u9.1 e1;rw[uO hi,w6,w6,e1];rfl
 .rintro es _ _ ⟨rfl,rfl⟩;rw[xf,A1];ext;refine zeE wc (zf1 _) ?_
  rw[show (ks.map λ(k:Nat)=>decide ((k:Int)=(k0:Int))).all id=decide (∀k∈ks,k=k0) by
   rw[z7,decide_eq_true_iff,y8];constructor
   .intro h k hk;have:=h _ (x8.2 ⟨k,hk,rfl⟩);exact Bv.1 (of_decide_eq_true this)
   .intro h b hb;obtain⟨k,hk,rfl⟩:=x8.1 hb
    exact decide_eq_true (by rw[h k hk])]
  exact k
def zeI (fs:List zC) (lv:Nat) (ks:List Nat) (i:Nat):Prop:=∃k0,ks[0]? =f7 k0/\((∀k∈ks,k=k0)/\i=k0\/(¬∀k∈ks,k=k0)/\fs[i]? =f7 (.fork lv ks))
theorem zeJ {lv kn k0:Nat} {ks:List Nat} (h:yG sn fn dn bx fs S) (hl:fs.length<=1000000) (hk:S[kn]? =f7 (.lst (ksX ks))) (h0:ks[0]? =f7 k0) (fX:ks.length<=100):W (we fu [.ref sn,.int (lv:Int),.ref kn] S) λv S'=>∃(i:Nat) (fs':List zC),v= .int (i:Int)/\zeI fs' lv ks i/\(fs'=fs\/(¬∀k∈ks,k=k0)/\fs'=fs++[.fork lv ks])/\yy sn fn dn bx fs 1 S fs' S':=by
 walk_at "wr";unfold Xx;ext;refine xU (zG hk) (yJ (i:=0) (Uf h0)) ?_;ext;refine zF (vr ?_);refine zm4 (kn:=kn) (k0:=k0) hk fX (zj rfl ⟨rfl,rfl⟩) ?_ ?_
 .intro k;dsimp only[xM,uY,ui];ext;exact⟨rfl,rfl⟩
 .refine⟨_,rfl,xw (λhc=> ?_) (λhc=> ?_)⟩
  .ext;exact⟨k0,fs,rfl,⟨k0,h0,.inl ⟨hc,rfl⟩⟩,.inl rfl,(yy.of_pre h (ua _ _)).more ⋯⟩
  .ext;have h2:=h.pre (ua S [.lst ((ks.map λ(k:Nat)=>decide ((k:Int)=(k0:Int))).map Xv.bl)]);refine ye ?_;ext;refine⟨_,_,rfl,h2.o,rfl,?_⟩;ext;refine Wb (l:=ksX ks) (xn (ua _ _) hk) ?_;ext;refine (zf0 h2 hl (f:= .fork lv ks) (x:= .tup [.str "fork",.int (lv:Int),.tup (ksX ks)]) rfl).imp ?_;rintro _ S2 ⟨i,fs',rfl,e,ad,g⟩;exact⟨i,fs',rfl,⟨k0,h0,.inr ⟨hc,e⟩⟩,ad.imp (λz=>z) (λz=>⟨hc,z⟩),((yy.of_pre h (ua _ _)).trans g).more ⋯⟩
theorem zpa {n:Nat} (h:S[n]? =f7 (.ins "Store" [])) (bx:Xv):W (wu fu [.ref n,bx] S) λv S'=>v= .non/\yG n S.length (S.length+1) bx [] S'/\Kp (· =n) S S'/\S'.length=S.length+2:=by
 have hn:=(u9.1 h).1;walk_at "wr";unfold vK;ext;refine zen ?_;ext;refine⟨_,_,rfl,h,∅,?_⟩;ext;refine zen ?_;ext;refine⟨_,_,rfl,xn (ua _ _) (wk h),(show (1:Nat)<1000 by decide),?_⟩;refine zen ?_;ext;refine⟨_,_,rfl,xn (ua _ _) (wk (xn (ua _ _) (wk h))),(show (2:Nat)<1000 by decide),rfl,?_⟩;simp only[AJ,uD,ux,A9];refine⟨⟨wk (xn (ua _ _) (wk (xn (ua _ _) (wk h)))),⟨[],.nil,?_,?_⟩,CB⟩,?_,by simp⟩
 .refine xx (xn (ua _ _) (xx ?_ ⋯)) ⋯;have:=yF (S:=S.set n (.ins "Store" (zcG "boxes" bx []))) (c:= .lst []);rw[AJ] at this;exact this
 .refine xx ?_ ⋯;have:=yF (S:=(ui S n (Ce.ins "Store" (zcG "boxes" bx []))++[Ce.lst []]).set n (.ins "Store" (zcG "facts" (.ref S.length) (zcG "boxes" bx [])))) (c:= .dk []);simp only[AJ,uD,ux,A9] at this;exact this
 .exact (((((Kp.refl (· =n)).set (.inl rfl)).app).set (.inl rfl)).app).set (.inl rfl)
end
section
noncomputable def lvl (n:Nat):zC->Nat
 | .leaf _=>n
 | .fork lv _=>lv
structure WF (ss:List Nat) (fs:List zC):Prop where
 nd:fs.Nodup
 ok:∀(i lv:Nat) ks,fs[i]? =f7 (.fork lv ks)->(∃s,ss[lv]? =f7 s/\ks.length=s)/\(∀k∈ks,k<i/\∃f,fs[k]? =f7 f/\lv<lvl ss.length f)/\¬∀k∈ks,∀k'∈ks,k=k'
def yt (ss st:List Nat):Prop:=st.length=ss.length/\∀(i:Nat) x s,st[i]? =f7 x->ss[i]? =f7 s->x<s
variable {ss:List Nat} {fs fs':List zC} {st st':List Nat} {q q':Q2} {i j:Nat} {f g:zC}
theorem yt.get (h:yt ss st) {lv s:Nat} (e:ss[lv]? =f7 s):∃x,st[lv]? =f7 x/\x<s:=by
 have hl:lv<st.length:=by rw[h.1];exact (u9.1 e).1
 exact⟨st[lv],u6 hl,h.2 lv _ s (u6 hl) e⟩
theorem yt.set (h:yt ss st) {lv s m:Nat} (e:ss[lv]? =f7 s) (hm:m<s):yt ss (st.set lv m):=by
 refine⟨by rw[AJ];exact h.1,λi x t e1 e2=> ?_⟩;rw[uZ] at e1;split at e1
 .rename_i q;subst q;split at e1
  .cases e1;rw[e] at e2;cases e2;exact hm
  .cases e1
 .exact h.2 i x t e1 e2
theorem VA.uniq {h:Nat} (v:VA fs st q h i):∀{h':Nat},VA fs st q' h' i->q=q':=by
 induction v with
 |leaf e=>
  intro h' w;cases w with
  |leaf e'=>rw[e] at e';cases e';rfl
  |fork e' _ _ _=>rw[e] at e';cases e'
 |fork e e1 e2 _ ih=>
  intro h' w;cases w with
  |leaf e'=>rw[e] at e';cases e'
  |fork e' f1 f2 w=>
   rw[e] at e';cases e';rw[e1] at f1;cases f1;rw[e2] at f2;cases f2;exact ih w
theorem WF.lv (w:WF ss fs) (e:fs[i]? =f7 f):lvl ss.length f<=ss.length:=by
 cases f with
 |leaf q=>exact ug _
 |fork lv ks=>
  obtain⟨⟨s,h,_⟩,_⟩:=w.ok i lv ks e;exact v8 (u9.1 h).1
theorem WF.val (w:WF ss fs) (hs:yt ss st):∀(n i:Nat) (f:zC),i<n->fs[i]? =f7 f->∃q,VA fs st q (ss.length-lvl ss.length f) i:=by
 intro n
 induction n with
 |zero=>intro i f h;omega
 |succ n ih=>
  intro i f hi e;cases f with
  |leaf q=>exact⟨q,.leaf e⟩
  |fork lv ks=>
   obtain⟨⟨s,h1,h2⟩,h3,_⟩:=w.ok i lv ks e;obtain⟨x,e1,hx⟩:=hs.get h1;have hk:ks[x]? =f7 ks[x]:=u6 ⋯;obtain⟨h4,g,h5,h6⟩:=h3 ks[x] (y4 _);obtain⟨q,v⟩:=ih ks[x] g ⋯ h5;refine⟨q,VA.more (.fork e e1 hk v) ?_⟩;have:=(u9.1 h1).1;show ss.length-lvl ss.length g+1<=ss.length-lv;have:=w.lv h5;omega
theorem WF.val' (w:WF ss fs) (hs:yt ss st) (e:fs[i]? =f7 f):∃q,VA fs st q ss.length i:=by
 obtain⟨q,v⟩:=w.val hs (i+1) i f ⋯ e;exact⟨q,v.more ⋯⟩
theorem VA.other (w:WF ss fs) {h l:Nat} (ag:∀k,l<=k->st'[k]? =st[k]?) (v:VA fs st q h i):∀{f:zC},fs[i]? =f7 f->l<=lvl ss.length f->VA fs st' q h i:=by
 induction v with
 |leaf e=>intro f _ _;exact .leaf e
 | @fork h n lv j k ks e e1 e2 _ ih=>
  intro f ef hl;rw[e] at ef;cases ef;obtain⟨_,h3,_⟩:=w.ok n lv ks e;obtain⟨_,g,h5,h6⟩:=h3 k (ud e2);exact .fork e ((ag lv hl).trans e1) e2 (ih h5 (by have:l<=lv:=hl;omega))
theorem zhs {lv m:Nat}:∀k,lv+1<=k->(st.set lv m)[k]? =st[k]? :=λk hk=>by rw[uZ,if_neg ⋯]
theorem zm5 {lv m:Nat}:∀k,lv+1<=k->st[k]? =(st.set lv m)[k]? :=λk hk=>(zhs k hk).symm
theorem VA.kid {h lv x:Nat} {ks:List Nat} (v:VA fs st q h i) (e:fs[i]? =f7 (.fork lv ks)) (e1:st[lv]? =f7 x):∃k h',ks[x]? =f7 k/\VA fs st q h' k:=by
 cases v with
 |leaf e'=>rw[e] at e';cases e'
 |fork e' f1 f2 w=>
  rw[e] at e';cases e';rw[e1] at f1;cases f1;exact⟨_,_,f2,w⟩
theorem WF.leaf (w:WF ss fs) {q:Q2} (n:fs'.Nodup) (a:Add fs (.leaf q) fs'):WF ss fs':=by
 rcases a with rfl|rfl
 .exact w
 .refine⟨n,λi lv ks e=> ?_⟩;have hi:i<fs.length:=by
   rcases x5 i fs.length with h|h|h
   .exact h
   .subst h;simp at e
   .rw[uA (by simp;omega)] at e;cases e
  rw[uc hi] at e;obtain⟨h1,h2,h3⟩:=w.ok i lv ks e;refine⟨h1,λk hk=> ?_,h3⟩;obtain⟨a,f,b,c⟩:=h2 k hk;exact⟨a,f,xn (ua _ _) b,c⟩
theorem WF.fork (w:WF ss fs) {lv s:Nat} {ks:List Nat} (n:fs'.Nodup) (a:Add fs (.fork lv ks) fs') (es:ss[lv]? =f7 s) (hl:ks.length=s) (hk:∀k∈ks,∃f,fs[k]? =f7 f/\lv<lvl ss.length f) (hn:¬∀k∈ks,∀k'∈ks,k=k'):WF ss fs':=by
 rcases a with rfl|rfl
 .exact w
 .refine⟨n,λi lw js e=> ?_⟩;rcases x5 i fs.length with h|h|h
  .rw[uc h] at e;obtain⟨h1,h2,h3⟩:=w.ok i lw js e;refine⟨h1,λk hk=> ?_,h3⟩;obtain⟨a,f,b,c⟩:=h2 k hk;exact⟨a,f,xn (ua _ _) b,c⟩
  .subst h;simp at e;obtain⟨rfl,rfl⟩:=e;refine⟨⟨s,es,hl⟩,λk hm=> ?_,hn⟩;obtain⟨f,b,c⟩:=hk k hm;exact⟨(u9.1 b).1,f,xn (ua _ _) b,c⟩
  .rw[uA (by simp;omega)] at e;cases e
theorem VA.back (w:WF ss fs) (p:fs<+:fs') (hs:yt ss st) {h:Nat} (e:fs[i]? =f7 f) (v:VA fs' st q h i):VA fs st q ss.length i:=by
 obtain⟨q',v'⟩:=w.val' hs e;rw[v.uniq (v'.mono p)];exact v'
end
section
variable {fu:Nat} {S S' S2:Sto} {x y z:Xv} {sn fn dn kn:Nat} {fs fs':List zC} {ss:List Nat} {bl:List Xv}
structure Bx (ss:List Nat) (bl:List Xv):Prop where
 len:bl.length=ss.length
 at_:∀(i s:Nat),ss[i]? =f7 s->∃nm:Xv,bl[i]? =f7 (.tup [nm,.int (s:Int)])
 siz:∀s∈ss,1<=s/\s<=90
structure Bx9 (ss:List Nat) (bl:List Xv):Prop extends Bx ss bl where
 l9:ss.length<=9
theorem zeI.va {st ks:List Nat} {q:Q2} {lv i j k h:Nat} (f:zeI fs lv ks i) (hj:st[lv]? =f7 j) (hk:ks[j]? =f7 k) (v:VA fs st q h k):VA fs st q (h+1) i:=by
 obtain⟨k0,e0,⟨a,rfl⟩|⟨a,b⟩⟩:=f
 .rw[a k (ud hk)] at v;exact v.more ⋯
 .exact .fork b hj hk v
theorem zcp (h:yG sn fn dn (.tup bl) fs S) {i:Nat} {f:zC} (hb:bl.length=ss.length) (hi:fs[i]? =f7 f):W (yo fu [.ref sn,.int (i:Int)] S) λv S'=>v= .int (lvl ss.length f:Int)/\S'=S:=by
 cases f with
 |leaf q=>rw[show lvl ss.length (.leaf q)=bl.length from hb.symm];exact zlr h hi
 |fork lv ks=>exact zeH h hi
def Kd (ss:List Nat) (fs:List zC) (a lv m k:Nat):Prop:=(∃ks,fs[a]? =f7 (.fork lv ks)/\ks[m]? =f7 k)\/(k=a/\∃f,fs[a]? =f7 f/\lv<lvl ss.length f)
theorem Kd.mono {a lv m k:Nat} (h:Kd ss fs a lv m k) (p:fs<+:fs'):Kd ss fs' a lv m k:=by
 rcases h with⟨ks,e,h⟩|⟨rfl,f,e,h⟩
 .exact .inl ⟨ks,xn p e,h⟩
 .exact .inr ⟨rfl,f,xn p e,h⟩
theorem Kd.lv {a lv m k:Nat} (h:Kd ss fs a lv m k) (w:WF ss fs):∃f,fs[k]? =f7 f/\lv<lvl ss.length f:=by
 rcases h with⟨ks,e,h⟩|⟨rfl,f,e,h⟩
 .obtain⟨_,f,e1,e2⟩:=(w.ok a lv ks e).2.1 k (ud h);exact⟨f,e1,e2⟩
 .exact⟨f,e,h⟩
theorem Kd.va {a lv m k h:Nat} {st:List Nat} {q:Q2} (d:Kd ss fs a lv m k) (v:VA fs st q h a) (e:st[lv]? =f7 m):∃h',VA fs st q h' k:=by
 rcases d with⟨ks,e1,e2⟩|⟨rfl,_⟩
 .obtain⟨k',h',e3,v⟩:=v.kid e1 e;rw[e2] at e3;cases e3;exact⟨h',v⟩
 .exact⟨h,v⟩
theorem zij (h:yG sn fn dn (.tup bl) fs S) (w:WF ss fs) (hb:bl.length=ss.length) {a lv m s:Nat} {f:zC} (e:fs[a]? =f7 f) (hl:lv<=lvl ss.length f) (es:ss[lv]? =f7 s) (hm:m<s):∃k,Kd ss fs a lv m k/\W (yV fu [.ref sn,.int (a:Int),.int (lv:Int),.int (m:Int)] S) λv S'=>v= .int (k:Int)/\S'=S:=by
 have go:∀k:Nat,(∀z:(lvl ss.length f:Int)=(lv:Int),∃ks,f= .fork lv ks/\ks[m]? =f7 k)->((lvl ss.length f:Int)≠(lv:Int)->k=a)->W (yV fu [.ref sn,.int (a:Int),.int (lv:Int),.int (m:Int)] S) λv S'=>v= .int (k:Int)/\S'=S:=by
  intro k h1 h2;walk_at "wr";unfold ZB;refine yk (Vv (vr (ym (ye ?_))));ext;refine⟨_,_,rfl,h.o,rfl,?_⟩;ext;refine (zcp h hb e).imp ?_;rintro _ _ ⟨rfl,rfl⟩;ext;refine xw (λz=> ?_) (λz=> ?_)
  .obtain⟨ks,rfl,ek⟩:=h1 z;refine ym (ye ?_);ext;refine⟨_,_,rfl,h.o,rfl,?_⟩;ext;refine (zhq h e).imp ?_;rintro _ _ ⟨rfl,rfl⟩;ext;exact yh rfl (yJ (Uf ek)) ⟨rfl,rfl⟩
  .ext;exact⟨by rw[h2 z],rfl⟩
 by_cases hq:lvl ss.length f=lv
 .cases f with
  |leaf q=>
   have:=(u9.1 es).1;have:ss.length=lv:=hq;omega
  |fork lw ks=>
   have hq:lw=lv:=hq;subst hq;obtain⟨⟨s',es',hs⟩,_⟩:=w.ok a lw ks e;rw[es] at es';cases es';have ek:ks[m]? =f7 ks[m]:=u6 ⋯;exact⟨ks[m],.inl ⟨ks,e,ek⟩,go _ (λ_=>⟨ks,rfl,ek⟩) (λz=>absurd rfl z)⟩
 .exact⟨a,.inr ⟨rfl,f,e,⋯⟩,go a (λz=>absurd (Bv.1 z) hq) (λ_=>rfl)⟩
noncomputable def wt:List Nat->Nat
 |[]=>2
 |s::r=>2+s*wt r
noncomputable def cst (ss:List Nat) (d:Nat):Nat:=wt (ss.drop (ss.length-d))
theorem zm6 (h:∀s∈ss,1<=s):∀k,wt (ss.drop k)<=wt ss:=by
 induction ss with
 |nil=>intro k;rw[List.drop_nil];exact ug _
 |cons s r ih=>
  intro k;cases k with
  |zero=>exact ug _
  |succ k=>
   rw[List.drop_succ_cons];have h1:=ih (λt ht=>h t (uj _ ht)) k;have h2:=h s uv;have:1*wt r<=s*wt r:=v5 _ h2;show _<=2+s*wt r;omega
theorem zcq (h:∀s∈ss,1<=s) {d d':Nat} (hd:d<=d'):cst ss d<=cst ss d':=by
 unfold cst;have e:ss.drop (ss.length-d)=(ss.drop (ss.length-d')).drop ((ss.length-d)-(ss.length-d')):=by
  rw[List.drop_drop]
  congr 1
  omega
 rw[e];exact zm6 (λs hs=>h s (CK hs)) _
theorem zht {lv s:Nat} (es:ss[lv]? =f7 s):cst ss (ss.length-lv)=2+s*cst ss (ss.length-lv-1):=by
 obtain⟨hl,e⟩:=u9.1 es;unfold cst;rw[show ss.length-(ss.length-lv)=lv by omega,show ss.length-(ss.length-lv-1)=lv+1 by omega,Aj hl,e];rfl
end
section
variable {fu:Nat} {S S' S2:Sto} {x y z:Xv} {sn fn dn kn:Nat} {bx:Xv} {fs fs':List zC} {ss:List Nat} {F:List Q2->Q2} {as:List Nat}
noncomputable def kL (as:List Nat):NK:= .tup (as.map λ(k:Nat)=> .int (k:Int))
def zcV (as:List Nat):Xv:= .tup (ksX as)
noncomputable def Zi:List (NK×Xv×Xv)->Ce
 |[]=> .dk []
 |p::l=> .dn (p::l)
theorem zan (as:List Nat):Uw (zcV as)=f7 (kL as):=by
 have:=zhp as;simp[Uw,zcV,kL,Yi,zeF,vW];omega
theorem zpb {a b:List Nat} (h:kL a=kL b):a=b:=by
 unfold kL at h;injection h with h
 exact Tc h
theorem TD {l:List (NK×Xv×Xv)} {n:Nat} {k:NK} (h:S[n]? =f7 (Zi l)) (hk:Uw x=f7 k) (hx:Tz x=gC):WW S (.ref n) x=f7 (yA l k):=by
 unfold WW;dsimp only;rw[h];cases l with
 |nil=>
  unfold Zi;dsimp only;rw[hx,hk];rfl
 |cons p l=>
  unfold Zi;dsimp only;rw[hk];rfl
theorem zik {l:List (NK×Xv×Xv)} {n:Nat} {k:NK} (h:S[n]? =f7 (Zi l)) (hk:Uw x=f7 k) (hx:Tz x=gC) (hl:l.length<sizeLine):TM S (.ref n) x z=f7 (S.set n (Zi (XT l k x z))):=by
 unfold TM;dsimp only;rw[h];cases l with
 |nil=>
  unfold Zi;dsimp only;rw[hx,hk];rfl
 |cons p l=>
  unfold Zi;dsimp only[A0];rw[if_pos hl,hk];dsimp only[Aa];unfold XT;split<;>rfl
theorem YJ {l:List (NK×Xv×Xv)} {p:NK×Xv×Xv} {k:NK}:yA (p::l) k=if p.1=k then f7 p.2.2 else yA l k:=by
 unfold yA;rw[uL];by_cases h:p.1=k
 .rw[decide_eq_true h,if_pos h];rfl
 .rw[decide_eq_false h,if_neg h]
theorem zil {k k':NK} {y:Xv}:∀{l:List (NK×Xv×Xv)},yA (l.map λp=>if p.1=k then (p.1,p.2.1,y) else p) k'=if k'=k then (yA l k).map (λ_=>y) else yA l k'
 |[]=>by simp[yA]
 |p::l=>by
  rw[uE,YJ,zil (l:=l),YJ,YJ];by_cases h:p.1=k
  .rw[if_pos h,if_pos h];dsimp only;by_cases h2:k'=k
   .rw[if_pos (h.trans h2.symm),if_pos h2];rfl
   .rw[if_neg (λz=>h2 (z.symm.trans h)),if_neg h2,if_neg h2,if_neg (λz=>h2 (z.symm.trans h))]
  .rw[if_neg h,if_neg h];by_cases h2:k'=k
   .rw[if_pos h2,if_pos h2,if_neg (λz=>h (z.trans h2))]
   .rw[if_neg h2,if_neg h2]
theorem zim {k k':NK} {x y:Xv}:∀{l:List (NK×Xv×Xv)},yA l k=gC->yA (l++[(k,x,y)]) k'=if k'=k then f7 y else yA l k'
 |[],_=>by
  rw[Cm,YJ];dsimp only;by_cases h:k'=k
  .rw[if_pos h.symm,if_pos h]
  .rw[if_neg (λz=>h z.symm),if_neg h]
 |p::l,hn=>by
  rw[YJ] at hn;by_cases h:p.1=k
  .rw[if_pos h] at hn;cases hn
  .rw[if_neg h] at hn;rw[A0,YJ,zim hn,YJ];by_cases h2:k'=k
   .rw[if_pos h2,if_pos h2,if_neg (λz=>h (z.trans h2))]
   .rw[if_neg h2,if_neg h2]
theorem zeK {l:List (NK×Xv×Xv)} {k k':NK} {x y:Xv}:yA (XT l k x y) k'=if k'=k then f7 y else yA l k':=by
 unfold XT;split
 .rename_i h;obtain⟨u,hu⟩:=y7.1 h;rw[zil,hu];rfl
 .rename_i h;exact zim (by simpa using h)
theorem zm7 {l:List (NK×Xv×Xv)} {k:NK} {x y:Xv}:(XT l k x y).length<=l.length+1:=by
 unfold XT;split<;>simp
def VaL (fs:List zC) (st:List Nat) (as:List Nat) (qs:List Q2):Prop:=as.length=qs.length/\∀(i a:Nat) q,as[i]? =f7 a->qs[i]? =f7 q->∃h,VA fs st q h a
def ExL (fs:List zC) (as:List Nat):Prop:=∀a∈as,∃f,fs[a]? =f7 f
theorem ExL.mono (h:ExL fs as) (p:fs<+:fs'):ExL fs' as:=λa ha=>by
 obtain⟨f,e⟩:=h a ha;exact⟨f,xn p e⟩
theorem VaL.back {st:List Nat} {qs:List Q2} (v:VaL fs' st as qs) (w:WF ss fs) (p:fs<+:fs') (hs:yt ss st) (e:ExL fs as):VaL fs st as qs:=⟨v.1,λi a q e1 e2=>by
 obtain⟨h,u⟩:=v.2 i a q e1 e2;obtain⟨f,ef⟩:=e a (ud e1)
 exact⟨_,u.back w p hs ef⟩⟩
theorem VaL.ex {st:List Nat} (w:WF ss fs) (hs:yt ss st):∀{as:List Nat},ExL fs as->∃qs,VaL fs st as qs
 |[],_=>⟨[],rfl,λi a q e=>by simp at e⟩
 |a::r,h=>by
  obtain⟨f,e⟩:=h a uv;obtain⟨q,v⟩:=w.val' hs e;obtain⟨qs,hl,u⟩:=VaL.ex w hs (as:=r) λb hb=>h b (uj _ hb);refine⟨q::qs,by simp[hl],λi b p e1 e2=> ?_⟩;cases i with
  |zero=>simp at e1 e2;subst e1 e2;exact⟨_,v⟩
  |succ i=>exact u i b p (by simpa using e1) (by simpa using e2)
structure Ug (ss:List Nat) (F:List Q2->Q2) (fs:List zC) (as:List Nat) (r:Nat):Prop where
 ex:ExL fs as
 lv:∃fr,fs[r]? =f7 fr/\∀l,(∀a∈as,∀f,fs[a]? =f7 f->l<=lvl ss.length f)->l<=lvl ss.length fr
 va:∀st,yt ss st->∀qs,VaL fs st as qs->∃h,VA fs st (F qs) h r
theorem Ug.mono {r:Nat} (g:Ug ss F fs as r) (w:WF ss fs) (p:fs<+:fs'):Ug ss F fs' as r:=by
 obtain⟨fr,er,hl⟩:=g.lv;refine⟨g.ex.mono p,⟨fr,xn p er,λl h=>hl l λa ha f e=>h a ha f (xn p e)⟩,λst hs qs v=> ?_⟩;obtain⟨h,u⟩:=g.va st hs qs (v.back w p hs g.ex);exact⟨h,u.mono p⟩
def VbL (G:List Q2->Prop) (ss:List Nat) (fs:List zC) (as:List Nat):Prop:=∀st,yt ss st->∀qs,VaL fs st as qs->G qs
theorem VbL.mono {G:List Q2->Prop} (v:VbL G ss fs as) (w:WF ss fs) (p:fs<+:fs') (e:ExL fs as):VbL G ss fs' as:=λst hs qs u=>v st hs qs (u.back w p hs e)
structure JS (sn fn dn kn:Nat) (bx:Xv) (ss:List Nat) (F:List Q2->Q2) (fs:List zC) (l:List (NK×Xv×Xv)) (S:Sto):Prop where
 st:yG sn fn dn bx fs S
 wf:WF ss fs
 kd:S[kn]? =f7 (Zi l)
 kl:∀k y,yA l k=f7 y->∃(as:List Nat) (r:Nat),k=kL as/\y= .int (r:Int)/\Ug ss F fs as r
 ne:kn≠dn
theorem zjl {l:List (NK×Xv×Xv)} {m:List Xv}:Zi l≠ .lst m:=by cases l<;>simp[Zi]
theorem zjm {l:List (NK×Xv×Xv)} {c:Str} {m:List (Str×Xv)}:Zi l≠ .ins c m:=by cases l<;>simp[Zi]
section
variable {l l' l2:List (NK×Xv×Xv)}
theorem JS.kf (h:JS sn fn dn kn bx ss F fs l S):kn≠fn:=λe=>by
 obtain⟨xs,_,e1,_⟩:=h.st.fd';have h1:=h.kd;rw[e,e1] at h1;exact zjl (uK h1).symm
theorem JS.ks (h:JS sn fn dn kn bx ss F fs l S):kn≠sn:=λe=>by
 have h1:=h.kd;rw[e,h.st.o] at h1;exact zjm (uK h1).symm
noncomputable abbrev wJ (fn dn kn:Nat):Nat->Prop:=λn=>n=fn\/n=dn\/n=kn
structure JP (sn fn dn kn:Nat) (bx:Xv) (ss:List Nat) (F:List Q2->Q2) (m:Nat) (fs:List zC) (l:List (NK×Xv×Xv)) (S:Sto) (fs':List zC) (l':List (NK×Xv×Xv)) (S':Sto):Prop where
 js:JS sn fn dn kn bx ss F fs' l' S'
 pre:fs<+:fs'
 fl:fs'.length<=fs.length+m
 ll:l'.length<=l.length+m
 kp:Kp (wJ fn dn kn) S S'
theorem JS.pre (h:JS sn fn dn kn bx ss F fs l S) (p:S<+:S'):JS sn fn dn kn bx ss F fs l S':=⟨h.st.pre p,h.wf,xn p h.kd,h.kl,h.ne⟩
theorem JS.grown {m:Nat} (h:JS sn fn dn kn bx ss F fs l S) (w:WF ss fs') (g:yy sn fn dn bx fs m S fs' S'):JS sn fn dn kn bx ss F fs' l S':=
 ⟨g.st,w,g.kp.2 _ _ h.kd (λz=>by rcases z with z|z;exact h.kf z;exact h.ne z),λk y e=>by
  obtain⟨a,r,e1,e2,e3⟩:=h.kl k y e
  exact⟨a,r,e1,e2,e3.mono h.wf g.pre⟩,h.ne⟩
theorem JP.grown {m:Nat} (h:JS sn fn dn kn bx ss F fs l S) (w:WF ss fs') (g:yy sn fn dn bx fs m S fs' S'):JP sn fn dn kn bx ss F m fs l S fs' l S':=
 ⟨h.grown w g,g.pre,g.len,⋯,g.kp.mono λn z=>z.elim .inl λz=> .inr (.inl z)⟩
theorem JP.trans {m m':Nat} {d3 bC:List zC} (a:JP sn fn dn kn bx ss F m fs l S d3 l' S') (b:JP sn fn dn kn bx ss F m' d3 l' S' bC l2 S2):JP sn fn dn kn bx ss F (m+m') fs l S bC l2 S2:=
 ⟨b.js,a.pre.trans b.pre,by have:=a.fl;have:=b.fl;omega,by have:=a.ll;have:=b.ll;omega,a.kp.trans b.kp⟩
theorem JP.more {m m':Nat} {d3:List zC} (a:JP sn fn dn kn bx ss F m fs l S d3 l' S') (h:m<=m'):JP sn fn dn kn bx ss F m' fs l S d3 l' S':=⟨a.js,a.pre,by have:=a.fl;omega,by have:=a.ll;omega,a.kp⟩
theorem JP.app {m:Nat} {d3:List zC} (a:JP sn fn dn kn bx ss F m fs l S d3 l' S') (p:S'<+:S2):JP sn fn dn kn bx ss F m fs l S d3 l' S2:=⟨a.js.pre p,a.pre,a.fl,a.ll,a.kp.trans (Kp.pre p)⟩
theorem JS.jp (h:JS sn fn dn kn bx ss F fs l S) (p:S<+:S'):JP sn fn dn kn bx ss F 0 fs l S fs l S':=⟨h.pre p,uU _,⋯,⋯,Kp.pre p⟩
theorem JP.set {m n:Nat} {c:Ce} {d3:List zC} (h:JS sn fn dn kn bx ss F fs l S) (a:JP sn fn dn kn bx ss F m fs l S d3 l' S') (hn:S.length<=n):JP sn fn dn kn bx ss F m fs l S d3 l' (S'.set n c):=by
 have q:∀{k:Nat} {d:Ce},S[k]? =f7 d->n≠k:=λ{k d} e=>by have:=(u9.1 e).1;omega
 obtain⟨_,_,z1,z2⟩:=h.st.fd';obtain⟨xs,u1,u2,u3⟩:=a.js.st.fd';exact⟨⟨⟨xx a.js.st.o (q h.st.o),⟨xs,u1,xx u2 (q z1),xx u3 (q z2)⟩,a.js.st.nd⟩,a.js.wf,xx a.js.kd (q h.kd),a.js.kl,a.js.ne⟩,a.pre,a.fl,a.ll,a.kp.set (.inr hn)⟩
theorem JS.put {r:Nat} (h:JS sn fn dn kn bx ss F fs l S) (g:Ug ss F fs as r):JP sn fn dn kn bx ss F 1 fs l S fs (XT l (kL as) (zcV as) (.int (r:Int))) (S.set kn (Zi (XT l (kL as) (zcV as) (.int (r:Int))))):=by
 obtain⟨xs,u1,u2,u3⟩:=h.st.fd';refine⟨⟨⟨xx h.st.o h.ks,⟨xs,u1,xx u2 h.kf,xx u3 h.ne⟩,h.st.nd⟩,h.wf,wk h.kd,λk y e=> ?_,h.ne⟩,uU _,⋯,zm7,(Kp.refl _).set (.inl (.inr (.inr rfl)))⟩;rw[zeK] at e;split at e
 .rename_i q;cases e;exact⟨as,r,q,rfl,g⟩
 .exact h.kl k y e
end
def KdL (ss:List Nat) (fs:List zC) (as:List Nat) (lv m:Nat) (bs:List Nat):Prop:=bs.length=as.length/\∀(i a b:Nat),as[i]? =f7 a->bs[i]? =f7 b->Kd ss fs a lv m b
theorem KdL.mono {bs:List Nat} {lv m:Nat} (h:KdL ss fs as lv m bs) (p:fs<+:fs'):KdL ss fs' as lv m bs:=⟨h.1,λi a b e1 e2=>(h.2 i a b e1 e2).mono p⟩
theorem KdL.of {bs:List Nat} {lv m b:Nat} (h:KdL ss fs as lv m bs) (hb:b∈bs):∃a∈as,Kd ss fs a lv m b:=by
 obtain⟨i,e⟩:=z5 hb;have hi:i<as.length:=by rw[<-h.1];exact (u9.1 e).1
 exact⟨_,y4 hi,h.2 i _ b (u6 hi) e⟩
theorem KdL.va {bs:List Nat} {lv m:Nat} {st:List Nat} {qs:List Q2} (h:KdL ss fs as lv m bs) (v:VaL fs st as qs) (e:st[lv]? =f7 m):VaL fs st bs qs:=⟨h.1.trans v.1,λi b q e1 e2=>by
 have hi:i<as.length:=by rw[<-h.1];exact (u9.1 e1).1
 have ea:as[i]? =f7 as[i]:=u6 hi;obtain⟨_,u⟩:=v.2 i _ q ea e2
 exact (h.2 i _ b ea e1).va u e⟩
theorem Kd.up {a lv m s k h:Nat} {st:List Nat} {q:Q2} (d:Kd ss fs a lv m k) (w:WF ss fs) (es:ss[lv]? =f7 s) (hs:yt ss st) (u:VA fs st q h k):∃h',VA fs (st.set lv m) q h' a:=by
 rcases d with⟨ks,e1,e2⟩|⟨rfl,f,e1,e2⟩
 .obtain⟨_,f,e3,e4⟩:=(w.ok a lv ks e1).2.1 k (ud e2);have hl:lv<st.length:=by rw[hs.1];exact (u9.1 es).1
  exact⟨_,.fork e1 (by rw[uZ,if_pos rfl,if_pos hl]) e2 (u.other w zhs e3 e4)⟩
 .exact⟨_,u.other w zhs e1 e2⟩
theorem KdL.vb {G:List Q2->Prop} {bs:List Nat} {lv m s:Nat} (h:KdL ss fs as lv m bs) (w:WF ss fs) (v:VbL G ss fs as) (es:ss[lv]? =f7 s) (hm:m<s):VbL G ss fs bs:=λst hs qs u=>by
 refine v _ (hs.set es hm) qs ⟨h.1.symm.trans u.1,λi a q e1 e2=> ?_⟩;have hi:i<bs.length:=by rw[h.1];exact (u9.1 e1).1
 have eb:bs[i]? =f7 bs[i]:=u6 hi;obtain⟨_,u⟩:=u.2 i _ q eb e2;exact (h.2 i a _ e1 eb).up w es hs u
theorem zm8 {ns:List Int} {v:Int} (h:v∈ns) (hl:∀n∈ns,v<=n):zji ns=v:=by
 have key:∀(l:List Int) (a:Int),v<=a->(∀n∈l,v<=n)->(a=v\/v∈l)->l.foldl (λa b=>if b<a then b else a) a=v:=by
  intro l
  induction l with
  |nil=>intro a _ _ h;rcases h with h|h;exact h;cases h
  |cons b r ih=>
   intro a h1 h2 h3;rw[Dm];have hb:=h2 b uv;have hr:∀n∈r,v<=n:=λn hn=>h2 n (uj _ hn);split
   .refine ih b hb hr ?_;rcases h3 with h3|h3
    .omega
    .rcases uy.1 h3 with h3|h3
     .exact .inl h3.symm
     .exact .inr h3
   .refine ih a h1 hr ?_;rcases h3 with h3|h3
    .exact .inl h3
    .rcases uy.1 h3 with h3|h3
     .exact .inl ⋯
     .exact .inr h3
 unfold zji;cases ns with
 |nil=>cases h
 |cons a r=>exact key _ _ (hl a uv) hl (.inr h)
theorem znQ {cap:List (Option Nat)} {m e:TwE} {ρ:Rho} {P:Xv->Sto->Prop} {xs us:List Xv} (hn:W (m ρ S) λz S'=>z= .tup xs/\S'=S) (hl:us.length=xs.length) (hx:xs.length<=100) (h:∀(i:Nat) x u,xs[i]? =f7 x->us[i]? =f7 u->W (e ((xM cap ρ).set 0 (f7 x)) S) λw S'=>w=u/\S'=S) (k:P (.ref S.length) (S++[.lst us])):
  W (xh cap (iT m) (gN 0) yY e ρ S) P:=by
 refine xp (TH (hn.imp ?_));rintro _ _ ⟨rfl,rfl⟩;refine⟨_,rfl,_,rfl,?_⟩;rename_i S;refine yQ (v8 (zco hx)) (λi es S2=>S2=S/\es=us.take i) (λ_ _ _ _ _=>rfl) ?_ ⟨rfl,rfl⟩ ?_
 .rintro i w es S2 hw gI ⟨rfl,rfl⟩;have hi:=(u9.1 hw).1;have hu:us[i]? =f7 us[i]:=u6 ⋯;refine .of rfl ?_;ext;refine⟨rfl,(h i w _ hw hu).imp ?_⟩;rintro _ _ ⟨rfl,rfl⟩;exact⟨rfl,(uO ⋯).symm⟩
 .rintro es S2 _ ⟨rfl,rfl⟩;rw[Ct ⋯];exact k
end
section
variable {fu:Nat} {S S' S2:Sto} {x y z:Xv} {sn fn dn kn:Nat} {fs fs':List zC} {ss:List Nat} {F:List Q2->Q2} {bl:List Xv} {l l':List (NK×Xv×Xv)} {as:List Nat}
noncomputable def isF:zC->Bool
 | .leaf _=>kb
 | .fork _ _=>ia
def DpL (ss:List Nat) (fs:List zC) (as:List Nat) (d:Nat):Prop:=∀a∈as,∀f,fs[a]? =f7 f->ss.length<=lvl ss.length f+d
def Jn (G:List Q2->Prop) (fu sn fn dn kn:Nat) (bl:List Xv) (ss:List Nat) (F:List Q2->Q2) (xs:Xv) (rj:TwF) (d c:Nat):Prop:=
 ∀{S:Sto} {fs:List zC} {l:List (NK×Xv×Xv)} {as:List Nat},JS sn fn dn kn (.tup bl) ss F fs l S->ExL fs as->1<=as.length->as.length<=12->DpL ss fs as d->VbL G ss fs as->fs.length+c<=1000000->l.length+c<=1000000->
  W (rj [.ref sn,zcV as,xs,.ref kn] S) λv S'=>∃(r:Nat) (fs':List zC) (l':List (NK×Xv×Xv)),v= .int (r:Int)/\Ug ss F fs' as r/\JP sn fn dn kn (.tup bl) ss F c fs l S fs' l' S'
noncomputable def lvF (n:Nat) (fs:List zC) (a:Nat):Nat:=match fs[a]? with
 |some f=>lvl n f
 |none=>0
theorem zhu {a:Nat} {f:zC} {n:Nat} (e:fs[a]? =f7 f):lvF n fs a=lvl n f:=by unfold lvF;rw[e]
theorem zjn (ks:List Nat):Tw (ksX ks)=f7 (ks.map λ(k:Nat)=>(k:Int)):=by
 have:=zi7 (ks.map λ(k:Nat)=>(k:Int));rw[C8] at this;exact this
theorem zf2 {P:Nat->Nat->Prop}:∀{as:List Nat},(∀a∈as,∃k,P a k)->∃cs:List Nat,cs.length=as.length/\∀(n a k:Nat),as[n]? =f7 a->cs[n]? =f7 k->P a k
 |[],_=>⟨[],rfl,λn a k e=>by simp at e⟩
 |a::r,h=>by
  obtain⟨k,hk⟩:=h a uv;obtain⟨cs,h1,h2⟩:=zf2 (P:=P) (as:=r) λb hb=>h b (uj _ hb);refine⟨k::cs,by simp[h1],λn b k' e1 e2=> ?_⟩;cases n with
  |zero=>simp at e1 e2;subst e1 e2;exact hk
  |succ n=>exact h2 n b k' (by simpa using e1) (by simpa using e2)
theorem zlt {G:List Q2->Prop} (cb:Bx ss bl) {xs:Xv} {rj rb:TwF} {lv s c:Nat} (hj:Jn G fu sn fn dn kn bl ss F xs rj (ss.length-lv-1) c) (h:JS sn fn dn kn (.tup bl) ss F fs l S) (ex:ExL fs as) (h1:1<=as.length) (kc:as.length<=12) (es:ss[lv]? =f7 s)
  (ha:∀a∈as,∀f,fs[a]? =f7 f->lv<=lvl ss.length f) (hm:∃a∈as,∃f,fs[a]? =f7 f/\lvl ss.length f=lv) (va:VbL G ss fs as) (hf:fs.length+(1+s*c)<=1000000) (hl:l.length+(1+s*c)<=1000000):
  W (zK 4 4 (yL fu rj rb) [.ref sn,zcV as,xs,.ref kn] S) λv S'=>∃(r:Nat) (fs':List zC) (l':List (NK×Xv×Xv)),v= .int (r:Int)/\Ug ss F fs' as r/\JP sn fn dn kn (.tup bl) ss F (1+s*c) fs l S fs' l' S':=by
 have iP:=cb.siz s (ud es);have jw:=(u9.1 es).1;walk_at "wr";unfold yL;refine zh (yd (xX (zg ?_)));refine znQ (xs:=ksX as) (us:=ksX (as.map (lvF ss.length fs))) (zj rfl ⟨rfl,rfl⟩) (by rw[xf,xf,uw]) (by rw[xf];omega) (λi x u e1 e2=> ?_) ?_
 .obtain⟨a,ea,rfl⟩:=Ut e1;obtain⟨b,eb,rfl⟩:=Ut e2;rw[uf,ea] at eb;cases eb;obtain⟨f,ef⟩:=ex a (ud ea);dsimp only[xM,uY,ui];refine ye ?_;ext;refine⟨_,_,rfl,h.st.o,rfl,?_⟩;ext;rw[zhu ef];exact zcp h.st cb.len ef
 ext
 refine zmV (ns:=(as.map (lvF ss.length fs)).map λ(k:Nat)=>(k:Int)) wc (zjn _) (λz=>by
  have:=congrArg Cr z;simp at this;subst this
  simp at h1) ?_
 rw[zm8 (v:=(lv:Int)) (by
  obtain⟨a,iD,f,ef,e⟩:=hm;rw[x8];exact⟨lv,x8.2 ⟨a,iD,by rw[zhu ef,e]⟩,rfl⟩) (λn hn=>by
  obtain⟨k,hk,rfl⟩:=x8.1 hn;obtain⟨a,iD,rfl⟩:=x8.1 hk;obtain⟨f,ef⟩:=ex a iD;rw[zhu ef]
  exact Int.ofNat_le.2 (ha a iD f ef))]
 dsimp only[ui];have j0:=h.jp (ua S [.lst (ksX (as.map (lvF ss.length fs)))]);generalize S++[Ce.lst (ksX (as.map (lvF ss.length fs)))]=S1 at j0;ext;have o3:S.length<=S1.length:=j0.kp.1;have j1:=j0.app (ua S1 [.lst []]);have pC:(S1++[Ce.lst []])[S1.length]? =f7 (.lst (ksX [])):=yF;generalize tQ:S1++[Ce.lst []]=S2 at j1 pC;refine vj (wU (ym (ym (yM ?_))));ext;refine⟨_,_,_,rfl,j1.js.st.o,rfl,?_⟩;ext;obtain⟨nm,jB⟩:=cb.at_ lv s es;refine yh (l:=bl) rfl (yJ jB) ?_;ext;refine⟨⟨⋯,⋯⟩,_,rfl,?_⟩;rw[uM]
 refine xT (xs:=xL 0 s) (λi ρ S3=>∃(cZ:List zC) (l3:List (NK×Xv×Xv)) (ks:List Nat) (a6 a7:Option Xv),ρ=[f7 (.ref sn),f7 (zcV as),f7 xs,f7 (.ref kn),f7 (.int (lv:Int)),f7 (.ref S1.length),a6,a7]/\JP sn fn dn kn (.tup bl) ss F (i*c) fs l S cZ l3 S3/\S3[S1.length]? =f7 (.lst (ksX ks))/\ks.length=i/\
   ∀(m k:Nat),ks[m]? =f7 k->∃cs,KdL ss cZ as lv m cs/\Ug ss F cZ cs k) (λ_ _ _ _ _=>rfl) ?_ ?_ ?_
 .rintro i w ρ S3 hw ⟨cZ,l3,ks,a6,a7,rfl,j3,ja,fX,fO⟩;obtain⟨hi,rfl⟩:=xk hw;rw[y9];refine .of rfl ?_;dsimp only[ui];have w3:=j3.js.wf;have kid:∀a∈as,∃k,Kd ss cZ a lv i k/\W (yV fu [.ref sn,.int (a:Int),.int (lv:Int),.int (i:Int)] S3) λv S'=>v= .int (k:Int)/\S'=S3:=λa iD=>by
   obtain⟨f,ef⟩:=ex a iD;exact zij (fu:=fu) j3.js.st w3 cb.len (xn j3.pre ef) (ha a iD f ef) es hi
  obtain⟨cs,jW,gJ⟩:∃cs:List Nat,cs.length=as.length/\∀(n a k:Nat),as[n]? =f7 a->cs[n]? =f7 k->Kd ss cZ a lv i k/\W (yV fu [.ref sn,.int (a:Int),.int (lv:Int),.int (i:Int)] S3) λv S'=>v= .int (k:Int)/\S'=S3:=zf2 kid;have kd:KdL ss cZ as lv i cs:=⟨jW,λn a k e1 e2=>(gJ n a k e1 e2).1⟩;refine zh (yd (xX (zg ?_)));refine znQ (xs:=ksX as) (us:=ksX cs) (zj rfl ⟨rfl,rfl⟩) (by rw[xf,xf,jW]) (by rw[xf];omega) (λn x u e1 e2=> ?_) ?_
  .obtain⟨a,ea,rfl⟩:=Ut e1;obtain⟨k,ek,rfl⟩:=Ut e2;dsimp only[xM,uY,ui];refine ye ?_;ext;refine⟨_,_,rfl,j3.js.st.o,rfl,?_⟩;ext;exact (gJ n a k ea ek).2
  ext;refine Wb yF ?_;dsimp only[ui];have j4:=j3.app (ua S3 [.lst (ksX cs)]);have jT:=xn (ua S3 [Ce.lst (ksX cs)]) ja;generalize S3++[Ce.lst (ksX cs)]=S4 at j4 jT;refine zbh (zbY ?_);ext;refine⟨⟨_,zG jT⟩,zg (ye ?_)⟩;ext;refine⟨_,_,rfl,j4.js.st.o,rfl,?_⟩;ext;have o7:(i+1)*c<=s*c:=v5 _ hi;have kZ:(i+1)*c=i*c+c:=Ad i c;have f3:=j3.fl;have g3:=j3.ll;have exc:ExL cZ cs:=λk hk=>by
   obtain⟨a,_,d⟩:=kd.of hk;obtain⟨f,e,_⟩:=d.lv w3;exact⟨f,e⟩
  have sS:DpL ss cZ cs (ss.length-lv-1):=λk hk f e=>by
   obtain⟨a,_,d⟩:=kd.of hk;obtain⟨f',e',jx⟩:=d.lv w3;rw[e] at e';cases e';omega
  refine (hj j4.js exc ⋯ ⋯ sS (kd.vb w3 (va.mono h.wf j3.pre ex) es hi) ⋯ ⋯).imp ?_;rintro _ S5 ⟨r,sM,l5,rfl,gd,j5⟩;ext;have gH:¬wJ fn dn kn S1.length:=λz=>by
   have q:∀{n:Nat} {d:Ce},S[n]? =f7 d->S1.length≠n:=λ{n d} e z=>by have:=(u9.1 e).1;omega
   obtain⟨_,_,z1,z2⟩:=h.st.fd';rcases z with z|z|z
   .exact q z1 z
   .exact q z2 z
   .exact q h.kd z
  have ko:=j5.kp.2 _ _ jT gH;have qD:=j4.trans j5;refine zaB (Zk ko) (by rw[xf];exact zco ⋯) ?_;refine⟨sM,l5,ks++[r],_,_,rfl,(qD.set h o3).more ⋯,?_,by simp[fX],λm k e=> ?_⟩
  .rw[wk ko,WP]
  .rcases x5 m ks.length with ft|ft|ft
   .rw[uc ft] at e;obtain⟨cs',d1,g⟩:=fO m k e;exact⟨cs',d1.mono j5.pre,g.mono w3 j5.pre⟩
   .subst ft;rw[ur (ug _),A2] at e;cases e;rw[fX];exact⟨cs,kd.mono j5.pre,gd⟩
   .rw[uA (by simp;omega)] at e;cases e
 .exact⟨fs,l,[],gC,gC,rfl,j1.more ⋯,pC,rfl,λm k e=>by simp at e⟩
 .rintro ρ S3 ⟨cZ,l3,ks,a6,a7,rfl,j3,ja,fX,fO⟩;rw[zY] at j3 fX;have w3:=j3.js.wf;have f3:=j3.fl;have g3:=j3.ll;have h0:ks[0]? =f7 ks[0]:=u6 ⋯;refine yk (ye ?_);ext;refine⟨_,_,rfl,j3.js.st.o,rfl,?_⟩;ext;refine (zeJ j3.js.st ⋯ ja h0 ⋯).imp ?_;rintro _ S4 ⟨r,gL,rfl,fo,ad,g⟩;have iU:∀k∈ks,∃f,cZ[k]? =f7 f/\lv<lvl ss.length f:=λk hk=>by
   obtain⟨m,ft⟩:=z5 hk;obtain⟨cs,d1,gd⟩:=fO m k ft;obtain⟨fr,q3,q4⟩:=gd.lv;refine⟨fr,q3,q4 (lv+1) λb hb f e=> ?_⟩;obtain⟨a,_,d⟩:=d1.of hb;obtain⟨f',e',jx⟩:=d.lv w3;rw[e] at e';cases e';exact jx
  have w4:WF ss gL:=by
   rcases ad with rfl|⟨gn,ad⟩
   .exact w3
   .refine w3.fork g.st.nd (.inr ad) es fX iU λz=>gn λk hk=> ?_;exact z k hk ks[0] (y4 _)
  have p4:=j3.pre.trans g.pre;refine⟨r,gL,l3,rfl,⟨ex.mono p4,?_,λst hs qs v=> ?_⟩,(j3.trans (JP.grown j3.js w4 g)).more ⋯⟩
  .have jq:∀q,(∀a∈as,∀f,gL[a]? =f7 f->q<=lvl ss.length f)->q<=lv:=λq hq=>by
    obtain⟨a,iD,f,ef,e⟩:=hm;have:=hq a iD f (xn p4 ef);omega
   obtain⟨k0,e0,⟨all,rfl⟩|⟨_,e⟩⟩:=fo
   .obtain⟨f,e1,e2⟩:=iU r (ud e0);exact⟨f,xn g.pre e1,λq hq=>by have:=jq q hq;omega⟩
   .exact⟨_,e,λq hq=>jq q hq⟩
  .obtain⟨m,em,ft⟩:=hs.get es;have ek:ks[m]? =f7 ks[m]:=u6 ⋯;obtain⟨cs,d1,gd⟩:=fO m _ ek;obtain⟨h3,u3⟩:=(gd.mono w3 g.pre).va st hs qs ((d1.mono g.pre).va v em);exact⟨_,fo.va em ek u3⟩
end
section
variable {fu:Nat} {S S' S2:Sto} {x y z:Xv} {sn fn dn kn:Nat} {fs fs':List zC} {ss:List Nat} {F:List Q2->Q2} {bl:List Xv} {l l':List (NK×Xv×Xv)} {as:List Nat} {G:List Q2->Prop}
theorem zpc {f:zC} {i:Nat} (w:WF ss fs) (e:fs[i]? =f7 f) (h:isF f=ia):lvl ss.length f<ss.length:=by
 cases f with
 |leaf q=>cases h
 |fork lv ks=>
  obtain⟨⟨s,es,_⟩,_⟩:=w.ok i lv ks e;exact (u9.1 es).1
def zin (fu sn fn dn:Nat) (bl:List Xv) (ss:List Nat) (G:List Q2->Prop) (F:List Q2->Q2) (xs:Xv):Prop:=∃(L:xq) (bz:List Xv) (tw:List Xv->TwF),xs= .lam L bz/\Yq [(zab,zdw fu),(zac,zdx fu)] L=f7 tw/\
 ∀{S:Sto} {fs:List zC} {as:List Nat},yG sn fn dn (.tup bl) fs S->WF ss fs->ExL fs as->1<=as.length->as.length<=12->VbL G ss fs as->fs.length+1<=1000000->W (tw bz [zcV as] S) λw S'=>(w= .non/\(∃a∈as,∃f,fs[a]? =f7 f/\isF f=ia)/\S<+:S')\/∃(r:Nat) (fs':List zC),w= .int (r:Int)/\Ug ss F fs' as r/\WF ss fs'/\yy sn fn dn (.tup bl) fs 1 S fs' S'
theorem zqz (ex:ExL fs as) (h:∃a∈as,∃f,fs[a]? =f7 f/\isF f=ia) (w:WF ss fs):∃lv s,ss[lv]? =f7 s/\(∀a∈as,∀f,fs[a]? =f7 f->lv<=lvl ss.length f)/\∃a∈as,∃f,fs[a]? =f7 f/\lvl ss.length f=lv:=by
 have key:∀as:List Nat,as≠[]->ExL fs as->∃a∈as,∃f,fs[a]? =f7 f/\∀b∈as,∀g,fs[b]? =f7 g->lvl ss.length f<=lvl ss.length g:=by
  intro as
  induction as with
  |nil=>intro h;exact absurd rfl h
  |cons a r ih=>
   intro _ ex;obtain⟨f,ef⟩:=ex a uv;cases r with
   |nil=>exact⟨a,uv,f,ef,λb hb g eg=>by
     rw[uH] at hb;subst hb;rw[ef] at eg;cases eg
     exact ug _⟩
   |cons b t=>
    obtain⟨a',hm,f',ef',hl⟩:=ih (by simp) λb hb=>ex b (uj _ hb);by_cases q:lvl ss.length f<=lvl ss.length f'
    .refine⟨a,uv,f,ef,λb' hb g eg=> ?_⟩;rcases uy.1 hb with rfl|hb
     .rw[ef] at eg;cases eg;exact ug _
     .exact uC q (hl b' hb g eg)
    .refine⟨a',uj _ hm,f',ef',λb' hb g eg=> ?_⟩;rcases uy.1 hb with rfl|hb
     .rw[ef] at eg;cases eg;omega
     .exact hl b' hb g eg
 obtain⟨a0,pB,f0,e0,hF⟩:=h;obtain⟨a,hm,f,ef,hl⟩:=key as (by rintro rfl;cases pB) ex;have i7:lvl ss.length f<ss.length:=uP (hl a0 pB f0 e0) (zpc w e0 hF);exact⟨_,_,u6 i7,hl,a,hm,f,ef,rfl⟩
theorem zjo (cb:Bx ss bl) {xs:Xv} (hr:zin fu sn fn dn bl ss G F xs):∀(d N:Nat),2*d+1<=N->Jn G fu sn fn dn kn bl ss F xs (zR fu N) d (cst ss d):=by
 obtain⟨L,bz,tw,rfl,hp,ht⟩:=hr;intro d
 induction d using Nat.strongRecOn with
 |_ d ih=>
  intro N hN S fs l as h ex h1 kc dp va hf hl;obtain⟨N,rfl⟩:∃M,N=M+1:=⟨N-1,⋯⟩;have c2:2<=cst ss d:=by unfold cst;cases ss.drop (ss.length-d)<;>simp[wt]
  rw[Zw];walk_at "wr";unfold ZC;refine zh (UQ (λρ S2=>∃(a4:Option Xv) (r:Nat) (fs':List zC) (l':List (NK×Xv×Xv)),ρ=[f7 (.ref sn),f7 (zcV as),f7 (.lam L bz),f7 (.ref kn),a4]/\Ug ss F fs' as r/\yA l' (kL as)=f7 (.int (r:Int))/\JP sn fn dn kn (.tup bl) ss F (cst ss d) fs l S fs' l' S2) (zF ?_) ?_)
  .refine vr (zic ?_);ext;refine⟨_,TD h.kd (zan as) rfl,_,rfl,λz=> ?_,λz=>zo ?_⟩
   .refine zh (yd (zca rfl hp ?_));ext;refine (ht h.st h.wf ex h1 kc va ⋯).imp ?_;rintro w S1 (⟨rfl,hF,p⟩|⟨i,d3,rfl,gd,w1,g⟩)
    .dsimp only[ui];refine zb2 (Vv (vr (zkW ?_)));ext;refine WO.of (show zgR .non S1=f7 (.bl ia,S1) from rfl) ⟨_,rfl,λ_=> ?_,nofun⟩;have j1:=h.jp p;refine ye ?_;ext;refine⟨_,_,rfl,j1.js.st.o,rfl,?_⟩;ext;obtain⟨lv,s,es,l1,l3⟩:=zqz ex hF h.wf;have jw:=(u9.1 es).1;have mq:ss.length<=lv+d:=by
      obtain⟨a,iD,f,ef,e⟩:=l3;have:=dp a iD f ef;omega
     obtain⟨M,rfl⟩:∃M,N=M+1:=⟨N-1,⋯⟩;rw[wG];have hc:2+s*cst ss (ss.length-lv-1)<=cst ss d:=by
      rw[<-zht es];exact zcq (λt ht=>(cb.siz t ht).1) ⋯
     refine (zlt cb (ih (ss.length-lv-1) ⋯ M ⋯) j1.js ex h1 kc es l1 l3 va ⋯ ⋯).imp ?_;rintro _ S2 ⟨r,bC,qu,rfl,gd,j2⟩;ext;have jl:=j2.ll;refine⟨_,zik j2.js.kd (zan as) rfl (uP (show qu.length<=1000000 by omega) ∅),_,r,bC,_,rfl,gd,?_,((j1.trans j2).trans (j2.js.put gd)).more ⋯⟩;rw[zeK,if_pos rfl]
    .dsimp only[ui];refine zb2 (Vv (vr (zkW ?_)));ext;refine WO.of (show zgR (.int (i:Int)) S1=f7 (.bl kb,S1) from rfl) ⟨_,rfl,λz=>(by cases z),λ_=> ?_⟩;ext;have j1:=JP.grown h w1 g;refine⟨_,zik j1.js.kd (zan as) rfl (uP (show l.length<=1000000 by omega) ∅),_,i,d3,_,rfl,gd,?_,(j1.trans (j1.js.put gd)).more ⋯⟩;rw[zeK,if_pos rfl]
   .cases e:yA l (kL as) with
    |none=>rw[e] at z;cases z
    |some y=>
     obtain⟨as',r,e1,rfl,gd⟩:=h.kl _ _ e;obtain rfl:=zpb e1;exact⟨gC,r,fs,l,rfl,gd,e,(h.jp (uU _)).more ⋯⟩
  .rintro _ S2 ⟨a4,r,fs',l',rfl,gd,hv,j⟩;refine yk (zfE ?_);ext;exact⟨_,by rw[TD j.js.kd (zan as) rfl,hv],r,fs',l',rfl,gd,j⟩
theorem zdD (cb:Bx9 ss bl) {xs:Xv} (hr:zin fu sn fn dn bl ss G F xs) (h:yG sn fn dn (.tup bl) fs S) (w:WF ss fs) (ex:ExL fs as) (h1:1<=as.length) (kc:as.length<=12) (va:VbL G ss fs as) (hf:fs.length+cst ss ss.length<=1000000) (hc:cst ss ss.length<=1000000):
  W (zR fu 24 [.ref sn,zcV as,xs,.ref S.length] (S++[.dk []])) λv S'=>∃(r:Nat) (fs':List zC),v= .int (r:Int)/\Ug ss F fs' as r/\WF ss fs'/\yy sn fn dn (.tup bl) fs (cst ss ss.length) S fs' S':=by
 have p:=ua S [Ce.dk []];have hd:=h.flt.2;have js:JS sn fn dn S.length (.tup bl) ss F fs [] (S++[.dk []]):=⟨h.pre p,w,yF,λk y e=>by simp[yA] at e,⋯⟩;refine (zjo cb.toBx hr ss.length 24 (by have:=cb.l9;omega) js ex h1 kc (λa ha f e=>by omega) va hf (by simpa using hc)).imp ?_;rintro _ S2 ⟨r,bC,l2,rfl,gd,j⟩;refine⟨r,bC,rfl,gd,j.js.wf,⟨j.js.st,j.pre,j.fl,⟨by have:=j.kp.1;rw[uD] at this;omega,λn c e nw=> ?_⟩⟩⟩;have hn:=(u9.1 e).1;exact j.kp.2 _ _ (xn p e) λz=>by
  rcases z with z|z|z
  .exact nw (.inl z)
  .exact nw (.inr z)
  .omega
noncomputable def chQ:List Q2->Q2
 |c::qs=>qs.getD c.1.toNat (0,1)
 |[]=>(0,1)
def chG:List Q2->Prop
 |c::qs=>0<=c.1/\c.1.toNat<qs.length
 |[]=>False
theorem zhv (hz:∃st,yt ss st):zin fu sn fn dn bl ss chG chQ (.lam zac [.ref sn]):=⟨zac,[.ref sn],zdx fu,rfl,(zif ∅).trans TR,λ{S fs as} h w ex h1 kc va hf=>by
 cases as with
 |nil=>simp at h1
 |cons a r=>
  obtain⟨f,ef⟩:=ex a uv;unfold zdx;refine TU rfl rfl ?_;unfold zqs;dsimp only[uY,AO,B6,Bt];refine ye ?_;ext;refine⟨_,_,rfl,h.o,rfl,?_⟩;ext;walk_at "wr";unfold wj;obtain⟨fx,fl,fv,hU,fc⟩:=h.fact ef;refine zh (yd (ym (yM ?_)));ext;refine⟨_,_,_,rfl,h.o,rfl,?_⟩;ext;refine yh rfl (yJ (i:=0) (show (ksX (a::r))[0]? =f7 (.int (a:Int)) from rfl)) ?_;refine xU hU fc ?_;dsimp only[ui];cases f with
  |fork lv ks=>
   change fx=_ at fv;subst fv;refine yk (Vv ?_);ext;refine zI ⟨_,rfl,λ_=> ?_,λz=>absurd z ∅⟩;ext;exact .inl ⟨rfl,⟨a,uv,_,ef,rfl⟩,uU _⟩
  |leaf q=>
   obtain⟨yq,rfl,qP⟩:=fv;obtain⟨st,fm⟩:=hz;obtain⟨kH,v0⟩:=VaL.ex w fm ex;have g0:=va st fm kH v0;have pA:∀st',yt ss st'->∀qs,VaL fs st' (a::r) qs->∃qr,qs=q::qr/\qr.length=r.length:=λst' iC qs v=>by
    cases qs with
    |nil=>have:=v.1;simp at this
    |cons p qr=>
     obtain⟨_,u⟩:=v.2 0 a p rfl rfl;have:=u.uniq (.leaf (h:=0) ef);subst this;exact⟨qr,rfl,by have:=v.1;simp at this;omega⟩
   obtain⟨qg,rfl,tK⟩:=pA st fm kH v0;obtain⟨c0,c1⟩:=(show 0<=q.1/\q.1.toNat<qg.length from g0);have er:r[q.1.toNat]? =f7 r[q.1.toNat]:=u6 ⋯;generalize r[q.1.toNat]=k at er;refine yk (Vv ?_);ext;refine zI ⟨_,rfl,λz=>absurd z ∅,λ_=> ?_⟩;ext;refine yh qP zh9 ?_;ext;refine yh rfl (show atI (ksX (a::r)) (1+q.1)=f7 (.int (k:Int)) from ?_) ?_
   .rw[show 1+q.1=((1+q.1.toNat:Nat):Int) by omega];refine yJ ?_;rw[Nat.add_comm];show (ksX r)[q.1.toNat]? =_;exact Uf er
   refine .inr ⟨k,fs,rfl,⟨ex,?_,λst' iC qs v=> ?_⟩,w,h.grown.more ⋯⟩
   .obtain⟨fk,ek⟩:=ex k (uj _ (ud er));exact⟨fk,ek,λl hl=>hl k (uj _ (ud er)) fk ek⟩
   .obtain⟨qr,rfl,tI⟩:=pA st' iC qs v;have eq:qr[q.1.toNat]? =f7 qr[q.1.toNat]:=u6 ⋯;obtain⟨hh,u⟩:=v.2 (q.1.toNat+1) k qr[q.1.toNat] (by simpa using er) (by simpa using eq);refine⟨hh,?_⟩;show VA fs st' (qr.getD q.1.toNat (0,1)) hh k;rw[uG,eq]
    exact u⟩
end
section
variable {fu:Nat} {S S' S2:Sto} {x y z:Xv} {ss:List Nat}
noncomputable def prd:List Nat->Nat
 |[]=>1
 |s::r=>s*prd r
noncomputable def idx:List Nat->List Nat->Nat
 |_::r,x::t=>x*prd r+idx r t
 |_,_=>0
theorem zao:∀(r:List Nat) (s:Nat),prd (r++[s])=prd r*s
 |[],s=>by simp[prd]
 |a::r,s=>by rw[A0,prd,prd,zao r s,Du]
theorem zf3:∀(r t:List Nat) (s x:Nat),r.length=t.length->idx (r++[s]) (t++[x])=idx r t*s+x
 |[],[],s,x,_=>by simp[idx,prd]
 |[],_::_,_,_,h=>by cases h
 |_::_,[],_,_,h=>by cases h
 |a::r,y::t,s,x,h=>by
  rw[A0,A0,idx,idx,zf3 r t s x (by simpa using h),zao,Nat.add_mul,Du];omega
structure ZN (ss:List Nat) (L:List (List Nat)):Prop where
 len:L.length=prd ss
 at_:∀(k:Nat) st,L[k]? =f7 st->yt ss st/\idx ss st=k
noncomputable def zcr (s:Nat) (st:List Nat):List (List Nat):=(v7 s).map λx=>st++[x]
theorem zap {s:Nat} {st:List Nat}:(zcr s st).length=s:=by simp[zcr]
theorem zm9 {s k:Nat} {st w:List Nat} (h:(zcr s st)[k]? =f7 w):k<s/\w=st++[k]:=by
 unfold zcr at h;rw[uf] at h;cases e:(v7 s)[k]? with
 |none=>rw[e] at h;cases h
 |some x=>
  rw[e] at h;cases h;obtain⟨h1,h2⟩:=u9.1 e;simp at h1 h2;exact⟨h1,by rw[h2]⟩
theorem zio {s:Nat} (hs:0<s):∀(L:List (List Nat)) (k:Nat) (w:List Nat),(L.flatMap (zcr s))[k]? =f7 w->∃st,L[k / s]? =f7 st/\w=st++[k % s]
 |[],k,w,h=>by simp at h
 |a::L,k,w,h=>by
  rw[D7] at h;by_cases hk:k<s
  .rw[uc (by rw[zap];exact hk)] at h;obtain⟨h1,h2⟩:=zm9 h;exact⟨a,by rw[Nat.div_eq_of_lt hk];rfl,by rw[Nat.mod_eq_of_lt hk];exact h2⟩
  .rw[ur (by rw[zap];omega),zap] at h;obtain⟨st,h1,h2⟩:=zio hs L (k-s) w h;have hd:k / s=(k-s) / s+1:=Nat.div_eq_sub_div hs ⋯;have hm:k % s=(k-s) % s:=Nat.mod_eq_sub_mod ⋯;exact⟨st,by rw[hd];exact h1,by rw[hm];exact h2⟩
theorem zcs {s:Nat}:∀(L:List (List Nat)),(L.flatMap (zcr s)).length=L.length*s
 |[]=>by simp
 |a::L=>by rw[D7,uD,zap,zcs L,ux,Ad];omega
theorem yt.snoc {st:List Nat} {s x:Nat} (h:yt ss st) (hx:x<s):yt (ss++[s]) (st++[x]):=by
 refine⟨by simp[h.1],λi a t e1 e2=> ?_⟩;rcases x5 i ss.length with hi|hi|hi
 .rw[uc (by rw[h.1];exact hi)] at e1;rw[uc hi] at e2;exact h.2 i a t e1 e2
 .subst hi;rw[ur (ug _),A2] at e2;rw[ur (Az h.1),h.1,A2] at e1;cases e1;cases e2;exact hx
 .rw[uA (by simp;omega)] at e2;cases e2
theorem ZN.ext {L:List (List Nat)} {s:Nat} (h:ZN ss L) (hs:0<s):ZN (ss++[s]) (L.flatMap (zcr s)):=by
 refine⟨by rw[zcs,h.len,zao],λk w e=> ?_⟩;obtain⟨st,h1,rfl⟩:=zio hs L k w e;obtain⟨h2,h3⟩:=h.at_ _ st h1;refine⟨h2.snoc (Nat.mod_lt _ hs),?_⟩;rw[zf3 _ _ _ _ h2.1.symm,h3,Nat.mul_comm];exact Nat.div_add_mod k s
theorem ZN.nil:ZN [] [[]]:=⟨rfl,λk st e=>by
 cases k with
 |zero=>cases e;exact⟨⟨rfl,λi x s e=>by simp at e⟩,rfl⟩
 |succ k=>simp at e⟩
def Uh (L:List (List Nat)):List Xv:=L.map λst=> .tup (ksX st)
theorem zjp {zs:List Xv} (h:yx S y=f7 zs):ZK S y=f7 zs:=by
 cases y with
 |ref n=>exact h
 |_=>cases h
theorem zjq {P:Xv->Sto->Prop} {n:Nat} {l zs:List Xv} (h:UM S x=f7 (n,l)) (h2:yx S y=f7 zs) (hl:l.length+zs.length<=sizeLine) (k:P .non (S.set n (.lst (l++zs)))):WO (YT x [y] S) P:= .of (by
 unfold YT;rw[h];dsimp only
 rw[show ZK S y=f7 zs from zjp h2,uz,if_pos hl]) k
theorem WQ {P:Xv->Sto->Prop} {a b:List Xv} (h:a.length+b.length<=1000) (k:P (.tup (a++b)) S):WO (YV (.tup a) (.tup b) S) P:= .of (by unfold YV;exact if_pos (v8 (uP h ∅))) k
theorem zhw {n:Nat} (h:n<=1000):n<sizeLine:=uP h ∅
noncomputable abbrev K0:Nat->Prop:=λ_=>False
theorem zna {L:List (List Nat)} {k:Nat} {st:List Nat} (h:L[k]? =f7 st):(Uh L)[k]? =f7 (.tup (ksX st)):=by unfold Uh;rw[uf,h];rfl
theorem zf4 {L:List (List Nat)} {k:Nat} {w:Xv} (h:(Uh L)[k]? =f7 w):∃st,L[k]? =f7 st/\w= .tup (ksX st):=by
 unfold Uh at h;rw[uf] at h;cases e:L[k]? with
 |none=>rw[e] at h;cases h
 |some st=>rw[e] at h;cases h;exact⟨st,rfl,rfl⟩
theorem Wc (L:List (List Nat)):(Uh L).length=L.length:=by simp[Uh]
theorem zaX:∀(ss:List Nat) (k:Nat),(∀s∈ss,1<=s)->prd (ss.take k)<=prd ss
 |_,0,h=>by
  rename_i ss;simp only[List.take_zero,prd]
  induction ss with
  |nil=>exact ug _
  |cons s r ih=>
   have:=ih λt ht=>h t (uj _ ht);have:=h s uv;exact Cu ⋯ ⋯
 |[],k+1,_=>by simp
 |s::r,k+1,h=>by
  rw[List.take_succ_cons,prd,prd];exact BI _ (zaX r k λt ht=>h t (uj _ ht))
theorem yt.len9 {L:List (List Nat)} {k:Nat} {st:List Nat} (h:ZN ss L) (e:L[k]? =f7 st):st.length=ss.length:=(h.at_ k st e).1.1
theorem zct {bl:List Xv} (cb:Bx ss bl) (h9:ss.length<=9) (hp:prd ss<=1000):W (wI fu [.tup bl] S) λv S'=>∃(n:Nat) (L:List (List Nat)),v= .ref n/\S'[n]? =f7 (.lst (Uh L))/\ZN ss L/\S.length<=n/\Kp K0 S S':=by
 walk_at "wr";unfold YH;ext;refine vj (TH ?_);ext;have h8:∀s∈ss,1<=s:=λs hs=>(cb.siz s hs).1;refine xT (xs:=bl) (λi ρ S1=>∃(n:Nat) (L:List (List Nat)) (a2 a3 a4:Option Xv),ρ=[f7 (.tup bl),f7 (.ref n),a2,a3,a4]/\S1[n]? =f7 (.lst (Uh L))/\ZN (ss.take i) L/\S.length<=n/\Kp K0 S S1) (λ_ _ _ _ _=>rfl) ?_ ?_ ?_
 .rintro i w ρ S1 hw ⟨n,L,a2,a3,a4,rfl,hn,gl,iS,k1⟩;have hi:i<ss.length:=by rw[<-cb.len];exact (u9.1 hw).1
  have es:ss[i]? =f7 ss[i]:=u6 hi;obtain⟨nm,hb⟩:=cb.at_ i _ es;rw[hw] at hb;cases hb;have iP:=cb.siz _ (y4 hi);have oC:=gl.ext (s:=ss[i]) iP.1;have htk:ss.take i++[ss[i]]=ss.take (i+1):=by rw[uO hi]
  rw[htk] at oC;have kY:(L.flatMap (zcr ss[i])).length<=1000:=by rw[oC.len];exact uC (zaX ss _ h8) hp
  refine .of rfl ?_;dsimp only[ui];ext;refine vj (zdk ?_);ext;have k2:Kp K0 S (S1++[.lst []]):=k1.app;have fq:=xn (ua S1 [Ce.lst []]) hn;have rC:=(u9.1 hn).1;have sH:=k1.1;refine⟨_,zG fq,_,zG fq,?_⟩;refine xT (xs:=Uh L) (λj ρ S2=>∃(a4:Option Xv),ρ=[f7 (.tup bl),f7 (.ref n),f7 (.tup [nm,.int (ss[i]:Int)]),f7 (.ref S1.length),a4]/\S2[n]? =f7 (.lst (Uh L))/\S2[S1.length]? =f7 (.lst (Uh ((L.take j).flatMap (zcr ss[i]))))/\Kp K0 S S2) (λj ρ S2 _ h=>by obtain⟨_,_,h,_⟩:=h;exact zG h) ?_ ?_ ?_
  .rintro j w ρ S2 hw ⟨a4,rfl,h1,h2,k3⟩;obtain⟨st,je,rfl⟩:=zf4 hw;have rk:st.length=i:=by rw[yt.len9 gl je,A6];omega
   have hj:=(u9.1 je).1;refine .of rfl ?_;dsimp only[ui];refine zbh (zbY ?_);ext;refine⟨⟨_,zG h2⟩,zg (xp (wU ?_))⟩;ext;refine⟨⟨⋯,⋯⟩,_,rfl,?_⟩;rw[uM];refine yQ (xs:=xL 0 ss[i]) (by rw[zY];exact v8 (zco ⋯)) (λm es S3=>S3=S2/\es=Uh ((v7 m).map λx=>st++[x])) (λ_ _ _ _ _=>rfl) ?_ ⟨rfl,rfl⟩ ?_
   .rintro m w es S3 hw gI ⟨rfl,rfl⟩;obtain⟨hm,rfl⟩:=xk hw;rw[y9];refine .of rfl ?_;dsimp only[xM,uY,ui];ext;refine⟨rfl,?_⟩;ext;refine WQ (by rw[xf];simp;omega) ⟨rfl,?_⟩;rw[Ck,w6];simp[Uh,ksX]
   .rintro es S3 _ ⟨rfl,rfl⟩;rw[zY];ext;have kz:=xn (ua S3 [Ce.lst (Uh ((v7 ss[i]).map λx=>st++[x]))]) h2;have sJ:=xn (ua S3 [Ce.lst (Uh ((v7 ss[i]).map λx=>st++[x]))]) h1;have rQ:((L.take j).flatMap (zcr ss[i])).length+ss[i]<=1000:=by
     rw[zcs] at kY ⊢;rw[A6];have:(j+1)*ss[i]<=L.length*ss[i]:=v5 _ hj;rw[Ad] at this;have nT:min j L.length=j:=by omega
     rw[nT];omega
    refine zjq (Zk kz) wc (by rw[Wc,Wc,uw,D8];exact v8 (zhw rQ)) ?_;refine⟨f7 (.tup (ksX st)),rfl,xx sJ ⋯,?_,(k3.app).set (.inr ⋯)⟩;rw[wk kz,uO hj,List.flatMap_append,(u9.1 je).2];simp[Uh,zcr]
  .exact⟨_,rfl,fq,yF,k2⟩
  .rintro ρ S2 ⟨a4,rfl,h1,h2,k3⟩;rw[Wc,A1] at h2;ext;exact⟨S1.length,_,_,_,_,rfl,h2,oC,sH,k3⟩
 .exact⟨S.length,[[]],gC,gC,gC,rfl,yF,ZN.nil,ug _,Kp.pre (ua _ _)⟩
 .rintro ρ S1 ⟨n,L,a2,a3,a4,rfl,hn,gl,iS,k1⟩;rw[cb.len,A1] at gl;ext;exact⟨n,L,rfl,hn,gl,iS,k1⟩
end
section
variable {fu:Nat} {mx:Nat} {S S' S2:Sto} {x y:Xv} {ln:Nat}
theorem zeL {P:Xv->Sto->Prop} {a b:Str} (h:a.length+b.length<=sizeLine) (k:P (.str (a++b)) S):WO (Tu (.str a) (.str b) S) P:= .of (by unfold Tu;exact if_pos h) k
theorem zhx {P:Xv->Sto->Prop} {a:Str} {lo hi:Option Int} (h:a.length<=sizeLine) (k:P (.str (Txt.slice a lo hi)) S):WO (zbL (.str a) lo hi S) P:= .of (by unfold zbL;exact if_pos h) k
theorem vp {n:Nat} (h:n<=100):n<=sizeLine:=v8 (zco h)
theorem zjr {α:Type} {l:List α} {i:Nat} {a:α} (h:l[i]? =f7 a):l.take (i+1)=l.take i++[a]:=by
 obtain⟨hi,e⟩:=u9.1 h;rw[uO hi,e]
theorem zf5 {z:Str} {k:Nat} (h:k<=z.length):(Txt.slice z gC (f7 (k:Int))).length=k:=by
 have e1:Bu gC (f7 (k:Int)) 1 z.length=v7 k:=by
  unfold Bu sliceRange;simp only[show (1:Int)>0 by decide,if_true,show ¬(k:Int)<0 by omega,if_false];have e2:max 0 (min (k:Int) (z.length:Int))=(k:Int):=by omega
  rw[e2];have e3:(if (0:Int)<(k:Int) then ((k:Int)-0+1-1) / 1 else 0).toNat=k:=by
   rw[C4];split<;>omega
  rw[e3]
  conv=>rhs;rw[<-List.map_id (v7 k)]
  refine List.map_congr_left λj _=> ?_;show (0+1*(j:Int)).toNat=j;omega
 unfold Txt.slice;rw[e1];split
 .rename_i hh;rw[D8] at hh;simp at hh;exact hh.symm
 .show (List.filterMap _ _).toArray.size=_;rw[uo,zdb z.cps k,A6];show min k z.length=k;omega
theorem zpd {v:Int} (h0:0<=v) (h1:v<26):zfm (.str "abcdefghijklmnopqrstuvwxyz") (.int v) S=f7 (.str ⟨#[97+v.toNat]⟩,S):=by
 have all:∀n:Fin 26,(Str.ofString "abcdefghijklmnopqrstuvwxyz").cps.toList[n.1]? =f7 (97+n.1):=by decide
 obtain⟨n,rfl⟩:∃n:Nat,v=n:=⟨v.toNat,⋯⟩;have e:=all ⟨n,⋯⟩;unfold zfm zpY;dsimp only;rw[if_pos ∅,UR ⋯ (by rw[uM];exact e)];rfl
theorem zlu {n:Int} {k:Nat} (hk:k<=8):W (vN fu [.int n,.int (k:Int)] S) λv S'=>∃z:Str,v= .str z/\z.length=k/\(k=1->z=⟨#[97+(n % 26).toNat]⟩)/\S'=S:=by
 walk_at "wr";unfold WJ;ext;refine vj (wU ?_);ext;refine⟨⟨⋯,⋯⟩,_,rfl,?_⟩;refine xT (λi ρ S2=>∃(m:Int) (z:Str) (a3:Option Xv),ρ=[f7 (.int m),f7 (.int (k:Int)),f7 (.str z),a3]/\z.length=i/\(i=0->m=n/\z="")/\(i=1->z=⟨#[97+(n % 26).toNat]⟩)/\S2=S) (λ_ _ _ _ _=>rfl) ?_ ?_ ?_
 .rintro i w ρ S2 hw ⟨m,z,a3,rfl,hz,h0,h1,rfl⟩;obtain⟨hi,rfl⟩:=xk hw;refine .of rfl ?_;dsimp only[ui];ext;refine Yo ∅ ?_;refine WO.of (zpd (S:=S2) (y6 m (show (26:Int)≠0 by decide)) (z4 m (show (0:Int)<26 by decide))) ?_;have hc:(⟨#[97+(m % 26).toNat]⟩:Str).length=1:=rfl;refine zeL (vp ⋯) ?_;ext;refine zeh ∅ ?_;ext;refine⟨_,_,_,rfl,by rw[Str.length_append];omega,(λh=>by omega),λh=> ?_,rfl⟩;obtain⟨rfl,rfl⟩:=h0 ⋯;rfl
 .exact⟨n,_,gC,rfl,rfl,λ_=>⟨rfl,rfl⟩,(λh=>by cases h),rfl⟩
 .rintro ρ S2 ⟨m,z,a3,rfl,hz,_,h1,rfl⟩;rw[zY,uM] at hz h1;ext;exact⟨hz,h1,rfl⟩
noncomputable def Wd (zs:List Str):List Xv:=zs.map Xv.str
theorem zhy {P:Xv->Sto->Prop} {size:Nat} {ρ:Rho} {cap:List (Option Nat)} {e n:TwE} (g:Nat->Str) (hs:size<=100)
  (hn:W (n ρ S) λv S'=>v= .int (size:Int)/\S'=S)
  (he:∀k:Nat,k<size->W (e ((xM cap ρ).set 0 (f7 (.int (k:Int)))) S) λv S'=>v= .str (g k)/\S'=S)
  (k:P (.ref S.length) (S++[.lst (Wd ((v7 size).map g))])):W (xh cap (iR1 n) (gN 0) yY e ρ S) P:=by
 refine xp (wU (hn.imp ?_));rintro _ S1 ⟨rfl,rfl⟩;refine⟨_,rfl,⟨⋯,⋯⟩,_,rfl,?_⟩;refine yQ (by rw[zY];exact vp ⋯) (λi es S2=>S2=S1/\es=Wd ((v7 i).map g)) (λ_ _ _ _ _=>rfl) ?_ ⟨rfl,rfl⟩ ?_
 .rintro i w es S2 hw gI ⟨rfl,rfl⟩;obtain⟨hi,rfl⟩:=xk hw;rw[y9];refine .of rfl ?_;ext;refine⟨rfl,?_⟩;refine (he i ⋯).imp ?_;rintro _ S3 ⟨rfl,rfl⟩;exact⟨rfl,by rw[Ck];simp[Wd]⟩
 .rintro es S2 hlen ⟨rfl,rfl⟩;rw[zY,uM];exact k
theorem zhz {m:Nat} (g:Nat->Str) (h2:∀i j,i<j->j<m->g i≠g j):((v7 m).map g).Nodup:=by
 rw[List.nodup_iff_pairwise_ne,List.pairwise_map];exact DE (R:=λa b=>a<b) (λ{a b} ha hb gq=>h2 a b gq (Af.1 hb)) List.pairwise_lt_range
theorem zT.app {T:Sto} (h:zT mx ln S):zT mx ln (S++T):=h.keep (Kp.pre (w:=λ_=>False) (ua _ _)) id
theorem zT.lt (h:zT mx ln S):ln<S.length:=by
 obtain⟨ns,en,_⟩:=h;exact (u9.1 en).1
noncomputable def Xi:List Str:=["pass","end","lost","set","hand","draw","if","gain","while","look","times","leaf","fork"]
theorem znb {m:Nat} (hl:zT mx ln S) (hm:m<=9):W (XC fu [.ref ln,.int (m:Int)] S) λv S'=>∃(n:Nat) (zs:List Str),v= .ref n/\zs.length=m/\zs.Nodup/\S'[n]? =f7 (.lst (Wd zs))/\S.length<=n/\zT mx ln S'/\Kp (· =ln) S S':=by
 walk_at "wr";unfold XB;ext;refine (yT hl ∅).imp ?_;rintro _ S1 ⟨way,rfl,w0,w1,l1,k1⟩;ext;refine zF ?_;ext;refine xw (λhc=> ?_) (λhc=> ?_)
 .ext;refine (yT l1.app ∅).imp ?_;rintro _ S2 ⟨tn,rfl,t0,t1,l2,k2⟩;refine yk ?_;have hn:¬S1.length=ln:=by have:=l1.lt;omega
  have e2:=k2.2 _ _ yF hn;have eZ:∀i j:Fin 13,Xi[i.1]? =Xi[j.1]? ->i=j:=by decide
  have hw:∀i:Nat,i<13->Xi[i]? =f7 (Xi.getD i ""):=λi hi=>by
   rw[uG,u6 (show i<Xi.length from hi)];rfl
  refine zhy (λj=>Xi.getD ((tn+(j:Int)) % 13).toNat "") (size:=m) ⋯ (by ext;exact⟨rfl,rfl⟩) ?_ ?_
  .intro k hk;dsimp only[xM,uY,ui];ext;refine Yo ∅ ?_;have h0:=y6 (tn+(k:Int)) (show (13:Int)≠0 by decide);have h1:=z4 (tn+(k:Int)) (show (0:Int)<13 by decide);have e3:(Xi.map Xv.str)[((tn+(k:Int)) % 13).toNat]? =f7 (.str (Xi.getD ((tn+(k:Int)) % 13).toNat "")):=by rw[uf,hw _ ⋯];rfl
   exact xU (zG e2) (UR h0 e3) ⟨rfl,rfl⟩
  .have kk:=k1.trans ((Kp.pre (ua _ _)).trans k2);refine⟨_,_,rfl,by simp,zhz _ λi j pE hj e=> ?_,yF,kk.1,l2.app,kk.app⟩;have h0:=y6 (tn+(i:Int)) (show (13:Int)≠0 by decide);have h1:=z4 (tn+(i:Int)) (show (0:Int)<13 by decide);have h2:=y6 (tn+(j:Int)) (show (13:Int)≠0 by decide);have h3:=z4 (tn+(j:Int)) (show (0:Int)<13 by decide)
   have:=eZ ⟨((tn+(i:Int)) % 13).toNat,⋯⟩ ⟨((tn+(j:Int)) % 13).toNat,⋯⟩ (by
    dsimp only;rw[hw _ ⋯,hw _ ⋯]
    exact congrArg f7 e)
   have:=congrArg Fin.val this;dsimp only at this;omega
 .ext;refine (yT l1 ∅).imp ?_;rintro _ S2 ⟨c,rfl,c0,c1,l2,k2⟩;ext;refine (zlu (k:=8) ∅).imp ?_;rintro _ S3 ⟨z,rfl,hz,_,rfl⟩;have kk:=k1.trans k2;refine zh (zF (UP ?_));ext;have go:∀{N:Rho->Sto->Prop} {R:Xv->Sto->Prop},(∀S4,zT mx ln S4->Kp (· =ln) S S4->∀zs:List Str,zs.length=m->zs.Nodup->R (.ref S4.length) (S4++[.lst (Wd zs)]))->WS (zq (zH (zD (zv fu) [(za 0),(eC (.int 1664))]) (gN 6)) (zq (zH (eOp YK (eC (.int 1)) (eOp Vt (za 6) (eC (.int 8)))) (gN 7)) (zq (zH (eOp Vt (eOp zaT (za 6) (eC (.int 8))) (za 7)) (gN 8)) (zO (xh [gC,f7 5,f7 7,f7 8,f7 6] (iR1 (za 1)) (gN 0) yY (eOp Tu (eOp Tu (eSl zbL (za 1) oNo (WU (za 3))) (zD (vN fu) [(eOp YK (eOp zaT (za 4) (eC (.int 64))) (za 0)),(eC (.int 1))])) (eSl zbL (za 1) (WU (eOp YK (za 3) (eC (.int 1)))) (WU (za 2)))))))) [f7 (.ref ln),f7 (.int (m:Int)),f7 (.int way),gC,gC,f7 (.str z),gC,gC,gC] S3) N R:=by
   intro N R fin;ext;refine (yT l2 ∅).imp ?_;rintro _ S4 ⟨d,rfl,d0,d1,l4,k4⟩;ext;refine Yo ∅ ?_;ext;refine zeh ∅ ?_;ext;have:=y6 d (show (8:Int)≠0 by decide);refine Yo ⋯ ?_;refine yk ?_;refine zhy (λj=>Txt.slice z gC (f7 (d / 8 % (1+d % 8)))++(⟨#[97+((d / 64+(j:Int)) % 26).toNat]⟩:Str)++Txt.slice z (f7 (d / 8 % (1+d % 8)+1)) (f7 (1+d % 8))) (size:=m) ⋯ (by ext;exact⟨rfl,rfl⟩) ?_ ?_
   .intro k hk;dsimp only[xM,uY,ui];ext;refine zhx (vp ⋯) ?_;ext;refine zeh ∅ ?_;ext;refine (zlu (k:=1) ∅).imp ?_;rintro _ S5 ⟨z1,rfl,nj,ni,rfl⟩;have s1:=Txt.slice_le z gC (f7 (d / 8 % (1+d % 8)));refine zeL (vp ⋯) ?_;ext;refine zhx (vp ⋯) ?_;have s2:=Txt.slice_le z (f7 (d / 8 % (1+d % 8)+1)) (f7 (1+d % 8));refine zeL (vp (by rw[Str.length_append];omega)) ?_;rw[ni rfl];exact⟨rfl,rfl⟩
   .refine fin S4 l4 (kk.trans k4) _ (by simp) (zhz _ λi j pE hj e=> ?_);have e2:=congrArg (λs:Str=>s.cps.toList) e;have jd:∀a b:Str,(a++b).cps.toList=a.cps.toList++b.cps.toList:=λa b=>BH
    try dsimp only at e2
    rw[jd,jd,jd,jd,D9,D9] at e2;have e3:=List.append_cancel_left e2;have e4:=(List.cons.inj e3).1;omega
  have fin:∀S4,zT mx ln S4->Kp (· =ln) S S4->∀zs:List Str,zs.length=m->zs.Nodup->∃(n:Nat) (zs':List Str),Xv.ref S4.length= .ref n/\zs'.length=m/\zs'.Nodup/\(S4++[Ce.lst (Wd zs)])[n]? =f7 (.lst (Wd zs'))/\S.length<=n/\zT mx ln (S4++[Ce.lst (Wd zs)])/\Kp (· =ln) S (S4++[Ce.lst (Wd zs)]):=λS4 l4 q4 zs hz nd=>⟨_,zs,rfl,hz,nd,yF,q4.1,l4.app,q4.app⟩;refine xw (λh2=> ?_) (λh2=> ?_)
  .ext;refine xw (λh3=> ?_) (λh3=>zo (go fin));refine yk ?_;refine zhy (λj=>Txt.slice z gC (f7 ((j:Int)+1))) (size:=m) ⋯ (by ext;exact⟨rfl,rfl⟩) ?_ ?_
   .intro k hk;dsimp only[xM,uY,ui];ext;exact zhx (vp ⋯) ⟨rfl,rfl⟩
   .refine fin _ l2 kk _ (by simp) (zhz _ λi j pE hj e=> ?_);have:=congrArg Str.length e;have e1:=zf5 (z:=z) (k:=i+1) ⋯;have e2:=zf5 (z:=z) (k:=j+1) ⋯;rw[Int.natCast_add,Int.natCast_one] at e1 e2;rw[e1,e2] at this;omega
  .exact⟨nofun,λ_=>zo (go fin)⟩
noncomputable def zqA (b:Str×Nat):Xv:= .tup [.str b.1,.int (b.2:Int)]
def bsX (bs:List (Str×Nat)):List Xv:=bs.map zqA
theorem wx (bs:List (Str×Nat)):(bsX bs).length=bs.length:=by simp[bsX]
theorem zhA {p:Int} (h:p.natAbs<2^60):intBits p<=60:=z3.mpr h
theorem ziq {bs:List (Str×Nat)} (h1:∀b∈bs,1<=b.2/\b.2<=9) (h9:bs.length<=9):Bx9 (bs.map (·.2)) (bsX bs):=by
 refine⟨⟨by simp[bsX],λi s e=> ?_,λs hs=> ?_⟩,by simpa using h9⟩
 .rw[uf] at e;cases e2:bs[i]? with
  |none=>rw[e2] at e;cases e
  |some b=>
   rw[e2] at e;cases e;exact⟨.str b.1,by unfold bsX;rw[uf,e2];rfl⟩
 .obtain⟨b,hb,rfl⟩:=x8.1 hs;have:=h1 b hb;omega
theorem znc {most:Nat} (oB:1<=most/\most<=1000) (hl:zT mx ln S):W (XE fu [.ref ln,.int (most:Int)] S) λv S'=>∃bs:List (Str×Nat),v= .tup (bsX bs)/\(∀b∈bs,1<=b.2/\b.2<=9)/\bs.length<=9/\prd (bs.map (·.2))<=most/\(bs.map (·.1)).Nodup/\zT mx ln S'/\Kp (· =ln) S S':=by
 walk_at "wr";unfold XD;ext;refine (yT hl ∅).imp ?_;rintro _ S1 ⟨c,rfl,c0,c1,l1,k1⟩;ext;refine UQ (λρ S2=>∃m:Nat,m<=9/\ρ=[f7 (.ref ln),f7 (.int (most:Int)),f7 (.int (m:Int)),gC,gC,gC,gC]/\S2=S1) (zF ?_) ?_
 .ext;refine xw (λhc=> ?_) (λhc=> ?_)
  .ext;refine Yo ∅ ?_;ext;have h0:=y6 c (show (3:Int)≠0 by decide);have h1:=z4 c (show (0:Int)<3 by decide);exact⟨(1+c % 3).toNat,⋯,by rw[Bb ⋯],rfl⟩
  .exact zo ⟨c.toNat,⋯,by rw[Bb ⋯],rfl⟩
 rintro _ _ ⟨m,hm,rfl,rfl⟩;ext;refine vj (zdk ?_);ext;refine (znb l1 hm).imp ?_;rintro _ S2 ⟨n,zs,rfl,hz,eZ,e2,hn,l2,k2⟩;have nV:=l1.lt;refine⟨_,zG e2,_,zG e2,?_⟩;refine xT (xs:=Wd zs) (λi ρ S3=>∃(bs:List (Str×Nat)) (a5 a6:Option Xv),ρ=[f7 (.ref ln),f7 (.int (most:Int)),f7 (.int (m:Int)),f7 (.tup (bsX bs)),f7 (.int (prd (bs.map (·.2)):Int)),a5,a6]/\bs.map (·.1)=zs.take i/\(∀b∈bs,1<=b.2/\b.2<=9)/\1<=prd (bs.map (·.2))/\prd (bs.map (·.2))<=most/\zT mx ln S3/\Kp (· =ln) S2 S3) ?_ ?_ ?_ ?_
 .rintro i ρ S3 _ ⟨bs,a5,a6,_,_,_,_,_,l3,k3⟩;exact zG (k3.2 _ _ e2 (show ¬n=ln by omega))
 .rintro i w ρ S3 hw ⟨bs,a5,a6,rfl,jB,iG,p0,p1,l3,k3⟩;unfold Wd at hw;rw[uf] at hw;cases lW:zs[i]? with
  |none=>rw[lW] at hw;cases hw
  |some z=>
   rw[lW] at hw;cases hw;have hi:i<zs.length:=(u9.1 lW).1;have sx:bs.length=i:=by
    have:=congrArg Cr jB;rw[uw,A6] at this;omega
   refine .of rfl ?_;dsimp only[ui];ext;refine (yT l3 ∅).imp ?_;rintro _ S4 ⟨d,rfl,d0,d1,l4,k4⟩;ext;refine UQ (λρ S5=>∃s0:Int,1<=s0/\s0<=9/\ρ=[f7 (.ref ln),f7 (.int (most:Int)),f7 (.int (m:Int)),f7 (.tup (bsX bs)),f7 (.int (prd (bs.map (·.2)):Int)),f7 (.str z),f7 (.int s0)]/\S4=S5) (zF (UP ?_)) ?_
   .have no:∃s0:Int,1<=s0/\s0<=9/\([f7 (.ref ln),f7 (.int (most:Int)),f7 (.int (m:Int)),f7 (.tup (bsX bs)),f7 (.int (prd (bs.map (·.2)):Int)),f7 (.str z),f7 (.int (1+d))]:Rho)=[f7 (.ref ln),f7 (.int (most:Int)),f7 (.int (m:Int)),f7 (.tup (bsX bs)),f7 (.int (prd (bs.map (·.2)):Int)),f7 (.str z),f7 (.int s0)]/\S4=S4:=⟨1+d,⋯,⋯,rfl,rfl⟩;ext;refine⟨λ_=> ?_,λ_=>⟨nofun,λ_=>zo no⟩⟩;ext;refine⟨λ_=> ?_,λ_=>zo no⟩;ext;refine Yo ∅ ?_;ext;have h0:=y6 (1+d) (show (3:Int)≠0 by decide);have h1:=z4 (1+d) (show (0:Int)<3 by decide);exact⟨1+(1+d) % 3,⋯,⋯,rfl,rfl⟩
   rintro _ _ ⟨s0,s1,s2,rfl,rfl⟩;generalize hp:prd (bs.map (·.2))=p at p0 p1;ext;refine zb0 ⟨⋯,uC (zhA ⋯) ∅⟩ ?_;rw[Av _ ⋯];ext;have q0:1<=most / p:=(Nat.le_div_iff_mul_le ⋯).2 ⋯;have q1:p*(most / p)<=most:=Nat.mul_div_le most p;rw[show (most:Int) / (p:Int)=((most / p:Nat):Int) by rw[Int.natCast_ediv]];generalize hs:(if ((most / p:Nat):Int)<s0 then ((most / p:Nat):Int) else s0)=sz;obtain⟨s,rfl⟩:∃s:Nat,sz=(s:Int):=⟨sz.toNat,by split at hs<;>omega⟩;have iP:1<=s/\s<=9/\s<=most / p:=by split at hs<;>omega
   refine WO.of (show YV (.tup (bsX bs)) (.tup [.tup [.str z, .int (s : Int)]]) S4 = f7 (.tup (bsX bs ++ [.tup [.str z, .int (s : Int)]]), S4) by
    unfold YV
    exact if_pos (by rw[wx];exact vp (by simp;omega))) ?_
   ext;have rp:p*s<=most:=uC (BI p iP.2.2) q1;refine Up (by have:=zhA (p:=(p:Int)) ⋯;have:=zhA (p:=(s:Int)) ⋯;omega) ?_;ext;have nL:prd ((bs++[(z,s)]).map (·.2))=p*s:=by rw[w6];show prd (bs.map (·.2)++[s])=_;rw[zao,hp]
   refine⟨bs++[(z,s)],_,_,by rw[nL,Int.natCast_mul,show bsX (bs++[(z,s)])=bsX bs++[.tup [.str z,.int (s:Int)]] by simp[bsX,zqA]],by rw[w6,jB,zjr lW];rfl,?_,by rw[nL];exact Cu p0 iP.1,by rw[nL];exact rp,l4,k3.trans k4⟩;intro b hb;rcases AH.1 hb with hb|hb
   .exact iG b hb
   .rw[uH] at hb;subst hb;exact⟨iP.1,iP.2.1⟩
 .exact⟨[],gC,gC,rfl,rfl,(λb hb=>by cases hb),∅,oB.1,l2,Kp.refl _⟩
 .rintro ρ S3 ⟨bs,a5,a6,rfl,jB,iG,p0,p1,l3,k3⟩;ext;have e:(Wd zs).length=zs.length:=by simp[Wd]
  rw[e,A1] at jB;refine⟨iG,?_,p1,by rw[jB];exact eZ,l3,(k1.trans k2).trans k3⟩;have:=congrArg Cr jB;rw[uw] at this;omega
end
section
variable {fu:Nat} {S S' S2:Sto} {x y z:Xv} {ss:List Nat} {bl:List Xv} {ln sn fn dn:Nat} {fs fs':List zC}
theorem zir:∀{ss:List Nat},(∀s∈ss,1<=s)->1<=prd ss
 |[],_=>ug _
 |s::r,h=>Cu (h s uv) (zir λt ht=>h t (uj _ ht))
def zf6 (ss:List Nat) (fs:List zC) (lv:Nat) (T:List Q2) (i:Nat):Prop:=∀st,yt ss st->∃q h,T[idx (ss.drop lv) (st.drop lv)]? =f7 q/\VA fs st q h i
theorem zlv {ks:List Nat} {k:Nat}:ksX (ks++[k])=ksX ks++[.int (k:Int)]:=WP ks k
end
section
variable {fu:Nat} {S S' S2:Sto} {x y z:Xv} {sn fn dn kn:Nat} {bx:Xv} {fs fs':List zC} {ss:List Nat} {bl:List Xv} {lv m s:Nat} {l l' l2:List (Key×Xv)}
theorem zlw {k:Key}:(zbX l k x).length<=l.length+1:=by
 unfold zbX;split<;>simp
theorem zf7 {k k':Key}:∀{l:List (Key×Xv)},wA (l.map λkv=>if kv.1=k then (kv.1,x) else kv) k'=if k'=k then (wA l k).map (λ_=>x) else wA l k'
 |[]=>by simp[wA]
 |p::r=>by
  have ih:=zf7 (k:=k) (k':=k') (l:=r);unfold wA at ih ⊢;rw[uE,uL,uL,uL];by_cases h1:p.1=k
  .by_cases h2:k'=k
   .subst h1 h2;simp
   .have:¬p.1=k':=λe=>h2 (e.symm.trans h1);simp only[if_pos h1,decide_eq_false this,if_neg h2] at ih ⊢;exact ih
  .by_cases h2:k'=k
   .subst h2;simp only[if_neg h1,decide_eq_false h1,if_true] at ih ⊢;exact ih
   .simp only[if_neg h1,if_neg h2] at ih ⊢;by_cases h3:p.1=k'
    .simp only[decide_eq_true h3]
    .simp only[decide_eq_false h3];exact ih
theorem zlx {k k':Key} (h:(l.any λkv=>decide (kv.1=k))=kb):wA (l++[(k,x)]) k'=if k'=k then f7 x else wA l k':=by
 unfold wA;rw[List.find?_append];by_cases h2:k'=k
 .subst h2;have:l.find? (λkv=>decide (kv.1=k'))=gC:=by
   rw[D0];intro p hp e;rw[D2] at h;exact h p hp e
  rw[this];simp
 .rw[if_neg h2];have:([(k,x)]:List (Key×Xv)).find? (λkv=>decide (kv.1=k'))=gC:=by
   rw[uL,decide_eq_false (λe=>h2 e.symm)];rfl
  rw[this];cases l.find? (λkv=>decide (kv.1=k'))<;>rfl
theorem zf8 {k k':Key}:wA (zbX l k x) k'=if k'=k then f7 x else wA l k':=by
 unfold zbX;split
 .rename_i h;rw[zf7];split
  .rw[B1] at h;obtain⟨p,hp,e⟩:=h;have:wA l k≠gC:=by
    unfold wA;rw[Ne,Option.map_eq_none_iff,D0];exact λz=>z p hp e
   cases e:wA l k with
   |none=>exact absurd e this
   |some v=>rfl
  .rfl
 .rename_i h;exact zlx (D5.2 h)
structure Fxd (ss:List Nat) (lv m:Nat) (fs:List zC) (a r:Nat):Prop where
 le:∃fa fr,fs[a]? =f7 fa/\fs[r]? =f7 fr/\lvl ss.length fa<=lvl ss.length fr
 va:∀st,yt ss st->∀q h,VA fs (st.set lv m) q h a->∃h',VA fs st q h' r
theorem Fxd.mono {a r:Nat} (es:ss[lv]? =f7 s) (hm:m<s) (g:Fxd ss lv m fs a r) (w:WF ss fs) (p:fs<+:fs'):Fxd ss lv m fs' a r:=by
 obtain⟨fa,fr,ea,er,hl⟩:=g.le;refine⟨⟨fa,fr,xn p ea,xn p er,hl⟩,λst hs q h v=> ?_⟩;obtain⟨h,v⟩:=g.va st hs q _ (v.back w p (hs.set es hm) ea);exact⟨h,v.mono p⟩
structure KS (sn fn dn kn:Nat) (bx:Xv) (ss:List Nat) (lv m:Nat) (fs:List zC) (l:List (Key×Xv)) (S:Sto):Prop where
 st:yG sn fn dn bx fs S
 wf:WF ss fs
 kd:S[kn]? =f7 (.dk l)
 kl:∀k y,wA l k=f7 y->∃a r:Nat,k= .inl (a:Int)/\y= .int (r:Int)/\Fxd ss lv m fs a r
 ne:kn≠dn
theorem KS.kf (h:KS sn fn dn kn bx ss lv m fs l S):kn≠fn:=λe=>by
 obtain⟨xs,_,h1,h2⟩:=h.st.fd';have h3:=h.kd;rw[e,h1] at h3;cases h3
theorem KS.ks (h:KS sn fn dn kn bx ss lv m fs l S):kn≠sn:=λe=>by
 have h1:=h.kd;rw[e,h.st.o] at h1;cases h1
noncomputable abbrev wK (fn dn kn:Nat):Nat->Prop:=λn=>n=fn\/n=dn\/n=kn
structure KP (sn fn dn kn:Nat) (bx:Xv) (ss:List Nat) (lv m c:Nat) (fs:List zC) (l:List (Key×Xv)) (S:Sto) (fs':List zC) (l':List (Key×Xv)) (S':Sto):Prop where
 js:KS sn fn dn kn bx ss lv m fs' l' S'
 pre:fs<+:fs'
 fl:fs'.length<=fs.length+c
 ll:l'.length<=l.length+c
 kp:Kp (wK fn dn kn) S S'
theorem KS.pre (h:KS sn fn dn kn bx ss lv m fs l S) (p:S<+:S'):KS sn fn dn kn bx ss lv m fs l S':=⟨h.st.pre p,h.wf,xn p h.kd,h.kl,h.ne⟩
theorem KP.grown {c:Nat} (es:ss[lv]? =f7 s) (hm:m<s) (h:KS sn fn dn kn bx ss lv m fs l S) (w:WF ss fs') (g:yy sn fn dn bx fs c S fs' S'):KP sn fn dn kn bx ss lv m c fs l S fs' l S':=
 ⟨⟨g.st,w,g.kp.2 _ _ h.kd (λz=>by rcases z with z|z;exact h.kf z;exact h.ne z),λk y e=>by
  obtain⟨a,r,e1,e2,e3⟩:=h.kl k y e
  exact⟨a,r,e1,e2,e3.mono es hm h.wf g.pre⟩,h.ne⟩,g.pre,g.len,⋯,g.kp.mono λn z=>z.elim .inl λz=> .inr (.inl z)⟩
theorem KP.trans {c c':Nat} {d3 bC:List zC} (a:KP sn fn dn kn bx ss lv m c fs l S d3 l' S') (b:KP sn fn dn kn bx ss lv m c' d3 l' S' bC l2 S2):KP sn fn dn kn bx ss lv m (c+c') fs l S bC l2 S2:=
 ⟨b.js,a.pre.trans b.pre,by have:=a.fl;have:=b.fl;omega,by have:=a.ll;have:=b.ll;omega,a.kp.trans b.kp⟩
theorem KP.more {c c':Nat} {d3:List zC} (a:KP sn fn dn kn bx ss lv m c fs l S d3 l' S') (h:c<=c'):KP sn fn dn kn bx ss lv m c' fs l S d3 l' S':=⟨a.js,a.pre,by have:=a.fl;omega,by have:=a.ll;omega,a.kp⟩
theorem KP.app {c:Nat} {d3:List zC} (a:KP sn fn dn kn bx ss lv m c fs l S d3 l' S') (p:S'<+:S2):KP sn fn dn kn bx ss lv m c fs l S d3 l' S2:=⟨a.js.pre p,a.pre,a.fl,a.ll,a.kp.trans (Kp.pre p)⟩
theorem KS.jp (h:KS sn fn dn kn bx ss lv m fs l S) (p:S<+:S'):KP sn fn dn kn bx ss lv m 0 fs l S fs l S':=⟨h.pre p,uU _,⋯,⋯,Kp.pre p⟩
theorem KS.put {a r:Nat} (h:KS sn fn dn kn bx ss lv m fs l S) (g:Fxd ss lv m fs a r):KP sn fn dn kn bx ss lv m 1 fs l S fs (zbX l (.inl (a:Int)) (.int (r:Int))) (S.set kn (.dk (zbX l (.inl (a:Int)) (.int (r:Int))))):=by
 obtain⟨xs,u1,u2,u3⟩:=h.st.fd';refine⟨⟨⟨xx h.st.o h.ks,⟨xs,u1,xx u2 h.kf,xx u3 h.ne⟩,h.st.nd⟩,h.wf,wk h.kd,λk y e=> ?_,h.ne⟩,uU _,⋯,zlw,(Kp.refl _).set (.inl (.inr (.inr rfl)))⟩;rw[zf8] at e;split at e
 .rename_i q;cases e;exact⟨a,r,q,rfl,g⟩
 .exact h.kl k y e
theorem Kd.fxd {a k:Nat} (es:ss[lv]? =f7 s) (w:WF ss fs) {f:zC} (e:fs[a]? =f7 f) (d:Kd ss fs a lv m k):Fxd ss lv m fs a k:=by
 have hl:=(u9.1 es).1;have key:∀st,yt ss st->∀q h,VA fs (st.set lv m) q h a->∃h',VA fs st q h' k:=λst hs q h v=>by
  obtain⟨h',v'⟩:=d.va v (by rw[uZ,if_pos rfl,if_pos (by rw[hs.1];exact hl)]);obtain⟨fk,e1,e2⟩:=d.lv w;exact⟨h',v'.other w zm5 e1 e2⟩
 refine⟨?_,key⟩;rcases d with⟨ks,e1,e2⟩|⟨rfl,f',e1,e2⟩
 .rw[e] at e1;cases e1;obtain⟨_,g,h1,h2⟩:=(w.ok a lv ks e).2.1 k (ud e2);exact⟨_,g,e,h1,v8 h2⟩
 .exact⟨f',f',e1,e1,ug _⟩
theorem zly {a r here:Nat} {ks rs:List Nat} (es:ss[lv]? =f7 s) (w:WF ss fs) (hh:here<lv) (e:fs[a]? =f7 (.fork here ks)) (hlen:rs.length=ks.length) (hr:∀(i k r:Nat),ks[i]? =f7 k->rs[i]? =f7 r->Fxd ss lv m fs k r) (fo:zeI fs here rs r):Fxd ss lv m fs a r:=by
 have j9:∀k∈rs,∃f,fs[k]? =f7 f/\here<lvl ss.length f:=λk hk=>by
  obtain⟨i,hi⟩:=z5 hk;have iE:=(u9.1 hi).1;have ek:ks[i]? =f7 ks[i]:=u6 ⋯;obtain⟨fa,fr,e1,e2,e3⟩:=(hr i _ k ek hi).le;obtain⟨_,f,e4,e5⟩:=(w.ok a here ks e).2.1 _ (ud ek);rw[e1] at e4;cases e4;exact⟨fr,e2,⋯⟩
 refine⟨?_,λst hs q h v=> ?_⟩
 .obtain⟨k0,e0,⟨all,rfl⟩|⟨_,e1⟩⟩:=fo
  .obtain⟨f,e1,e2⟩:=j9 r (ud e0);exact⟨_,f,e,e1,v8 e2⟩
  .exact⟨_,_,e,e1,ug _⟩
 .obtain⟨⟨sh,lC,fO⟩,_⟩:=w.ok a here ks e;obtain⟨j,ej,hj⟩:=hs.get lC;obtain⟨k,h',ek,v'⟩:=v.kid e (x:=j) (by rw[uZ,if_neg ⋯];exact ej);have er:rs[j]? =f7 rs[j]:=u6 ⋯;obtain⟨h2,v2⟩:=(hr j k _ ek er).va st hs q _ v';exact⟨_,fo.va ej er v2⟩
theorem zlz (cb:Bx9 ss bl) (es:ss[lv]? =f7 s) (hm:m<s):∀(d N:Nat) {S:Sto} {fs:List zC} {l:List (Key×Xv)} {a:Nat} {f:zC},d+1<=N->KS sn fn dn kn (.tup bl) ss lv m fs l S->fs[a]? =f7 f->ss.length<=lvl ss.length f+d->fs.length+cst ss d<=1000000->l.length+cst ss d<=1000000->
  W (zV fu N [.ref sn,.int (a:Int),.int (lv:Int),.int (m:Int),.ref kn] S) λv S'=>∃(r:Nat) (fs':List zC) (l':List (Key×Xv)),v= .int (r:Int)/\Fxd ss lv m fs' a r/\KP sn fn dn kn (.tup bl) ss lv m (cst ss d) fs l S fs' l' S':=by
 have h8:∀s∈ss,1<=s:=λs hs=>(cb.siz s hs).1;have jw:=(u9.1 es).1;have base:∀(d N:Nat) {S:Sto} {fs:List zC} {l:List (Key×Xv)} {a:Nat} {f:zC},d+1<=N->KS sn fn dn kn (.tup bl) ss lv m fs l S->fs[a]? =f7 f->lv<=lvl ss.length f->
   W (zV fu N [.ref sn,.int (a:Int),.int (lv:Int),.int (m:Int),.ref kn] S) λv S'=>∃(r:Nat) (fs':List zC) (l':List (Key×Xv)),v= .int (r:Int)/\Fxd ss lv m fs' a r/\KP sn fn dn kn (.tup bl) ss lv m (cst ss d) fs l S fs' l' S':=by
  intro d N S fs l a f hN h e hf;obtain⟨N,rfl⟩:∃M,N=M+1:=⟨N-1,⋯⟩;rw[xu];walk_at "wr";unfold yS;refine zh (yd (ye ?_));ext;refine⟨_,_,rfl,h.st.o,rfl,?_⟩;ext;refine (zcp h.st cb.len e).imp ?_;rintro _ S ⟨rfl,rfl⟩;dsimp only[ui];refine zh (zF ?_);ext;refine xw (λ_=> ?_) (λz=>absurd ⋯ z);obtain⟨k,kd,tk⟩:=zij (fu:=fu) h.st h.wf cb.len e hf es hm;refine yk (ye ?_);ext;refine⟨_,_,rfl,h.st.o,rfl,?_⟩;ext;refine tk.imp ?_;rintro _ S ⟨rfl,rfl⟩;exact⟨k,fs,l,rfl,kd.fxd es h.wf e,(h.jp (uU _)).more ⋯⟩
 intro d
 induction d with
 |zero=>intro N S fs l a f hN h e hf _ _;exact base 0 N hN h e ⋯
 |succ d ih=>
  intro N S fs l a f hN h e hd ml m7;by_cases hf:lv<=lvl ss.length f
  .exact base _ N hN h e hf
  have om:=zcq h8 (show d<=d+1 by omega);by_cases hd2:ss.length<=lvl ss.length f+d
  .refine (ih N ⋯ h e hd2 ⋯ ⋯).imp ?_;rintro v S2 ⟨r,bC,l2,hv,g,k⟩;exact⟨r,bC,l2,hv,g,k.more om⟩
  cases f with
  |leaf q=>exact absurd (v8 jw) hf
  |fork here ks=>
  have hf:¬lv<=here:=hf;have hd2:¬ss.length<=here+d:=hd2;have hd:ss.length<=here+(d+1):=hd;obtain⟨⟨sh,lC,fO⟩,j9,_⟩:=h.wf.ok a here ks e;have hsz:=cb.siz sh (ud lC);have hc:cst ss (d+1)=2+sh*cst ss d:=by
   have:=zht lC;rw[show ss.length-here=d+1 by omega] at this;exact this
  obtain⟨N,rfl⟩:∃M,N=M+1:=⟨N-1,⋯⟩;rw[xu];walk_at "wr";unfold yS;refine zh (yd (ye ?_));ext;refine⟨_,_,rfl,h.st.o,rfl,?_⟩;ext;refine (zeH h.st e).imp ?_;rintro _ S ⟨rfl,rfl⟩;dsimp only[ui];refine zh (zF ?_);ext;refine xw (λz=>absurd z ⋯) (λ_=>zo ?_);refine zh (UQ (λρ S2=>∃(a6:Option Xv) (r:Nat) (bC:List zC) (l2:List (Key×Xv)),ρ=[f7 (.ref sn),f7 (.int (a:Int)),f7 (.int (lv:Int)),f7 (.int (m:Int)),f7 (.ref kn),f7 (.int (here:Int)),a6]/\wA l2 (.inl (a:Int))=f7 (.int (r:Int))/\Fxd ss lv m bC a r/\KP sn fn dn kn (.tup bl) ss lv m (cst ss (d+1)) fs l S bC l2 S2) (zF (vr (zoJ ?_))) ?_)
  .ext;refine⟨_,_,_,TJ h.kd,rfl,_,rfl,λz=> ?_,λz=>zo ?_⟩;rotate_left
   .cases ev:wA l (.inl (a:Int)) with
    |none=>rw[ev] at z;cases z
    |some y=>
     obtain⟨a',r,e1,rfl,g⟩:=h.kl _ _ ev;have:a'=a:=by
      injection e1 with e1
      omega
     subst this;exact⟨_,r,fs,l,rfl,ev,g,(h.jp (uU _)).more ⋯⟩
   refine zh (yd (xp (TH (ye ?_))));ext;refine⟨_,_,rfl,h.st.o,rfl,?_⟩;ext;refine (zhq h.st e).imp ?_;rintro _ S ⟨rfl,rfl⟩;refine⟨_,rfl,_,rfl,?_⟩;refine yQ (by rw[xf];exact vp ⋯) (λi es S2=>∃(bC:List zC) (l2:List (Key×Xv)) (rs:List Nat),es=ksX rs/\rs.length=i/\KP sn fn dn kn (.tup bl) ss lv m (i*cst ss d) fs l S bC l2 S2/\∀(j k r:Nat),ks[j]? =f7 k->rs[j]? =f7 r->Fxd ss lv m bC k r) (λ_ _ _ _ _=>rfl) ?_ ⟨fs,l,[],rfl,rfl,(h.jp (uU _)).more ⋯,λj k r _ e=>by simp at e⟩ ?_
   .rintro i w0 fT S2 hw gI ⟨bC,l2,rs,rfl,gG,k2,gZ⟩;obtain⟨k,ek,rfl⟩:=Ut hw;have hi:=(u9.1 ek).1;refine .of rfl ?_;dsimp only[xM,uY,ui];ext;refine⟨rfl,ye ?_⟩;ext;refine⟨_,_,rfl,k2.js.st.o,rfl,?_⟩;ext;obtain⟨_,g,eg,hg⟩:=j9 k (ud ek);have o7:(i+1)*cst ss d<=sh*cst ss d:=v5 _ ⋯;have kZ:(i+1)*cst ss d=i*cst ss d+cst ss d:=Ad i _;have f2:=k2.fl;have g2:=k2.ll;refine (ih N ⋯ k2.js (xn k2.pre eg) ⋯ ⋯ ⋯).imp ?_;rintro _ S3 ⟨r,cZ,l3,rfl,fx,k3⟩;refine⟨cZ,l3,rs++[r],by rw[zlv],by simp[gG],(k2.trans k3).more ⋯,λj k' r' e1 e2=> ?_⟩;rcases x5 j rs.length with hj|hj|hj
    .rw[uc hj] at e2;exact (gZ j k' r' e1 e2).mono es hm k2.js.wf k3.pre
    .subst hj;rw[ur (ug _),A2] at e2;cases e2;rw[gG,ek] at e1;cases e1;exact fx
    .rw[uA (by simp;omega)] at e2;cases e2
   .rintro fT S2 _ ⟨bC,l2,rs,rfl,gG,k2,gZ⟩;rw[xf] at gG k2;have k3:=k2.app (ua S2 [.lst (ksX rs)]);have ja:(S2++[Ce.lst (ksX rs)])[S2.length]? =f7 (.lst (ksX rs)):=yF;generalize S2++[Ce.lst (ksX rs)]=S3 at k3 ja;dsimp only[ui];rw[fO] at k3;have f2:=k3.fl;have g2:=k3.ll;have h0:rs[0]? =f7 rs[0]:=u6 ⋯;refine zmE (ye ?_);ext;refine⟨_,_,rfl,k3.js.st.o,rfl,?_⟩;ext;refine (zeJ k3.js.st ⋯ ja h0 ⋯).imp ?_;rintro _ S4 ⟨r,gL,rfl,fo,ad,g⟩;ext;have w3:=k3.js.wf;have iU:∀k∈rs,∃f,bC[k]? =f7 f/\here<lvl ss.length f:=λk hk=>by
     obtain⟨i,hi⟩:=z5 hk;have iE:=(u9.1 hi).1;have ek:ks[i]? =f7 ks[i]:=u6 ⋯;obtain⟨fa,fr,e1,e2,e3⟩:=(gZ i _ k ek hi).le;obtain⟨_,f,e4,e5⟩:=j9 _ (ud ek);rw[xn k3.pre e4] at e1;cases e1;exact⟨fr,e2,⋯⟩
    have w4:WF ss gL:=by
     rcases ad with rfl|⟨gn,ad⟩
     .exact w3
     .refine w3.fork g.st.nd (.inr ad) lC ⋯ iU λz=>gn λk hk=> ?_;exact z k hk rs[0] (y4 _)
    have k4:=k3.trans (KP.grown es hm k3.js w4 g);have fx:Fxd ss lv m gL a r:=zly es w4 ⋯ (xn k4.pre e) gG (λi k r e1 e2=>(gZ i k r e1 e2).mono es hm w3 g.pre) fo;have k5:=k4.trans (k4.js.put fx);refine⟨_,_,_,TJ k4.js.kd,rfl,uP (show l2.length<=1000000 by omega) ∅,?_⟩;exact⟨_,r,gL,_,rfl,by rw[zf8,if_pos rfl],fx,k5.more ⋯⟩
  .rintro _ S2 ⟨a6,r,bC,l2,rfl,ev,fx,k2⟩;refine yk (zmD ?_);ext;exact⟨_,_,_,_,TJ k2.js.kd,rfl,ev,r,bC,l2,rfl,fx,k2⟩
theorem znd (cb:Bx9 ss bl) (es:ss[lv]? =f7 s) (hm:m<s) {a:Nat} {f:zC} (h:yG sn fn dn (.tup bl) fs S) (w:WF ss fs) (e:fs[a]? =f7 f) (hf:fs.length+cst ss ss.length<=1000000):
  W (YD fu [.ref sn,.int (a:Int),.int (lv:Int),.int (m:Int)] S) λv S'=>∃(r:Nat) (fs':List zC),v= .int (r:Int)/\Fxd ss lv m fs' a r/\WF ss fs'/\yy sn fn dn (.tup bl) fs (cst ss ss.length) S fs' S':=by
 walk_at "wr";unfold YC;refine yk (ye ?_);ext;refine⟨_,_,rfl,h.o,rfl,?_⟩;ext;have p:=ua S [Ce.dk []];have hd:=h.flt.2;have js:KS sn fn dn S.length (.tup bl) ss lv m fs [] (S++[.dk []]):=⟨h.pre p,w,yF,λk y e=>by simp[wA] at e,⋯⟩;refine (zlz cb es hm ss.length 12 (by have:=cb.l9;omega) js e ⋯ hf (by simp only[A9];omega)).imp ?_;rintro _ S2 ⟨r,bC,l2,rfl,gd,j⟩;refine⟨r,bC,rfl,gd,j.js.wf,⟨j.js.st,j.pre,j.fl,⟨by have:=j.kp.1;rw[uD] at this;omega,λn c e nw=> ?_⟩⟩⟩;have hn:=(u9.1 e).1;exact j.kp.2 _ _ (xn p e) λz=>by
  rcases z with z|z|z
  .exact nw (.inl z)
  .exact nw (.inr z)
  .omega
end
section
variable {fu:Nat} {S S' S2:Sto} {x y z:Xv} {bs:List (Str×Nat)} {st st':List Nat}
inductive Opd where
 |num (i:Int)
 |nam (z:Str)
noncomputable def opX:Opd->Xv
 | .num i=> .int i
 | .nam z=> .str z
noncomputable def fIx (bs:List (Str×Nat)) (z:Str):Option Nat:=bs.findIdx? λb=>decide (b.1=z)
noncomputable def wv (bs:List (Str×Nat)) (st:List Nat):Opd->Int
 | .num i=>i
 | .nam z=>((st.getD ((fIx bs z).getD 0) 0:Nat):Int)
def zaK (bs:List (Str×Nat)):Opd->Prop
 | .num i=>i.natAbs<=1000000000
 | .nam z=>∃k,fIx bs z=f7 k
structure Tst where
 a:Opd
 sg:Nat
 b:Opd
def zqR (bs:List (Str×Nat)) (t:Tst):Prop:=zaK bs t.a/\zaK bs t.b/\t.sg<3
noncomputable def sgS:Nat->Str
 |0=>"="
 |1=>"<"
 |_=>"#"
noncomputable def tsX (t:Tst):Xv:= .tup [opX t.a,.str (sgS t.sg),opX t.b]
noncomputable def bQ (b:Bool):Q2:=(if b then 1 else 0,1)
theorem zeM {z:Str} {k:Nat} (h:fIx bs z=f7 k):∃b,bs[k]? =f7 b/\b.1=z:=by
 unfold fIx at h;rw[Ac] at h;obtain⟨hk,h1,_⟩:=h;exact⟨bs[k],u6 hk,of_decide_eq_true h1⟩
theorem zeN {o:Opd} (ho:zaK bs o) (h:∀(k:Nat) b,bs[k]? =f7 b->o= .nam b.1->st[k]? =st'[k]?):wv bs st o=wv bs st' o:=by
 cases o with
 |num i=>rfl
 |nam z=>
  obtain⟨k,hk⟩:=ho;obtain⟨b,e,rfl⟩:=zeM hk;unfold wv;dsimp only;rw[hk];simp only[z6,uG];rw[h k b e rfl]
theorem XN {k:Nat} {b:Str×Nat} (h:bs[k]? =f7 b):(bsX bs)[k]? =f7 (.tup [.str b.1,.int (b.2:Int)]):=by
 unfold bsX;rw[uf,h];rfl
theorem zis {k:Nat} {w:Xv} (h:(bsX bs)[k]? =f7 w):∃b,bs[k]? =f7 b/\w= .tup [.str b.1,.int (b.2:Int)]:=by
 unfold bsX at h;rw[uf] at h;cases e:bs[k]? with
 |none=>rw[e] at h;cases h
 |some b=>rw[e] at h;cases h;exact⟨b,rfl,rfl⟩
theorem zit {zz:Str} {k:Nat} (h9:bs.length<=9) (h:fIx bs zz=f7 k):W (Xd fu [.tup (bsX bs),.str zz] S) λv S'=>v= .int (k:Int)/\S<+:S':=by
 walk_at "wr";unfold VN;refine yk (zbY (xp (TH (zj rfl ?_))));refine⟨_,rfl,_,rfl,?_⟩;refine yQ (by rw[wx];exact vp ⋯) (λi es S2=>es=(bs.take i).map (λb=>Xv.str b.1)/\S2=S) (λ_ _ _ _ _=>rfl) ?_ ⟨by simp,rfl⟩ ?_
 .rintro i w0 fT S2 hw gI ⟨rfl,rfl⟩;obtain⟨b,e1,rfl⟩:=zis hw;refine .of rfl ?_;dsimp only[xM,uY,ui];ext;refine⟨rfl,?_⟩;ext;refine⟨?_,rfl⟩;obtain⟨hi,e1⟩:=u9.1 e1;rw[uO hi,w6,e1];rfl
 .rintro fT S2 _ ⟨rfl,rfl⟩;rw[wx,A1];refine⟨⟨_,wc⟩,?_⟩;ext;refine zle (k:=k) (Zk yF) ?_ ?_ ⟨rfl,ua _ _⟩
  .rw[uX,y8];refine⟨rfl,λw hw=> ?_⟩;obtain⟨b,_,rfl⟩:=x8.1 hw;rfl
  .rw[List.findIdx?_map];unfold fIx at h;rw[<-h];rfl
theorem zbn {o:Opd} (h9:bs.length<=9) (hl:st.length=bs.length) (ho:zaK bs o):W (VO fu [.tup (bsX bs),.tup (ksX st),opX o] S) λv S'=>v= .int (wv bs st o)/\S<+:S':=by
 walk_at "wr";unfold zci;refine zh (zF ?_);cases o with
 |num i=>
  ext;refine vk (v:=kb) rfl ?_;refine⟨_,rfl,nofun,λ_=>zo ?_⟩;ext;exact⟨rfl,uU _⟩
 |nam zz=>
  obtain⟨k,hk⟩:=ho;obtain⟨b,e,_⟩:=zeM hk;have fX:=(u9.1 e).1;ext;refine vk (v:=ia) rfl ?_;refine⟨_,rfl,λ_=> ?_,nofun⟩;ext;refine (zit h9 hk).imp ?_;rintro _ S2 ⟨rfl,p⟩;have e2:st[k]? =f7 st[k]:=u6 ⋯;refine yh rfl (yJ (Uf e2)) ⟨?_,p⟩;unfold wv;dsimp only;rw[hk];simp only[z6,uG,e2]
end
section
variable {fu:Nat} {mx:Nat} {S S' S2:Sto} {x y z:Xv} {bs:List (Str×Nat)} {st st':List Nat} {ln:Nat}
theorem zpe {P:Xv->Sto->Prop} {a:Str} {o:Opd} (k:∀b:Bool,(b=ia->o= .nam a)->(b=kb->¬o= .nam a)->P (.bl b) S):WO (xB kb (.str a) (opX o) S) P:=by
 cases o with
 |num i=>exact WO.of (show xB kb (.str a) (.int i) S=f7 (.bl kb,S) from rfl) (k kb (λe=>by cases e) (λ_ e=>by cases e))
 |nam zz=>
  refine zI ?_;have:=k (decide (a=zz)) (λe=>by rw[of_decide_eq_true e]) (λe q=>of_decide_eq_false e (by cases q;rfl));simpa using this
theorem zaq {o:Opd} (h9:bs.length<=9) (hl:st.length=bs.length) (ho:zaK bs o):W (wX fu [.tup (bsX bs),.tup (ksX st),opX o] S) λv S'=>v= .int (wv bs st o)/\S=S':=by
 walk_at "wr";unfold XH;refine zh (vj (wU (xX (zg (zj rfl (yI (xF ?_)))))));rw[wx];refine⟨_,rfl,⟨⋯,⋯⟩,_,rfl,?_⟩;rw[uM];refine xT (xs:=xL 0 bs.length) (λi ρ S2=>∃a3,ρ=[f7 (.tup (bsX bs)),f7 (.tup (ksX st)),f7 (opX o),a3]/\S2=S/\∀(k:Nat) b,k<i->bs[k]? =f7 b->¬o= .nam b.1) (λ_ _ _ _ _=>rfl) ?_ ?_ ?_
 .rintro i w ρ S2 hw ⟨a3,rfl,rfl,hn⟩;obtain⟨hi,rfl⟩:=xk hw;rw[y9];refine .of rfl ?_;dsimp only[ui];have eb:bs[i]? =f7 bs[i]:=u6 hi;refine zF (vr (ym (ym (ym (zj rfl (zj rfl ?_))))));refine yh (l:=bsX bs) rfl (yJ (XN eb)) ?_;ext;refine zpe λbb bt bf=> ?_;refine⟨_,rfl,λzz=> ?_,λzz=>zo ?_⟩
  .have hq:=bt zz;ext;have e2:st[i]? =f7 st[i]:=u6 ⋯;refine yh rfl (yJ (Uf e2)) ⟨?_,rfl⟩;subst hq;have hk:fIx bs bs[i].1=f7 i:=by
    unfold fIx;rw[Ac];refine⟨hi,decide_eq_true rfl,λj hj=> ?_⟩;have rR:j<bs.length:=by omega
    intro q;exact hn j bs[j] hj (u6 rR) (by rw[of_decide_eq_true q])
   unfold wv;dsimp only;rw[hk];simp only[z6,uG,e2]
  .refine⟨_,rfl,rfl,λk b hk e q=> ?_⟩;rcases Nat.lt_or_ge k i with h|h
   .exact hn k b h e q
   .have:k=i:=by omega
    subst this;rw[eb] at e;cases e;exact bf zz q
 .exact⟨gC,rfl,rfl,λk b hk=>by omega⟩
 .rintro ρ S2 ⟨a3,rfl,rfl,hn⟩;rw[zY] at hn;cases o with
  |num i=>
   ext;exact⟨rfl,rfl⟩
  |nam zz=>
   obtain⟨k,hk⟩:=ho;obtain⟨b,e,rfl⟩:=zeM hk;exact absurd rfl (hn k b (u9.1 e).1 e)
theorem zlA (hl:zT mx ln S) (h9:bs.length<=9) (h1:∀b∈bs,1<=b.2):W (XG fu [.ref ln,.tup (bsX bs)] S) λv S'=>∃st,v= .tup (ksX st)/\yt (bs.map (·.2)) st/\zT mx ln S'/\Kp (· =ln) S S':=by
 walk_at "wr";unfold XF;refine yk (xX (zg (xp (TH (zj rfl ?_)))));refine⟨_,rfl,_,rfl,?_⟩;refine yQ (by rw[wx];exact vp ⋯) (λi es S2=>∃st,es=ksX st/\st.length=i/\(∀(k:Nat) x b,st[k]? =f7 x->bs[k]? =f7 b->x<b.2)/\zT mx ln S2/\Kp (· =ln) S S2) (λ_ _ _ _ _=>rfl) ?_ ⟨[],rfl,rfl,(λk x b e=>by simp at e),hl,Kp.refl _⟩ ?_
 .rintro i w0 fT S2 hw gI ⟨st,rfl,jM,fm,l2,k2⟩;obtain⟨b,e1,rfl⟩:=zis hw;have hb:=h1 b (ud e1);refine .of rfl ?_;dsimp only[xM,uY,ui];ext;refine⟨rfl,?_⟩;ext;refine (yT l2 ⋯).imp ?_;rintro _ S3 ⟨c,rfl,c0,c1,l3,k3⟩;refine⟨st++[c.toNat],by rw[WP,Bb c0],by simp[jM],λk x b' e2 e3=> ?_,l3,k2.trans k3⟩;rcases x5 k st.length with hk|hk|hk
  .rw[uc hk] at e2;exact fm k x b' e2 e3
  .subst hk;rw[ur (ug _),A2] at e2;cases e2;rw[jM,e1] at e3;cases e3;omega
  .rw[uA (by simp;omega)] at e2;cases e2
 .rintro fT S2 _ ⟨st,rfl,jM,fm,l2,k2⟩;rw[wx] at jM;ext;refine Wb yF ⟨st,rfl,⟨by rw[uw];exact jM,λk x s e1 e2=> ?_⟩,l2.app,k2.app⟩;rw[uf] at e2;cases e3:bs[k]? with
  |none=>rw[e3] at e2;cases e2
  |some b=>rw[e3] at e2;cases e2;exact fm k x b e1 e3
theorem ziu {k:Nat} {b:Str×Nat} (e:bs[k]? =f7 b):∃j,fIx bs b.1=f7 j:=by
 cases h:fIx bs b.1 with
 |some j=>exact⟨j,rfl⟩
 |none=>
  unfold fIx at h;rw[List.findIdx?_eq_none_iff] at h;have:=h b (ud e);simp at this
theorem We (hl:zT mx ln S) (h9:bs.length<=9):W (yW fu [.ref ln,.tup (bsX bs)] S) λv S'=>∃o,v=opX o/\zaK bs o/\zT mx ln S'/\Kp (· =ln) S S':=by
 walk_at "wr";unfold ZF;refine zh (yd (yl (zg (zj rfl (zg (ym (ym (za3 (xX (zg (zj rfl (yI (xF ?_)))))))))))));rw[wx];ext;refine (yT hl ⋯).imp ?_;rintro _ S1 ⟨c,rfl,c0,c1,l1,k1⟩;dsimp only[ui];refine zh (zF ?_);ext;refine xw (λhc=> ?_) (λhc=>zo ?_)
 .refine yk (ym (ym (zj rfl (ym (zj rfl (xX (zg (zj rfl (yI (xF ?_))))))))));rw[wx];have hb:0<bs.length:=by omega
  refine Yo ⋯ ?_;have hm:(c % (bs.length:Int)).toNat<bs.length:=by
   have:=z4 c (show (0:Int)<(bs.length:Int) by omega);have:=y6 c (show (bs.length:Int)≠0 by omega);omega
  have eb:bs[(c % (bs.length:Int)).toNat]? =f7 bs[(c % (bs.length:Int)).toNat]:=u6 hm;refine yh (l:=bsX bs) rfl (UR (y6 c ⋯) (XN eb)) ?_;ext;exact⟨.nam _,rfl,ziu eb,l1,k1⟩
 .refine zh (zF ?_);ext;refine xw (λjc=> ?_) (λjc=>zo ?_)
  .ext;refine (yT l1 ∅).imp ?_;rintro _ S2 ⟨i,rfl,i0,i1,l2,k2⟩;rw[show (10:Int)^(9:Int).toNat=1000000000 from rfl] at i1;exact⟨.num i,rfl,(by show i.natAbs<=1000000000;omega),l2,k1.trans k2⟩
  .ext;refine (yT l1 ∅).imp ?_;rintro _ S2 ⟨i,rfl,i0,i1,l2,k2⟩;exact⟨.num i,rfl,(by show i.natAbs<=1000000000;omega),l2,k1.trans k2⟩
theorem zlB (hl:zT mx ln S) (h9:bs.length<=9):W (vO fu [.ref ln,.tup (bsX bs)] S) λv S'=>∃t,v=tsX t/\zqR bs t/\zT mx ln S'/\Kp (· =ln) S S':=by
 walk_at "wr";unfold WK;refine zh (yd (yl (zg (zj rfl (zg (zj rfl (yI ?_)))))));refine (We hl h9).imp ?_;rintro _ S1 ⟨oa,rfl,ha,l1,k1⟩;dsimp only[ui];refine zh (yd (ym (za3 (yl (zg (zj rfl (zg (za3 (yI ?_)))))))));refine (yT l1 ∅).imp ?_;rintro _ S2 ⟨c,rfl,c0,c1,l2,k2⟩;obtain⟨sg,kQ,e⟩:∃sg,sg<3/\zfm (.str "=<#") (.int c) S2=f7 (.str (sgS sg),S2):=by
  have:c=0\/c=1\/c=2:=by omega
  obtain rfl|rfl|rfl:=this
  .exact⟨0,∅,rfl⟩
  .exact⟨1,∅,rfl⟩
  .exact⟨2,∅,rfl⟩
 refine WO.of e ?_;dsimp only[ui];refine yk (Xo (zg (zj rfl (zg (zj rfl (zg (yl (zg (zj rfl (zg (zj rfl (yI ?_)))))))))))) ;refine (We l2 h9).imp ?_;rintro _ S3 ⟨ob,rfl,hb,l3,k3⟩;ext;exact⟨⟨oa,sg,ob⟩,rfl,⟨ha,hb,kQ⟩,l3,(k1.trans k2).trans k3⟩
end
section
variable {fu:Nat} {S S' S2:Sto} {x y z:Xv} {sn fn dn:Nat} {fs fs':List zC} {bs:List (Str×Nat)} {us:List Xv} {Fn:List Nat->Q2} {xr:Xv}
def Rel (bs:List (Str×Nat)) (us:List Xv) (k:Nat):Prop:=∃b,bs[k]? =f7 b/\(us.any λz=>zeb z (.str b.1))=ia
def Mk (ss:List Nat) (fs:List zC) (bs:List (Str×Nat)) (us:List Xv) (Fn:List Nat->Q2) (ns:List Nat) (i:Nat):Prop:=∀st,yt ss st->(∀k,k<ns.length->Rel bs us k->ns[k]? =st[k]?)->∃h,VA fs st (Fn st) h i
theorem Mk.mono {ss ns:List Nat} {i:Nat} (h:Mk ss fs bs us Fn ns i) (p:fs<+:fs'):Mk ss fs' bs us Fn ns i:=λst hs hk=>by
 obtain⟨k,v⟩:=h st hs hk;exact⟨k,v.mono p⟩
structure RuM (fu:Nat) (sn fn dn:Nat) (bs:List (Str×Nat)) (us:List Xv) (Fn:List Nat->Q2) (xr:Xv):Prop where
 run:∃(L:xq) (bz:List Xv) (tw:List Xv->TwF),xr= .lam L bz/\Yq [(TZ,zdy fu),(zaa,zdz fu)] L=f7 tw/\∀{S:Sto} {fs:List zC} {ns:List Nat},yG sn fn dn (.tup (bsX bs)) fs S->yt (bs.map (·.2)) ns->W (tw bz [.tup (ksX ns)] S) λv S'=>QX v (Fn ns)/\S<+:S'
 dep:∀st st':List Nat,yt (bs.map (·.2)) st->yt (bs.map (·.2)) st'->(∀k,Rel bs us k->st[k]? =st'[k]?)->Fn st=Fn st'
 fl:us.all wn=ia
 len:us.length<=3
theorem nb_ {b:Bool} (h:(ia !=b)=ia):b=kb:=by cases b<;>simp_all
theorem zcu {k:Nat} {b:Str×Nat} (e:bs[k]? =f7 b):(bs.map (·.2))[k]? =f7 b.2:=by rw[uf,e];rfl
theorem zne (h9:bs.length<=9) (h1:∀b∈bs,1<=b.2/\b.2<=9) (hr:RuM fu sn fn dn bs us Fn xr):∀(d N:Nat) {S:Sto} {fs:List zC} {ns:List Nat},d+1<=N->ns.length+d=bs.length->(∀(k:Nat) v b,ns[k]? =f7 v->bs[k]? =f7 b->v<b.2)->yG sn fn dn (.tup (bsX bs)) fs S->WF (bs.map (·.2)) fs->fs.length+cst (bs.map (·.2)) d<=1000000->
  W (yi fu N [.ref sn,.tup us,xr,.tup (ksX ns)] S) λv S'=>∃(i:Nat) (fs':List zC),v= .int (i:Int)/\(∃f,fs'[i]? =f7 f/\ns.length<=lvl (bs.map (·.2)).length f)/\Mk (bs.map (·.2)) fs' bs us Fn ns i/\WF (bs.map (·.2)) fs'/\yy sn fn dn (.tup (bsX bs)) fs (cst (bs.map (·.2)) d) S fs' S':=by
 have jK:(bs.map (·.2)).length=bs.length:=uw _;have h8:∀s∈bs.map (·.2),1<=s:=λs hs=>by
  obtain⟨b,hb,rfl⟩:=x8.1 hs;exact (h1 b hb).1
 intro d
 induction d with
 |zero=>
  intro N S fs ns hN dE hok h w hf;obtain⟨N,rfl⟩:∃M,N=M+1:=⟨N-1,⋯⟩;have c2:2<=cst (bs.map (·.2)) 0:=by unfold cst;rw[D1,C9];exact ug _
  rw[xt];walk_at "wr";unfold xD;refine zh (yd (xX (zg (zj rfl (yI (xF ?_))))));rw[xf];dsimp only[ui];refine zh (zF (vr (ym (zj rfl (xX (zg (yM ?_)))))));ext;refine⟨_,_,_,rfl,h.o,rfl,?_⟩;ext;refine xF ?_;rw[wx];ext;refine xw (λ_=> ?_) (λzz=>absurd ⋯ zz);refine yk (ye ?_);ext;refine⟨_,_,rfl,h.o,rfl,?_⟩;obtain⟨L,bz,tw,rfl,hp,ht⟩:=hr.run
  have fw:yt (bs.map (·.2)) ns:=⟨⋯,λk v s e1 e2=>by
   rw[uf] at e2;cases e3:bs[k]? with
   |none=>rw[e3] at e2;cases e2
   |some b=>rw[e3] at e2;cases e2;exact hok k v b e1 e3⟩
  refine zg (zca rfl hp (zg (zj rfl (yI ?_))));refine (ht h fw).imp ?_;rintro v S2 ⟨hq,p⟩;ext;refine (zeG (h.pre p) ⋯ hq).imp ?_;rintro _ S3 ⟨i,cZ,rfl,e1,ad,g⟩;refine⟨i,cZ,rfl,⟨_,e1,by show ns.length<=(bs.map (·.2)).length;omega⟩,λst hs hk=> ?_,w.leaf g.st.nd ad,((yy.of_pre h p).trans g).more ⋯⟩;refine⟨0,.leaf ?_⟩
  rw[hr.dep st ns hs fw λk lY=>(hk k (by
   obtain⟨b,e,_⟩:=lY;have:=(u9.1 e).1
   omega) lY).symm]
  exact e1
 |succ d ih=>
  intro N S fs ns hN dE hok h w hf;obtain⟨N,rfl⟩:∃M,N=M+1:=⟨N-1,⋯⟩;have hl:ns.length<bs.length:=by omega
  have eb:bs[ns.length]? =f7 bs[ns.length]:=u6 hl;generalize bs[ns.length]=b at eb;have hsz:=h1 b (ud eb);have es:=zcu eb;have om:=zcq h8 (show d<=d+1 by omega);have hc:cst (bs.map (·.2)) (d+1)=2+b.2*cst (bs.map (·.2)) d:=by
   have:=zht es;rw[show (bs.map (·.2)).length-ns.length=d+1 by omega] at this;exact this
  rw[xt];walk_at "wr";unfold xD;refine zh (yd (xX (zg (zj rfl (yI (xF ?_))))));rw[xf];dsimp only[ui];refine zh (zF (vr (ym (zj rfl (xX (zg (yM ?_)))))));ext;refine⟨_,_,_,rfl,h.o,rfl,?_⟩;ext;refine xF ?_;rw[wx];ext;refine xw (λzz=>absurd zz ⋯) (λ_=>zo ?_);refine zh (zF (vr (ym (ym (ym (yM ?_))))));ext;refine⟨_,_,_,rfl,h.o,rfl,?_⟩;ext;refine yh (l:=bsX bs) rfl (yJ (XN eb)) ?_;ext;refine zqd (l:=us) rfl (by show (ia&&us.all wn)=ia;rw[hr.fl];rfl) ?_;refine⟨_,rfl,λzz=> ?_,λzz=>zo ?_⟩
  .have rB:¬Rel bs us ns.length:=by
    rintro⟨b',e',h'⟩;rw[eb] at e';cases e';rw[nb_ zz] at h';cases h'
   refine yk (ye ?_);ext;refine⟨_,_,rfl,h.o,rfl,?_⟩;ext;refine WQ (by rw[xf];simp only[ux,A9];omega) ?_;rw[show ksX ns++[Xv.int 0]=ksX (ns++[0]) from (WP ns 0).symm];ext
   refine (ih N ⋯ (by simp;omega) (λk v b' e1 e2=>by
     rcases x5 k ns.length with h'|h'|h'
     .rw[uc h'] at e1;exact hok k v b' e1 e2
     .subst h';rw[ur (ug _),A2] at e1;rw[eb] at e2;cases e2;cases e1;omega
     .rw[uA (by simp;omega)] at e1;cases e1) h w ⋯).imp ?_
   rintro v S2 ⟨i,bC,hv,⟨f,e1,e2⟩,mk,w2,g⟩;refine⟨i,bC,hv,⟨f,e1,by rw[uD] at e2;omega⟩,λst hs hk=>mk st hs λk m9 hr=> ?_,w2,g.more om⟩;rcases x5 k ns.length with h'|h'|h'
   .rw[uc h'];exact hk k h' hr
   .subst h';exact absurd hr rB
   .rw[uD] at m9;simp at m9;omega
  .refine zh (yd (ym (ym (yM ?_))));ext;refine⟨_,_,_,rfl,h.o,rfl,?_⟩;ext;refine yh (l:=bsX bs) rfl (yJ (XN eb)) ?_;ext;refine ye ?_;ext;refine⟨_,_,rfl,h.o,rfl,?_⟩;refine zg (zj rfl (zg (xp (wU (zj rfl ?_)))));refine⟨_,rfl,⟨⋯,⋯⟩,_,rfl,?_⟩;rw[uM]
   refine yQ (xs:=xL 0 b.2) (by rw[zY];exact vp ⋯) (λi es S2=>∃(bC:List zC) (ks:List Nat),es=ksX ks/\ks.length=i/\yy sn fn dn (.tup (bsX bs)) fs (i*cst (bs.map (·.2)) d) S bC S2/\WF (bs.map (·.2)) bC/\
     ∀(m k:Nat),ks[m]? =f7 k->(∃f,bC[k]? =f7 f/\ns.length<lvl (bs.map (·.2)).length f)/\Mk (bs.map (·.2)) bC bs us Fn (ns++[m]) k) (λ_ _ _ _ _=>rfl) ?_ ⟨fs,[],rfl,rfl,h.grown.more ⋯,w,λm k e=>by simp at e⟩ ?_
   .rintro i w0 fT S2 hw gI ⟨bC,ks,rfl,fX,g2,w2,fO⟩;obtain⟨hi,rfl⟩:=xk hw;rw[y9];refine .of rfl ?_;dsimp only[xM,uY,ui];ext;refine⟨rfl,ye ?_⟩;ext;refine⟨_,_,rfl,g2.st.o,rfl,?_⟩;ext;refine WQ (by rw[xf];simp only[ux,A9];omega) ?_;rw[show ksX ns++[Xv.int (i:Int)]=ksX (ns++[i]) from (WP ns i).symm];ext;have o7:(i+1)*cst (bs.map (·.2)) d<=b.2*cst (bs.map (·.2)) d:=v5 _ hi;have kZ:(i+1)*cst (bs.map (·.2)) d=i*cst (bs.map (·.2)) d+cst (bs.map (·.2)) d:=Ad i _;have f2:=g2.len
    refine (ih N ⋯ (by simp;omega) (λk v b' e1 e2=>by
     rcases x5 k ns.length with h'|h'|h'
     .rw[uc h'] at e1;exact hok k v b' e1 e2
     .subst h';rw[ur (ug _),A2] at e1;rw[eb] at e2;cases e2;cases e1;omega
     .rw[uA (by simp;omega)] at e1;cases e1) g2.st w2 ⋯).imp ?_
    rintro _ S3 ⟨k,cZ,rfl,⟨f,e1,e2⟩,mk,w3,g3⟩;refine⟨cZ,ks++[k],by rw[WP],by simp[fX],(g2.trans g3).more ⋯,w3,λm k' e=> ?_⟩;rcases x5 m ks.length with ft|ft|ft
    .rw[uc ft] at e;obtain⟨⟨f',e1,e2⟩,tt⟩:=fO m k' e;exact⟨⟨f',xn g3.pre e1,e2⟩,tt.mono g3.pre⟩
    .subst ft;rw[ur (ug _),A2] at e;cases e;rw[fX];exact⟨⟨f,e1,by rw[uD] at e2;exact e2⟩,mk⟩
    .rw[uA (by simp;omega)] at e;cases e
   .rintro fT S2 _ ⟨bC,ks,rfl,fX,g2,w2,fO⟩;rw[zY] at fX g2;have g3:=g2.app (ua S2 [.lst (ksX ks)]);have ja:(S2++[Ce.lst (ksX ks)])[S2.length]? =f7 (.lst (ksX ks)):=yF;generalize S2++[Ce.lst (ksX ks)]=S3 at g3 ja;have f2:=g2.len;have h0:ks[0]? =f7 ks[0]:=u6 ⋯;ext;refine (zeJ g3.st ⋯ ja h0 ⋯).imp ?_;rintro _ S4 ⟨r,gL,rfl,fo,ad,g⟩;have iU:∀k∈ks,∃f,bC[k]? =f7 f/\ns.length<lvl (bs.map (·.2)).length f:=λk hk=>by
     obtain⟨m,ft⟩:=z5 hk;exact (fO m k ft).1
    have w4:WF (bs.map (·.2)) gL:=by
     rcases ad with rfl|⟨gn,ad⟩
     .exact w2
     .refine w2.fork g.st.nd (.inr ad) es fX iU λz=>gn λk hk=> ?_;exact z k hk ks[0] (y4 _)
    refine⟨r,gL,rfl,?_,λst hs fm=> ?_,w4,(g3.trans g).more ⋯⟩
    .obtain⟨k0,e0,⟨all,rfl⟩|⟨_,e⟩⟩:=fo
     .obtain⟨f,e1,e2⟩:=iU r (ud e0);exact⟨f,xn g.pre e1,⋯⟩
     .exact⟨_,e,ug _⟩
    .obtain⟨m,em,ft⟩:=hs.get es;have ek:ks[m]? =f7 ks[m]:=u6 ⋯;obtain⟨_,tl⟩:=fO m _ ek;obtain⟨hh,v⟩:=tl st hs λk hk hr=>by
      rcases x5 k ns.length with h'|h'|h'
      .rw[uc h'];exact fm k h' hr
      .subst h';rw[ur (ug _),A2,em];rfl
      .rw[uD] at hk;simp at hk;omega
     exact⟨_,fo.va em ek (v.mono g.pre)⟩
theorem ziv (h9:bs.length<=9) (h1:∀b∈bs,1<=b.2/\b.2<=9) (hr:RuM fu sn fn dn bs us Fn xr) (h:yG sn fn dn (.tup (bsX bs)) fs S) (w:WF (bs.map (·.2)) fs) (hf:fs.length+cst (bs.map (·.2)) (bs.map (·.2)).length<=1000000):
  W (Zp fu [.ref sn,.tup us,xr] S) λv S'=>∃(i:Nat) (fs':List zC),v= .int (i:Int)/\(∃f,fs'[i]? =f7 f)/\(∀st,yt (bs.map (·.2)) st->∃h,VA fs' st (Fn st) h i)/\WF (bs.map (·.2)) fs'/\yy sn fn dn (.tup (bsX bs)) fs (cst (bs.map (·.2)) (bs.map (·.2)).length) S fs' S':=by
 walk_at "wr";unfold Xy;refine yk (ye ?_);ext;refine⟨_,_,rfl,h.o,rfl,?_⟩;ext;have jK:(bs.map (·.2)).length=bs.length:=uw _;rw[jK] at hf ⊢;refine (zne h9 h1 hr bs.length 12 (ns:=[]) ⋯ (by simp) (λk v b e=>by simp at e) h w hf).imp ?_;rintro _ S2 ⟨i,bC,rfl,⟨f,e1,_⟩,mk,w2,g⟩;exact⟨i,bC,rfl,⟨f,e1⟩,λst hs=>mk st hs λk hk=>by simp at hk,w2,g⟩
end
section
variable {fu:Nat} {S S' S2:Sto} {x y z:Xv} {sn fn dn:Nat} {fs fs':List zC} {bs:List (Str×Nat)} {pt:List Nat}
theorem zeO {n i:Nat} (h:i<n):ixN n (i:Int)=f7 i:=by
 unfold ixN;rw[if_pos ⋯,if_pos ⋯,uM]
theorem zjs {n:Nat} (h:n<=9):Builtin.Range.small ((n:Int)-1) (-1) (-1)=ia:=zhb ⋯ ⋯
theorem ziw (ks:List Nat) (j r:Nat):(ksX ks).set j (.int (r:Int))=ksX (ks.set j r):=by unfold ksX;rw[List.map_set]
theorem znf (s n:Nat):ksX (uJ s n)=uJ s (.int (n:Int)):=by unfold ksX;rw[List.map_replicate]
def Pt (ss:List Nat) (fs:List zC) (pt:List Nat) (lv i:Nat):Prop:=∀st,yt ss st->∃h,VA fs st (bQ (decide (st.drop lv=pt.drop lv))) h i
theorem yG.isome {bx:Xv} (h:yG sn fn dn bx fs S):S[sn]? ≠gC/\S[fn]? ≠gC/\S[dn]? ≠gC:=by
 obtain⟨xs,_,h1,h2⟩:=h.fd';rw[h.o,h1,h2];exact⟨λe=>(by cases e),λe=>(by cases e),λe=>(by cases e)⟩
theorem zng (h9:bs.length<=9) (h1:∀b∈bs,1<=b.2/\b.2<=9) (jv:yt (bs.map (·.2)) pt) (h:yG sn fn dn (.tup (bsX bs)) fs S) (w:WF (bs.map (·.2)) fs) (hf:fs.length<=900000):
  W (YF fu [.ref sn,.tup (ksX pt)] S) λv S'=>∃(i:Nat) (fs':List zC),v= .int (i:Int)/\(∃f,fs'[i]? =f7 f)/\Pt (bs.map (·.2)) fs' pt 0 i/\WF (bs.map (·.2)) fs'/\yy sn fn dn (.tup (bsX bs)) fs 11 S fs' S':=by
 have jK:(bs.map (·.2)).length=bs.length:=uw _;walk_at "wr";unfold VZ;refine zh (yd (ye ?_));ext;refine⟨_,_,rfl,h.o,rfl,?_⟩;ext;refine (zeG h ⋯ (q:=(0,1)) (y:= .ct [.int 0,.int 1]) rfl).imp ?_;rintro _ S1 ⟨n0,d3,rfl,e0,sX,g1⟩;dsimp only[ui];refine zh (yd (ye ?_));ext;refine⟨_,_,rfl,g1.st.o,rfl,?_⟩;ext;have f1:=g1.len;refine (zeG g1.st ⋯ (q:=(1,1)) (y:= .ct [.int 1,.int 1]) rfl).imp ?_;rintro _ S2 ⟨n1,bC,rfl,e1,sW,g2⟩;dsimp only[ui];have w1:=w.leaf g1.st.nd sX;have w2:=w1.leaf g2.st.nd sW;have g:=g1.trans g2;refine zh (vj (zoY (ym (xX (zg (yM ?_))))));ext;refine⟨_,_,_,rfl,g2.st.o,rfl,?_⟩;ext;refine xF ?_;rw[wx];ext;refine⟨_,_,rfl,rfl,rfl,zjs h9,_,rfl,?_⟩;rw[show ((bs.length:Int)-1-(-1)).toNat=bs.length by omega];refine xT (xs:=UB ((bs.length:Int)-1) bs.length) (λi ρ S3=>∃(cZ:List zC) (r:Nat) (a4 a5:Option Xv),ρ=[f7 (.ref sn),f7 (.tup (ksX pt)),f7 (.int (n0:Int)),f7 (.int (r:Int)),a4,a5]/\yy sn fn dn (.tup (bsX bs)) fs (2+i) S cZ S3/\WF (bs.map (·.2)) cZ/\cZ[n0]? =f7 (.leaf (0,1))/\(∃f,cZ[r]? =f7 f/\bs.length-i<=lvl (bs.map (·.2)).length f)/\Pt (bs.map (·.2)) cZ pt (bs.length-i) r) (λ_ _ _ _ _=>rfl) ?_ ?_ ?_
 .rintro i w0 ρ S3 hw ⟨cZ,r,a4,a5,rfl,g3,w3,en,⟨fr,er,hr⟩,hp⟩;obtain⟨hi,rfl⟩:=zla hw;refine .of rfl ?_;dsimp only[ui];have jw:(bs.length:Int)-1-(i:Int)=((bs.length-1-i:Nat):Int):=by omega
  rw[jw];generalize rH:bs.length-1-i=lv at jw;have rM:lv<bs.length:=by omega
  have nU:bs.length-i=lv+1:=by omega
  rw[nU] at hr hp;have eb:bs[lv]? =f7 bs[lv]:=u6 rM;generalize bs[lv]=b at eb;have hsz:=h1 b (ud eb);have es:=zcu eb;obtain⟨p,ep,eY⟩:=jv.get es;refine zh (yd (xp (wU (ym (ym (yM ?_))))));ext;refine⟨_,_,_,rfl,g3.st.o,rfl,?_⟩;ext;refine yh (l:=bsX bs) rfl (yJ (XN eb)) ?_;ext;refine⟨⟨⋯,⋯⟩,_,rfl,?_⟩;rw[uM];refine yQ (xs:=xL 0 b.2) (by rw[zY];exact vp ⋯) (λj es S4=>es=uJ j (.int (n0:Int))/\S4=S3) (λ_ _ _ _ _=>rfl) ?_ ⟨rfl,rfl⟩ ?_
  .rintro j w1 oH S4 tE _ ⟨rfl,rfl⟩;refine .of rfl ?_;dsimp only[xM,uY,ui];ext;refine⟨rfl,?_⟩;ext;exact⟨by rw[B3],rfl⟩
  rintro oH S4 _ ⟨rfl,rfl⟩;rw[zY,<-znf];dsimp only[ui];have g4:=g3.app (ua S4 [.lst (ksX (uJ b.2 n0))]);have jT:(S4++[Ce.lst (ksX (uJ b.2 n0))])[S4.length]? =f7 (.lst (ksX (uJ b.2 n0))):=yF;have o3:S.length<=S4.length:=g3.kp.1;generalize tP:S4++[Ce.lst (ksX (uJ b.2 n0))]=S5 at g4 jT;refine zh (zbZ (zj rfl (zj rfl (ym (zj rfl (zj rfl ?_))))));refine yh rfl (yJ (Uf ep)) ?_;refine⟨_,_,_,p,Zk jT,rfl,zeO (by rw[xf,Cy];exact eY),?_⟩;rw[ziw];obtain⟨q0,q1,q2⟩:=h.isome;have g5:=g4.set (c:= .lst (ksX ((uJ b.2 n0).set p r))) o3 q0 q1 q2;have ko:=wk (c':= .lst (ksX ((uJ b.2 n0).set p r))) jT;generalize S5.set S4.length (.lst (ksX ((uJ b.2 n0).set p r)))=S6 at g5 ko;generalize fO:(uJ b.2 n0).set p r=ks at ko;have fX:ks.length=b.2:=by rw[<-fO];simp
  have pD:∀m,m<b.2->ks[m]? =f7 (if m=p then r else n0):=λm hm=>by
   rw[<-fO,uZ];by_cases e:p=m
   .rw[if_pos e,if_pos (by simpa using eY),if_pos e.symm]
   .rw[if_neg e,if_neg (λz=>e z.symm),AF,if_pos hm]
  have iU:∀k∈ks,∃f,cZ[k]? =f7 f/\lv<lvl (bs.map (·.2)).length f:=λk hk=>by
   obtain⟨m,hm⟩:=z5 hk;have m5:=(u9.1 hm).1;rw[pD m ⋯] at hm;by_cases e:m=p
   .rw[if_pos e] at hm;cases hm;exact⟨fr,er,hr⟩
   .rw[if_neg e] at hm;cases hm;exact⟨_,en,by show lv<(bs.map (·.2)).length;omega⟩
  have h0:ks[0]? =f7 ks[0]:=u6 ⋯;refine yd (ye ?_);ext;refine⟨_,_,rfl,g5.st.o,rfl,?_⟩;ext;have f3:=g5.len;refine (zeJ g5.st ⋯ ko h0 ⋯).imp ?_;rintro _ S7 ⟨r',pQ,rfl,fo,ad,g7⟩;have w7:WF (bs.map (·.2)) pQ:=by
   rcases ad with rfl|⟨gn,ad⟩
   .exact w3
   .refine w3.fork g7.st.nd (.inr ad) es fX iU λz=>gn λk hk=> ?_;exact z k hk ks[0] (y4 _)
  rw[show bs.length-(i+1)=lv by omega];refine⟨pQ,r',_,_,rfl,(g5.trans g7).more ⋯,w7,xn g7.pre en,?_,λst hs=> ?_⟩
  .obtain⟨k0,sR,⟨all,rfl⟩|⟨_,e⟩⟩:=fo
   .obtain⟨f,sQ,pX⟩:=iU r' (ud sR);exact⟨f,xn g7.pre sQ,⋯⟩
   .exact⟨_,e,ug _⟩
  .obtain⟨m,em,hm⟩:=hs.get es;have ek:=pD m hm;obtain⟨nY,em'⟩:=u9.1 em;obtain⟨hJ,ep'⟩:=u9.1 ep;rw[Aj nY,Aj hJ,em',ep'];by_cases e:m=p
   .rw[if_pos e] at ek;obtain⟨hh,v⟩:=hp st hs;subst e;rw[show decide (m::st.drop (lv+1)=m::pt.drop (lv+1))=decide (st.drop (lv+1)=pt.drop (lv+1)) by simp];exact⟨_,fo.va em ek (v.mono g7.pre)⟩
   .rw[if_neg e] at ek;rw[show decide (m::st.drop (lv+1)=p::pt.drop (lv+1))=kb from decide_eq_false λz=>e (by injection z)];exact⟨_,fo.va em ek (.leaf (h:=0) (xn g7.pre en))⟩
 .refine⟨bC,n1,gC,gC,rfl,g,w2,xn g2.pre e0,⟨_,e1,by show bs.length-0<=(bs.map (·.2)).length;omega⟩,λst hs=>⟨0,.leaf ?_⟩⟩;rw[D1,Cv (by rw[hs.1];omega),Cv (by rw[jv.1];omega)];exact e1
 .rintro ρ S3 ⟨cZ,r,a4,a5,rfl,g3,w3,en,⟨fr,er,hr⟩,hp⟩;rw[zjf] at g3 hp;ext;rw[A2] at hp;exact⟨r,cZ,rfl,⟨fr,er⟩,hp,w3,g3.more ⋯⟩
end
section
variable {fu:Nat} {S S' S2:Sto} {x y z:Xv} {ss:List Nat} {bl:List Xv} {fs fs':List zC}
theorem yt.tail {s a:Nat} {r t:List Nat} (h:yt (s::r) (a::t)):a<s/\yt r t:=
 ⟨h.2 0 a s rfl rfl,by simpa using h.1,λi x u e1 e2=>h.2 (i+1) x u (by simpa using e1) (by simpa using e2)⟩
theorem zeP:∀{ss st:List Nat},yt ss st->idx ss st<prd ss
 |[],[],_=>by decide
 |[],_::_,h=>by have:=h.1;simp at this
 |_::_,[],h=>by have:=h.1;simp at this
 |s::r,a::t,h=>by
  obtain⟨h1,h2⟩:=h.tail;have:=zeP h2;show a*prd r+idx r t<s*prd r;have:(a+1)*prd r<=s*prd r:=v5 _ h1;rw[Ad] at this;omega
theorem zix:∀{ss st st':List Nat},yt ss st->yt ss st'->idx ss st=idx ss st'->st=st'
 |[],[],[],_,_,_=>rfl
 |[],_::_,_,h,_,_=>by have:=h.1;simp at this
 |[],[],_::_,_,h,_=>by have:=h.1;simp at this
 |_::_,[],_,h,_,_=>by have:=h.1;simp at this
 |_::_,_::_,[],_,h,_=>by have:=h.1;simp at this
 |s::r,a::t,b::u,h,g,e=>by
  obtain⟨h1,h2⟩:=h.tail;obtain⟨g1,g2⟩:=g.tail;have e:a*prd r+idx r t=b*prd r+idx r u:=e;have l1:=zeP h2;have l2:=zeP g2;have:a=b:=by
   rcases x5 a b with q|q|q
   .have:(a+1)*prd r<=b*prd r:=v5 _ q;rw[Ad] at this;omega
   .exact q
   .have:(b+1)*prd r<=a*prd r:=v5 _ q;rw[Ad] at this;omega
  subst this;rw[zix h2 g2 ⋯]
theorem ZN.has {L:List (List Nat)} (g:ZN ss L) {st:List Nat} (h:yt ss st):L[idx ss st]? =f7 st:=by
 have hl:idx ss st<L.length:=by rw[g.len];exact zeP h
 have e:L[idx ss st]? =f7 L[idx ss st]:=u6 hl;obtain⟨h1,h2⟩:=g.at_ _ _ e;rw[e,zix h1 h h2]
theorem zf6.of {L:List (List Nat)} (g:ZN ss L) {F:List Nat->Q2} {i:Nat} (h:∀st,yt ss st->∃h,VA fs st (F st) h i):zf6 ss fs 0 (L.map F) i:=λst hs=>by
 obtain⟨k,v⟩:=h st hs;refine⟨F st,k,?_,v⟩;rw[Ah,Ah,uf,g.has hs];rfl
noncomputable def stD (st:List Nat):D:= .tup ((st.map λ(k:Nat)=>(k:Int)).map D.int)
theorem zbo (st:List Nat):ZS S 40 (.tup (ksX st))=f7 (stD st):=by
 show (Ym (ZS S 39) (ksX st)).map D.tup=_;rw[zls];rfl
theorem zlC:∀{a b:List Nat},(a.map λ(k:Nat)=>(k:Int))=(b.map λ(k:Nat)=>(k:Int))->a=b
 |[],[],_=>rfl
 |[],_::_,h=>by cases h
 |_::_,[],h=>by cases h
 |x::r,y::t,h=>by
  rw[uE,uE] at h;injection h with h1 h2
  rw[zlC h2,Bv.1 h1]
theorem znR {n:Nat} {a b:List Nat} (h:a.length=b.length):eqG (n+1) (stD a) (stD b)=f7 (decide (a=b)):=by
 have e:=zdm (n:=n) (a.map λ(k:Nat)=>(k:Int)) (b.map λ(k:Nat)=>(k:Int)) (by rw[uw,uw,h]);unfold stD;show (Uv (eqG n) _ _).map _=_;rw[e,Aa]
 congr 1
 rw[show decide ((a.map λ(k:Nat)=>(k:Int))=(b.map λ(k:Nat)=>(k:Int)))=decide (a=b) by
  by_cases q:a=b
  .rw[decide_eq_true q,decide_eq_true (by rw[q])]
  .rw[decide_eq_false q,decide_eq_false λz=>q (zlC z)]]
 rw[show ((a.map λ(k:Nat)=>(k:Int)).map D.int).length==((b.map λ(k:Nat)=>(k:Int)).map D.int).length from by simp[h],Bool.and_true]
theorem zlD {P:Xv->Sto->Prop} {l:List Xv} {lo hi:Option Int} (k:P (.tup (Tq l lo hi)) S):WO (zgT (.tup l) lo hi S) P:= .of rfl k
theorem zpf {α:Type} (l:List α) (a:Nat) (h:a<=l.length):Tq l gC (f7 (a:Int))=l.take a:=by
 have e:(0:Nat)+a<=l.length:=by omega
 unfold L2.Tq;rw[HT.zhG,Dn h];simp[HT.sIx]
theorem zlE {α:Type} (l:List α) (a:Nat) (h:a<=l.length):Tq l (f7 (a:Int)) gC=l.drop a:=by
 unfold L2.Tq;rw[HT.zhG,Dn h];simp[HT.sIx];exact Ct (by simp)
end
section
variable {fu:Nat} {S S':Sto} {x y:Xv}
theorem zlF {P:Xv->Sto->Prop} {p:Int} (k:P (.int (p.natAbs:Int)) S):WO (zkQ [.int p] S) P:= .of (show zkQ [.int p] S=f7 (.int (if p<0 then -p else p),S) from rfl) (by
 rw[show (if p<0 then -p else p)=(p.natAbs:Int) by split<;>omega]
 exact k)
theorem zjt:∀(n:Nat) (one other:Nat) (a2:Option Xv),other<n->
  WS (zbO (bE (eOp zi4 (za 1) (eC (.int 0)))) (zq (zH (eOp Vt (za 0) (za 1)) (gN 2)) (zq (zH (za 1) (gN 0)) (zH (za 2) (gN 1)))) n [f7 (.int one),f7 (.int other),a2] S) (λρ S'=>∃a2,ρ=[f7 (.int (Bi one other:Nat)),f7 (.int 0),a2]/\S=S') (λ_ _=>False):=by
 intro n
 induction n with
 |zero=>intro one other a2 h;omega
 |succ n ih=>
  intro one other a2 h;refine zeg ?_;ext;rw[show (!decide ((other:Int)=0))=decide (¬(other:Int)=0) by simp];refine xw (λh=> ?_) (λh=> ?_)
  .have h0:0<other:=by omega
   ext;refine Yo ⋯ ?_;ext;have:=ih other (one % other) (f7 (.int ((one % other:Nat):Int))) (by have:=Nat.mod_lt one h0;omega);rw[show Bi other (one % other)=Bi one other by rw[Nat.gcd_comm other,<-Nat.gcd_rec,Nat.gcd_comm]] at this;rw[Int.natCast_emod] at this;exact this
  .have:other=0:=by omega
   subst this;exact⟨a2,by simp,rfl⟩
def zaL (n:Nat) (p:Int):Prop:=p.natAbs<2^n
theorem zaL.mono {n m:Nat} {p:Int} (h:zaL n p) (hn:n<=m):zaL m p:=uB h (CJ ∅ hn)
theorem zaL.le {n:Nat} {p:Int} (h:zaL n p):intBits p<=n:=z3.mpr h
theorem zaL.fuel {n:Nat} {p:Int} (hb:Big fu) (h:zaL n p) (hn:n<=9000):p.natAbs<fu:=uB (h.mono hn) hb
theorem zlG {n:Nat} {t b:Int} (h0:0<b) (hb:zaL n b) (hn:n<=9000):((Bi t.natAbs b.natAbs:Nat):Int)≠0/\intBits ((Bi t.natAbs b.natAbs:Nat):Int)<=9000:=by
 have g0:0<Bi t.natAbs b.natAbs:=Nat.gcd_pos_of_pos_right _ ⋯;have gl:Bi t.natAbs b.natAbs<=b.natAbs:=Nat.gcd_le_right _ ⋯;refine⟨⋯,uC (zaL.le (n:=n) ?_) hn⟩;unfold zaL;rw[Int.natAbs_natCast];exact uP gl hb
noncomputable def znh (t b:Int):Q2:=(t / (Int.gcd t b:Int),b / (Int.gcd t b:Int))
theorem zlH {t b:Int}:qv (znh t b)= .tup [.int (t.fdiv ((Bi t.natAbs b.natAbs:Nat):Int)),.int (b.fdiv ((Bi t.natAbs b.natAbs:Nat):Int))]:=by
 rw[Av _ ⋯,Av _ ⋯];rfl
theorem zlI (ez:Big fu) {t b:Int} (h0:0<b) (hb:zaL 9000 b):W (zaF fu [.int t,.int b] S) λv S'=>v=qv (znh t b)/\S=S':=by
 have gb:=zlG (t:=t) h0 hb (ug _);walk_at "wr";unfold zaE;ext;refine W.imp (P:=λv S'=>v= .int (Bi t.natAbs b.natAbs:Nat)/\S=S') ?_ ?_
 .walk_at "wr";unfold Yx;ext;refine zlF ?_;ext;refine zlF ?_;ext;refine znK ?_;rcases zjt (S:=S) fu t.natAbs b.natAbs gC (zaL.fuel ez hb (ug _)) with⟨ρ,S',e,a2,rfl,rfl⟩|⟨_,_,_,z⟩
  .refine .nx e ?_;ext;exact⟨rfl,rfl⟩
  .exact z.elim
 rintro _ _ ⟨rfl,rfl⟩;ext;refine zF ?_;ext;refine xw (λh=>absurd h ⋯) (λ_=>zo ?_);ext;refine zb0 gb ?_;ext;refine zb0 gb ?_;ext;exact⟨zlH.symm,rfl⟩
theorem zni (t:Int):znh t 1=(t,1):=by
 unfold znh;rw[Int.gcd_one];simp
def Sm (a:Int):Prop:=a.natAbs<2^60
theorem znj (ez:Big fu) {a b:Int} (ha:Sm a) (hb:Sm b) (hx:QX x (a,1)) (hy:QX y (b,1)):W (zez fu [x,y] S) λv S'=>v=qv (a+b,1)/\S=S':=by
 have l1:intBits a<=60:=z3.mpr ha;have l2:intBits b<=60:=z3.mpr hb;have l3:intBits 1<=60:=by decide
 walk_at "wr";unfold zey;ext;refine yh hx zh9 ?_;ext;refine yh hy zfw ?_;refine Up (by dsimp only;omega) ?_;ext;refine yh hy zh9 ?_;ext;refine yh hx zfw ?_;refine Up (by dsimp only;omega) ?_;ext;refine yh hx zfw ?_;ext;refine yh hy zfw ?_;refine Up (by dsimp only;omega) ?_;ext;refine (zlI (b:=1*1) ez ∅ (show zaL 9000 (1*1) by show (1:Nat)<2^9000;exact Nat.one_lt_two_pow ∅)).imp ?_;rintro _ _ ⟨rfl,rfl⟩;exact⟨by rw[show (1:Int)*1=1 from rfl,zni,Dc,Dc],rfl⟩
end
section
variable {fu:Nat} {S S' S2:Sto} {x y u v:Xv} {sn fn dn kn:Nat} {bx:Xv} {fs fs':List zC} {ss:List Nat}
theorem znS {get:Sto->Option (List Xv)} {e:TwE} {ρc:Rho} {P:Xv->Sto->Prop} (hg:get S=f7 [x,y]) (h1:W (e (ρc.set 0 (f7 x)) S) λw S'=>w=u/\S'=S) (h2:W (e (ρc.set 0 (f7 y)) S) λw S'=>w=v/\S'=S) (k:P (.ref S.length) (S++[.lst [u,v]])):
  W (Yl get (gN 0) yY e ρc 3 0 [] S) P:=by
 refine yQ (xs:=[x,y]) (show 2<=sizeLine by decide) (λi es S2=>S2=S/\es=[u,v].take i) (λi es S2 _ h=>by rw[h.1];exact hg) ?_ ⟨rfl,rfl⟩ ?_
 .rintro i w es S2 hw gI ⟨rfl,rfl⟩;refine .of rfl ?_;ext;refine⟨rfl,?_⟩
  match i,hw with
  |0,hw=>
   cases hw;refine h1.imp ?_;rintro _ _ ⟨rfl,rfl⟩;exact⟨rfl,rfl⟩
  |1,hw=>
   cases hw;refine h2.imp ?_;rintro _ _ ⟨rfl,rfl⟩;exact⟨rfl,rfl⟩
  |i+2,hw=>simp at hw
 .rintro es S2 _ ⟨rfl,rfl⟩;exact k
theorem zpg {cap:List (Option Nat)} {m e:TwE} {ρ:Rho} {P:Xv->Sto->Prop} (hn:W (m ρ S) λz S'=>z= .tup [x,y]/\S'=S) (h1:W (e ((xM cap ρ).set 0 (f7 x)) S) λw S'=>w=u/\S'=S) (h2:W (e ((xM cap ρ).set 0 (f7 y)) S) λw S'=>w=v/\S'=S) (k:P (.ref S.length) (S++[.lst [u,v]])):
  W (xh cap (iT m) (gN 0) yY e ρ S) P:=by
 refine xp (TH (hn.imp ?_));rintro _ _ ⟨rfl,rfl⟩;exact⟨_,rfl,_,rfl,znS rfl h1 h2 k⟩
theorem zlJ {cap:List (Option Nat)} {m e:TwE} {ρ:Rho} {P:Xv->Sto->Prop} {n:Nat} (hl:S[n]? =f7 (.lst [x,y])) (hn:W (m ρ S) λz S'=>z= .ref n/\S'=S) (h1:W (e ((xM cap ρ).set 0 (f7 x)) S) λw S'=>w=u/\S'=S) (h2:W (e ((xM cap ρ).set 0 (f7 y)) S) λw S'=>w=v/\S'=S) (k:P (.ref S.length) (S++[.lst [u,v]])):
  W (xh cap (iL m) (gN 0) yY e ρ S) P:=by
 refine xp (zdk (hn.imp ?_));rintro _ _ ⟨rfl,rfl⟩;exact⟨_,zG hl,_,zG hl,znS (zG hl) h1 h2 k⟩
theorem zph {P:Xv->Sto->Prop} {l:List Xv} {bs:List Bool} (h:yx S x=f7 l) (h2:ZL l=f7 bs) (k:P (.bl (bs.any id)) S):WO (zft [x] S) P:= .of (by unfold zft;dsimp only;rw[h,uz,h2];rfl) k
def zlK (fu:Nat) (G:Q2->Prop) (xr:Xv) (op:Q2->Q2->Q2):Prop:=∃(L:xq) (bz:List Xv) (tw:List Xv->TwF),xr= .lam L bz/\Yq [(VL,zdv fu)] L=f7 tw/\
 ∀{S:Sto} {m:Nat} {a b:Q2} {x y:Xv},G a->G b->QX x a->QX y b->S[m]? =f7 (.lst [x,y])->W (tw bz [.ref m] S) λw S'=>QX w (op a b)/\S'=S
theorem zdE {f:zC} (hx:FX x f):W (eOp (xB kb) (eOp zM (za 0) (eC (.int 0))) (eC (.str "fork")) [f7 x] S) λw S'=>w= .bl (isF f)/\S'=S:=by
 cases f with
 |leaf q=>
  obtain⟨y,rfl,_⟩:=hx;ext;exact zI ⟨rfl,rfl⟩
 |fork lv ks=>
  change x=_ at hx;subst hx;ext;exact zI ⟨rfl,rfl⟩
theorem zlL (hl:fs.length<=1000000) {a b:Nat} {fa fb:zC} {xr:Xv} {op:Q2->Q2->Q2} (h:yG sn fn dn bx fs S) (ea:fs[a]? =f7 fa) (eb:fs[b]? =f7 fb) {G:Q2->Prop} (hr:zlK fu G xr op) (ha:∀q,fa= .leaf q->G q) (hb:∀q,fb= .leaf q->G q):
  W (Zf fu [.ref sn,.tup [.int (a:Int),.int (b:Int)],xr] S) λw S'=>(w= .non/\(isF fa||isF fb)=ia/\S<+:S')\/∃(qa qb:Q2) (i:Nat) (fs':List zC),fa= .leaf qa/\fb= .leaf qb/\w= .int (i:Int)/\fs'[i]? =f7 (.leaf (op qa qb))/\Add fs (.leaf (op qa qb)) fs'/\yy sn fn dn bx fs 1 S fs' S':=by
 obtain⟨xa,la,pq,sC,sA⟩:=h.fact ea;obtain⟨xb,lb,pk,sy,lx⟩:=h.fact eb;walk_at "wr";unfold Wa;refine zh (yd ?_);refine zpg (x:= .int (a:Int)) (y:= .int (b:Int)) (u:=xa) (v:=xb) (zj rfl ⟨rfl,rfl⟩) ?_ ?_ ?_
 .dsimp only[xM,uY,ui];ext;refine yM ?_;ext;refine⟨_,_,_,rfl,h.o,rfl,?_⟩;ext;exact xU sC sA ⟨rfl,rfl⟩
 .dsimp only[xM,uY,ui];ext;refine yM ?_;ext;refine⟨_,_,_,rfl,h.o,rfl,?_⟩;ext;exact xU sy lx ⟨rfl,rfl⟩
 dsimp only[ui];have h1:=h.pre (ua S [.lst [xa,xb]]);have ml:(S++[Ce.lst [xa,xb]])[S.length]? =f7 (.lst [xa,xb]):=yF;have p1:S<+:S++[Ce.lst [xa,xb]]:=ua _ _;generalize S++[Ce.lst [xa,xb]]=S1 at h1 ml p1;refine zh (zF (vr (xX (zg ?_))));refine zlJ (n:=S.length) (x:=xa) (y:=xb) (u:= .bl (isF fa)) (v:= .bl (isF fb)) ml (zj rfl ⟨rfl,rfl⟩) ?_ ?_ ?_
 .dsimp only[xM,uY,ui];exact zdE pq
 .dsimp only[xM,uY,ui];exact zdE pk
 ext;refine zph (bs:=[isF fa,isF fb]) wc rfl ?_;refine⟨_,rfl,λz=> ?_,λz=> ?_⟩
 .ext;exact .inl ⟨rfl,by simpa using z,p1.trans (ua _ _)⟩
 .refine zo ?_;have h2:=h1.pre (ua S1 [.lst [.bl (isF fa),.bl (isF fb)]]);have p2:S<+:S1++[.lst [.bl (isF fa),.bl (isF fb)]]:=p1.trans (ua _ _);have lh:=xn (ua S1 [Ce.lst [.bl (isF fa),.bl (isF fb)]]) ml;generalize S1++[Ce.lst [.bl (isF fa),.bl (isF fb)]]=S3 at h2 p2 lh;cases fa with
  |fork lv ks=>simp[isF] at z
  |leaf qa=>
   cases fb with
   |fork lv ks=>simp[isF] at z
   |leaf qb=>
    obtain⟨L,bz,tw,rfl,hp,ht⟩:=hr;obtain⟨ya,rfl,qR⟩:=pq;obtain⟨yb,rfl,qQ⟩:=pk;refine yk (ye ?_);ext;refine⟨_,_,rfl,h2.o,rfl,?_⟩;refine zg (zca rfl hp (zg ?_));refine zlJ (n:=S.length) (x:= .tup [.str "leaf",ya]) (y:= .tup [.str "leaf",yb]) (u:=ya) (v:=yb) lh (zj rfl ⟨rfl,rfl⟩) ?_ ?_ ?_
    .dsimp only[xM,uY,ui];ext;exact⟨rfl,rfl⟩
    .dsimp only[xM,uY,ui];ext;exact⟨rfl,rfl⟩
    ext;refine (ht (ha qa rfl) (hb qb rfl) qR qQ yF).imp ?_;rintro xr _ ⟨qU,rfl⟩;ext;have h3:=h2.pre (ua S3 [.lst [ya,yb]]);refine (zeG h3 hl qU).imp ?_;rintro _ S4 ⟨i,fs',rfl,e1,ad,g⟩;exact .inr ⟨qa,qb,i,fs',rfl,rfl,rfl,e1,ad,((yy.of_pre h (p2.trans (ua _ _))).trans g).more ⋯⟩
end
section
variable {fu:Nat} {S S' S2:Sto} {x y z:Xv} {sn fn dn:Nat} {fs fs':List zC} {ss:List Nat} {bs:List (Str×Nat)} {st:List Nat}
structure Tb (S:Sto):Prop where
 t1:S[1]? =f7 (.tab TZ.t)
 t2:S[2]? =f7 (.tab zaa.t)
 t3:S[3]? =f7 (.tab VL.t)
 t4:S[4]? =f7 (.tab zab.t)
 t5:S[5]? =f7 (.tab zac.t)
theorem Tb.keep {w:Nat->Prop} (h:Tb S) (k:Kp w S S') (hw:∀i,1<=i->i<=5->¬w i):Tb S':=⟨k.2 _ _ h.t1 (hw 1 ⋯ ⋯),k.2 _ _ h.t2 (hw 2 ⋯ ⋯),k.2 _ _ h.t3 (hw 3 ⋯ ⋯),k.2 _ _ h.t4 (hw 4 ⋯ ⋯),k.2 _ _ h.t5 (hw 5 ⋯ ⋯)⟩
theorem Tb.pre (h:Tb S) (p:S<+:S'):Tb S':=h.keep (Kp.pre (w:=λ_=>False) p) λ_ _ _ z=>z
theorem Tb.at_ (h:Tb S) {i:Nat} (h1:1<=i) (h5:i<=5):∃t,S[i]? =f7 (.tab t):=by
 obtain rfl|rfl|rfl|rfl|rfl:i=1\/i=2\/i=3\/i=4\/i=5:=by omega
 .exact⟨_,h.t1⟩
 .exact⟨_,h.t2⟩
 .exact⟨_,h.t3⟩
 .exact⟨_,h.t4⟩
 .exact⟨_,h.t5⟩
theorem Tb.ne (h:Tb S) {n:Nat} {c:Ce} (e:S[n]? =f7 c) (hc:∀t,c≠ .tab t) {i:Nat} (h1:1<=i) (h5:i<=5):i≠n:=λz=>by
 obtain⟨t,et⟩:=h.at_ h1 h5;rw[z,e] at et;exact hc t (uK et)
theorem Tb.grown {m:Nat} {bx:Xv} (h:Tb S) (s:yG sn fn dn bx fs S) (g:yy sn fn dn bx fs m S fs' S'):Tb S':=by
 obtain⟨xs,_,e1,e2⟩:=s.fd';exact h.keep g.kp λi h1 h5 z=>z.elim (h.ne e1 (λt=>by simp) h1 h5) (h.ne e2 (λt=>zlq) h1 h5)
theorem zqS {m:Nat} {P:Xv->Sto->Prop} (h:S[m]? =f7 (.lst [x,y])) (k:P x S):WO (Yk (.ref m) (.int 0) S) P:=xU (zG h) rfl k
theorem zqT {m:Nat} {P:Xv->Sto->Prop} (h:S[m]? =f7 (.lst [x,y])) (k:P y S):WO (Yk (.ref m) (.int 1) S) P:=xU (zG h) rfl k
def Wh (q:Q2):Prop:=q.2=1/\Sm q.1
noncomputable def adQ (a b:Q2):Q2:=(a.1+b.1,1)
theorem znk (ez:Big fu):zlK fu Wh (.lam VL []) adQ:=⟨VL,[],zdv fu,rfl,TR,λ{S m a b x y} ha hb hx hy e=>by
 obtain⟨a1,a2⟩:=a;obtain⟨b1,b2⟩:=b;obtain⟨rfl,sD⟩:=(show a2=1/\Sm a1 from ha);obtain⟨rfl,i9⟩:=(show b2=1/\Sm b1 from hb);unfold zdv;refine TU rfl rfl ?_;unfold zqo;dsimp only[uY,AO,B6,Bt];ext;refine zqS e ?_;ext;refine zqT e ?_;ext;refine (znj ez sD i9 hx hy).imp ?_;rintro _ _ ⟨rfl,rfl⟩
 exact⟨zqy _,rfl⟩⟩
noncomputable def adF:List Q2->Q2
 |[a,b]=>adQ a b
 |_=>(0,1)
def adG:List Q2->Prop
 |[a,b]=>Wh a/\Wh b
 |_=>False
theorem znl (ez:Big fu) {bl:List Xv} (hz:∃st,yt ss st):zin fu sn fn dn bl ss adG adF (.lam zab [.ref sn,.lam VL []]):=⟨zab,[.ref sn,.lam VL []],zdw fu,rfl,TR,λ{S fs as} h w ex h1 kc va hf=>by
 obtain⟨kE,gY⟩:=hz;obtain⟨kH,v0⟩:=VaL.ex w gY ex;have g0:=va kE gY kH v0;obtain⟨a,b,rfl⟩:∃a b,as=[a,b]:=by
  have hl:=v0.1
  match kH,g0 with
  |[_,_],_=>
   match as,hl with
   |[a,b],_=>exact⟨a,b,rfl⟩
 obtain⟨fa,ea⟩:=ex a (by simp);obtain⟨fb,eb⟩:=ex b (by simp)
 have two:∀{st:List Nat} {qa qb:Q2} {ha hb:Nat},VA fs st qa ha a->VA fs st qb hb b->VaL fs st [a,b] [qa,qb]:=λ{st qa qb ha hb} u v=>⟨rfl,λi c q e1 e2=>by
  match i with
  |0=>simp at e1 e2;subst e1 e2;exact⟨_,u⟩
  |1=>simp at e1 e2;subst e1 e2;exact⟨_,v⟩
  |i+2=>simp at e1⟩
 obtain⟨t8,q8⟩:=w.val' gY ea;obtain⟨t7,q5⟩:=w.val' gY eb;unfold zdw;refine TU rfl rfl ?_;unfold zqq;dsimp only[uY,AO,B6,Bt];refine ye ?_;ext;refine⟨_,_,rfl,h.o,rfl,?_⟩;ext;refine (zlL ⋯ h ea eb (znk ez) (λq e=> ?_) (λq e=> ?_)).imp ?_
 .subst e;exact (va kE gY _ (two (.leaf (h:=0) ea) q5)).1
 .subst e;exact (va kE gY _ (two q8 (.leaf (h:=0) eb))).2
 rintro v S1 (⟨rfl,hF,p⟩|⟨qa,qb,i,d3,rfl,rfl,rfl,e1,ad,g⟩)
 .refine .inl ⟨rfl,?_,p⟩;rw[BD] at hF;rcases hF with hF|hF
  .exact⟨a,by simp,fa,ea,hF⟩
  .exact⟨b,by simp,fb,eb,hF⟩
 .refine .inr ⟨i,d3,rfl,⟨ex.mono g.pre,⟨_,e1,λl hl=>(show l<=ss.length from hl a (by simp) (.leaf qa) (xn g.pre ea))⟩,λst hs qs v=> ?_⟩,w.leaf g.st.nd ad,g⟩
  match qs,v with
  |[pa,pb],v=>
   obtain⟨_,u1⟩:=v.2 0 a pa rfl rfl;obtain⟨_,u2⟩:=v.2 1 b pb rfl rfl;have q1:=u1.uniq (.leaf (h:=0) (xn g.pre ea));have q2:=u2.uniq (.leaf (h:=0) (xn g.pre eb));subst q1 q2;exact⟨0,.leaf e1⟩
  |[],v=>have:=v.1;simp at this
  |[_],v=>have:=v.1;simp at this
  |_::_::_::_,v=>have:=v.1;simp at this⟩
structure TF (ss:List Nat) (fs:List zC) (f:List Nat->Int) (i:Nat):Prop where
 ex:∃g,fs[i]? =f7 g
 va:∀st,yt ss st->∃h,VA fs st (f st,1) h i
theorem TF.mono {f:List Nat->Int} {i:Nat} (h:TF ss fs f i) (p:fs<+:fs'):TF ss fs' f i:=⟨(let ⟨g,e⟩:=h.ex;⟨g,xn p e⟩),λst hs=>by
 obtain⟨k,v⟩:=h.va st hs
 exact⟨k,v.mono p⟩⟩
theorem TF.uq {f:List Nat->Int} {i h:Nat} {q:Q2} (t:TF ss fs f i) (hs:yt ss st) (v:VA fs st q h i):q=(f st,1):=by
 obtain⟨_,u⟩:=t.va st hs;exact v.uniq u
noncomputable abbrev TFP (ss:List Nat) (f:List Nat->Int) (sn fn dn:Nat) (bl:List Xv) (c:Nat) (fs:List zC) (S:Sto):Xv->Sto->Prop:=λv S'=>∃(r:Nat) (fs':List zC),v= .int (r:Int)/\TF ss fs' f r/\WF ss fs'/\yy sn fn dn (.tup bl) fs c S fs' S'
theorem zju (ez:Big fu) {bl:List Xv} (cb:Bx9 ss bl) (hz:∃st,yt ss st) (h:yG sn fn dn (.tup bl) fs S) (w:WF ss fs) (ht:Tb S) {a b:Nat} {f g:List Nat->Int} (ha:TF ss fs f a) (hb:TF ss fs g b) (hf:∀st,yt ss st->Sm (f st)) (hg:∀st,yt ss st->Sm (g st)) (hl:fs.length+cst ss ss.length<=1000000) (hc:cst ss ss.length<=1000000):
  W (YB fu [.ref sn,.int (a:Int),.int (b:Int)] S) (TFP ss (λst=>f st+g st) sn fn dn bl (cst ss ss.length) fs S):=by
 walk_at "wr";unfold YA;refine yk (XX ?_);ext;refine⟨_,_,rfl,h.o,rfl,?_⟩;refine zg (Xo ?_);ext;refine zb9 ht.t3 rfl ?_;ext;walk_at "wr";unfold wH;refine yk (XX ?_);ext;refine⟨_,_,rfl,h.o,rfl,?_⟩;refine zg (zj rfl (zg (zb9 ht.t4 rfl ?_)));ext;refine (zdD (as:=[a,b]) cb (znl ez hz) h w (λc hc=> ?_) (by simp) (by simp) (λst hs qs v=> ?_) hl hc).imp ?_
 .rw[uy,uH] at hc;rcases hc with rfl|rfl
  .exact ha.ex
  .exact hb.ex
 .match qs,v with
  |[pa,pb],v=>
   obtain⟨_,u1⟩:=v.2 0 a pa rfl rfl;obtain⟨_,u2⟩:=v.2 1 b pb rfl rfl;rw[ha.uq hs u1,hb.uq hs u2];exact⟨⟨rfl,hf st hs⟩,⟨rfl,hg st hs⟩⟩
  |[],v=>have:=v.1;simp at this
  |[_],v=>have:=v.1;simp at this
  |_::_::_::_,v=>have:=v.1;simp at this
 rintro _ S2 ⟨r,bC,rfl,gd,w2,g2⟩;obtain⟨fr,er,_⟩:=gd.lv;refine⟨r,bC,rfl,⟨⟨fr,er⟩,λst hs=> ?_⟩,w2,g2⟩;obtain⟨h1,u1⟩:=(ha.mono g2.pre).va st hs;obtain⟨h2,u2⟩:=(hb.mono g2.pre).va st hs
 exact gd.va st hs [(f st,1),(g st,1)] ⟨rfl,λi c q e1 e2=>by
  match i with
  |0=>simp at e1 e2;subst e1 e2;exact⟨_,u1⟩
  |1=>simp at e1 e2;subst e1 e2;exact⟨_,u2⟩
  |i+2=>simp at e1⟩
theorem zbp (o:Opd):wn (opX o)=ia:=by cases o<;>rfl
theorem zeQ {o:Opd} {k:Nat} {b:Str×Nat} {us:List Xv} (e:bs[k]? =f7 b) (hm:opX o∈us) (h:o= .nam b.1):Rel bs us k:=by
 refine⟨b,e,?_⟩;rw[B1];refine⟨opX o,hm,?_⟩;rw[h];simp[opX,zeb]
theorem znm (h9:bs.length<=9) (h1:∀b∈bs,1<=b.2/\b.2<=9) {o:Opd} (ho:zaK bs o) (h:yG sn fn dn (.tup (bsX bs)) fs S) (w:WF (bs.map (·.2)) fs) (ht:Tb S) (hf:fs.length+cst (bs.map (·.2)) (bs.map (·.2)).length<=1000000):
  W (XA fu [.ref sn,opX o] S) (TFP (bs.map (·.2)) (λst=>wv bs st o) sn fn dn (bsX bs) (cst (bs.map (·.2)) (bs.map (·.2)).length) fs S):=by
 walk_at "wr";unfold Xz;refine yk (XX ?_);ext;refine⟨_,_,rfl,h.o,rfl,?_⟩;refine zg (Xo ?_);ext;refine zb9 ht.t2 rfl ?_;ext
 have ru:RuM fu sn fn dn bs [opX o] (λst=>(wv bs st o,1)) (.lam zaa [.ref sn,opX o]):=⟨⟨zaa,[.ref sn,opX o],zdz fu,rfl,(zif ∅).trans TR,λ{S fs ns} h fw=>by
  unfold zdz;refine TU rfl rfl ?_;unfold zqw;dsimp only[uY,AO,B6,Bt];refine Xo (zg (yl (zg (yM ?_))));ext;refine⟨_,_,_,rfl,h.o,rfl,?_⟩;ext;refine (zbn h9 (by rw[fw.1,uw]) ho).imp ?_;rintro _ S2 ⟨rfl,p⟩;ext
  exact⟨rfl,p⟩⟩,λst st' _ _ hd=>by
   show (wv bs st o,(1:Int))=(wv bs st' o,1)
   rw[zeN ho λk b e q=>hd k (zeQ e (by simp) q)],by simp[zbp],by simp⟩
 refine (ziv h9 h1 ru h w hf).imp ?_;rintro _ S2 ⟨i,bC,rfl,e1,mk,w2,g⟩;exact⟨i,bC,rfl,⟨e1,mk⟩,w2,g⟩
inductive Rk where
 |one (a:Opd)
 |two (sg:Nat) (a b:Opd)
noncomputable def rsS:Nat->Str
 |0=>"+"
 |1=>"-"
 |_=>"*"
noncomputable def rkL:Rk->List Xv
 | .one a=>[opX a]
 | .two sg a b=>[opX a,.str (rsS sg),opX b]
noncomputable def rkX (r:Rk):Xv:= .tup (rkL r)
noncomputable def rv (bs:List (Str×Nat)) (st:List Nat):Rk->Int
 | .one a=>wv bs st a
 | .two 0 a b=>wv bs st a+wv bs st b
 | .two 1 a b=>wv bs st a-wv bs st b
 | .two _ a b=>wv bs st a*wv bs st b
def zjv (bs:List (Str×Nat)):Rk->Prop
 | .one a=>zaK bs a
 | .two sg a b=>sg<3/\zaK bs a/\zaK bs b
theorem zdF {o:Opd} (ho:zaK bs o) (hs:yt (bs.map (·.2)) st) (h1:∀b∈bs,1<=b.2/\b.2<=9):(wv bs st o).natAbs<=1000000000:=by
 cases o with
 |num i=>exact ho
 |nam z=>
  obtain⟨k,hk⟩:=ho;obtain⟨b,eb,_⟩:=zeM hk;obtain⟨v,ev,hv⟩:=hs.get (zcu eb);have:=h1 b (ud eb);show (((st.getD ((fIx bs z).getD 0) 0:Nat):Int)).natAbs<=1000000000;rw[hk,z6,uG,ev,z6];omega
theorem zlM (r:Rk):(rkL r).all wn=ia:=by
 cases r with
 |one a=>show (wn (opX a)&&ia)=ia;rw[zbp];rfl
 |two sg a b=>show (wn (opX a)&&(ia&&(wn (opX b)&&ia)))=ia;rw[zbp,zbp];rfl
theorem zpi {r:Rk} (hr:zjv bs r) {st':List Nat} (h:∀k,Rel bs (rkL r) k->st[k]? =st'[k]?):rv bs st r=rv bs st' r:=by
 cases r with
 |one a=>exact zeN hr λk b e q=>h k (zeQ e (by simp[rkL]) q)
 |two sg a b=>
  obtain⟨_,ha,hb⟩:=hr;have e1:=zeN (st:=st) (st':=st') ha λk c e q=>h k (zeQ e (by simp[rkL]) q);have e2:=zeN (st:=st) (st':=st') hb λk c e q=>h k (zeQ e (by simp[rkL]) q)
  match sg with
  |0=>show wv bs st a+wv bs st b=wv bs st' a+wv bs st' b;rw[e1,e2]
  |1=>show wv bs st a-wv bs st b=wv bs st' a-wv bs st' b;rw[e1,e2]
  |_+2=>show wv bs st a*wv bs st b=wv bs st' a*wv bs st' b;rw[e1,e2]
theorem zeR {r:Rk} (h9:bs.length<=9) (hs:yt (bs.map (·.2)) st) (h1:∀b∈bs,1<=b.2/\b.2<=9) (hr:zjv bs r):W (VQ fu [.tup (bsX bs),.tup (ksX st),rkX r] S) λv S'=>v= .int (rv bs st r)/\S<+:S':=by
 have hl:st.length=bs.length:=by rw[hs.1,uw]
 walk_at "wr";unfold VP;cases r with
 |one a=>
  unfold rkX rkL;ext;refine (zbn h9 hl hr).imp ?_;rintro _ S2 ⟨rfl,p⟩
  try dsimp only[ui]
  refine zh (zF ?_);ext;refine xF ?_;ext;refine⟨λ_=> ?_,λz=>by simp at z⟩;ext;exact⟨rfl,p⟩
 |two sg a b=>
  obtain⟨kQ,ha,hb⟩:=hr;have b1:=zdF ha hs h1;have b2:=zdF hb hs h1;unfold rkX rkL;ext;refine (zbn h9 hl ha).imp ?_;rintro _ S2 ⟨rfl,p⟩
  try dsimp only[ui]
  refine zh (zF ?_);ext;refine xF ?_;ext;refine⟨λz=>by simp at z,λ_=>zo ?_⟩;refine zh (yd (yl (zg (zj rfl (zg (zj rfl (zg ?_)))))));ext;refine yh rfl (show atI [opX a,Xv.str (rsS sg),opX b] 2=f7 (opX b) from rfl) ?_;ext;refine (zbn h9 hl hb).imp ?_;rintro _ S3 ⟨rfl,p3⟩
  try dsimp only[ui]
  refine zh (zF ?_);ext
  match sg,kQ with
  |0,_=>
   refine zI ⟨_,rfl,λ_=> ?_,λz=>absurd z ∅⟩;ext;exact⟨rfl,p.trans p3⟩
  |1,_=>
   refine zI ⟨_,rfl,λz=>absurd z ∅,λ_=>zo ?_⟩;refine zh (zF ?_);ext;refine zI ⟨_,rfl,λ_=> ?_,λz=>absurd z ∅⟩;ext;exact⟨rfl,p.trans p3⟩
  |2,_=>
   refine zI ⟨_,rfl,λz=>absurd z ∅,λ_=>zo ?_⟩;refine zh (zF ?_);ext;refine zI ⟨_,rfl,λz=>absurd z ∅,λ_=>zo ?_⟩;ext;have l1:intBits (wv bs st a)<=60:=z3.mpr (uP b1 ∅);have l2:intBits (wv bs st b)<=60:=z3.mpr (uP b2 ∅);refine Up ⋯ ?_;exact⟨rfl,p.trans p3⟩
theorem zlN {tw:TwF} {ms:List TwE} {ρ:Rho} {P:Xv->Sto->Prop} (h:W (evL ms ρ S) λds S1=>W (tw ds S1) P):W (zgU tw ms ρ S) P:=W.bind (h.imp λds S1 h=>by
 obtain⟨v,S2,e,k⟩:=h;rw[e]
 exact .of rfl k)
noncomputable def stp (lv s:Nat) (v:Int) (st:List Nat):List Nat:=st.set lv (v % (s:Int)).toNat
theorem zlO (cb:Bx9 ss (bsX bs)) {lv s a:Nat} {f:List Nat->Int} (es:ss[lv]? =f7 s) (hb:(bsX bs)[lv]? =f7 (.tup [x,.int (s:Int)])) (h:yG sn fn dn (.tup (bsX bs)) fs S) (w:WF ss fs) (ha:TF ss fs f a) (hc:cst ss ss.length<=400) (hf:fs.length<=900000) (iP:s<=9):
  W (ZE fu [.ref sn,.int (lv:Int),.int (a:Int)] S) λv S'=>∃(rs:List Nat) (fs':List zC),v= .tup (ksX rs)/\rs.length=s/\(∀(m r:Nat),rs[m]? =f7 r->TF ss fs' (λst=>f (st.set lv m)) r)/\WF ss fs'/\yy sn fn dn (.tup (bsX bs)) fs 4000 S fs' S':=by
 generalize mw:cst ss ss.length=c at hc;walk_at "wr";unfold ZD;refine yk (xX (zg (xp (wU (ym (ym (yM ?_)))))));ext;refine⟨_,_,_,rfl,h.o,rfl,?_⟩;ext;refine yh (l:=bsX bs) rfl (yJ hb) ?_;ext;refine⟨⟨⋯,⋯⟩,_,rfl,?_⟩;rw[uM];refine yQ (xs:=xL 0 s) (by rw[zY];exact vp ⋯) (λi es S2=>∃(rs:List Nat) (bC:List zC),es=ksX rs/\rs.length=i/\(∀(m r:Nat),rs[m]? =f7 r->TF ss bC (λst=>f (st.set lv m)) r)/\WF ss bC/\yy sn fn dn (.tup (bsX bs)) fs (i*c) S bC S2) (λ_ _ _ _ _=>rfl) ?_ ⟨[],fs,rfl,rfl,(λm r e=>by simp at e),w,h.grown.more ⋯⟩ ?_
 .rintro i w0 fT S2 hw _ ⟨rs,bC,rfl,gG,gZ,w2,g2⟩;obtain⟨hi,rfl⟩:=xk hw;rw[y9];have o7:i*c<=8*c:=v5 _ ⋯;have f2:=g2.len;obtain⟨fa,ea⟩:=(ha.mono g2.pre).ex;refine .of rfl ?_;dsimp only[xM,uY,ui];ext;refine⟨rfl,ye ?_⟩;ext;refine⟨_,_,rfl,g2.st.o,rfl,?_⟩;ext;refine (znd cb es hi g2.st w2 ea ⋯).imp ?_;rintro _ S3 ⟨r,cZ,rfl,fx,w3,g3⟩;rw[mw] at g3;obtain⟨_,fr,_,er,_⟩:=fx.le;refine⟨rs++[r],cZ,by rw[WP],by simp[gG],λm r' e=> ?_,w3,(g2.trans g3).more (by rw[Ad];exact ug _)⟩;rcases x5 m rs.length with h'|h'|h'
  .rw[uc h'] at e;exact (gZ m r' e).mono g3.pre
  .subst h';rw[ur (ug _),A2] at e;cases e;refine⟨⟨fr,er⟩,λst hs=> ?_⟩;rw[gG];obtain⟨hh,v⟩:=((ha.mono g2.pre).mono g3.pre).va (st.set lv i) (hs.set es hi);exact fx.va st hs _ _ v
  .rw[uA (by simp;omega)] at e;cases e
 .rintro fT S2 _ ⟨rs,bC,rfl,gG,gZ,w2,g2⟩;rw[zY] at gG g2;have tF:s*c<=9*c:=v5 _ ⋯;ext;refine Wb yF ?_;exact⟨rs,bC,rfl,gG,gZ,w2,(g2.app (ua _ _)).more ⋯⟩
theorem zlP (cb:Bx9 ss (bsX bs)) (hz:∃st,yt ss st) {n s lv:Nat} {rs:List Nat} {f g:List Nat->Int} (h:yG sn fn dn (.tup (bsX bs)) fs S) (w:WF ss fs) (ht:Tb S) (hn:TF ss fs g n) (hg:∀st,yt ss st->0<=g st/\g st<s) (iP:s<=9) (gG:rs.length=s) (gZ:∀(m r:Nat),rs[m]? =f7 r->TF ss fs (λst=>f (st.set lv m)) r) (hc:cst ss ss.length<=400) (hf:fs.length<=900000):
  W (vo fu [.ref sn,.int (n:Int),.tup (ksX rs)] S) (TFP ss (λst=>f (st.set lv (g st).toNat)) sn fn dn (bsX bs) 400 fs S):=by
 walk_at "wr";unfold vn;refine yk (XX ?_);ext;refine⟨_,_,rfl,h.o,rfl,?_⟩;refine zg (ym (Xo (zg (zj rfl (yI (zj rfl ?_))))));refine WQ (by rw[xf];simp only[ux,A9];omega) ?_;rw[show [Xv.int (n:Int)]++ksX rs=ksX (n::rs) from rfl];refine zg (zb9 ht.t5 rfl ?_);ext;have ex:ExL fs (n::rs):=λa ha=>by
  rcases uy.1 ha with rfl|ha
  .exact hn.ex
  .obtain⟨m,e⟩:=z5 ha;exact (gZ m a e).ex
 have vals:∀{bC:List zC},fs<+:bC->∀st,yt ss st->∀qs,VaL bC st (n::rs) qs->∃qr:List Q2,qs=(g st,1)::qr/\qr.length=s/\∀(m:Nat) q,qr[m]? =f7 q->q=(f (st.set lv m),1):=λ{bC} p st hs qs v=>by
  cases qs with
  |nil=>have:=v.1;simp at this
  |cons q qr=>
   obtain⟨_,u⟩:=v.2 0 n q rfl rfl;rw[(hn.mono p).uq hs u];have hl:qr.length=s:=by have:=v.1;simp at this;omega
   refine⟨qr,rfl,hl,λm q' e=> ?_⟩;have hm:=(u9.1 e).1;have er:rs[m]? =f7 rs[m]:=u6 ⋯;obtain⟨_,u'⟩:=v.2 (m+1) rs[m] q' (by simpa using er) (by simpa using e);exact ((gZ m _ er).mono p).uq hs u'
 refine (zdD (as:=n::rs) cb (zhv hz) h w ex (by simp) (by simp;omega) (λst hs qs v=> ?_) ⋯ ⋯).imp ?_
 .obtain⟨qr,rfl,hl,_⟩:=vals (uU _) st hs qs v;have:=hg st hs;exact⟨this.1,by show (g st).toNat<qr.length;omega⟩
 rintro _ S2 ⟨r,bC,rfl,gd,w2,g2⟩;obtain⟨fr,er,_⟩:=gd.lv;refine⟨r,bC,rfl,⟨⟨fr,er⟩,λst hs=> ?_⟩,w2,g2.more ⋯⟩;obtain⟨qs,v⟩:=VaL.ex w2 hs gd.ex;obtain⟨h',u⟩:=gd.va st hs qs v;obtain⟨qr,rfl,hl,hq⟩:=vals g2.pre st hs qs v;refine⟨h',?_⟩;have tN:=hg st hs;have eq:qr[(g st).toNat]? =f7 qr[(g st).toNat]:=u6 ⋯;have:chQ ((g st,1)::qr)=(f (st.set lv (g st).toNat),1):=by
  show qr.getD (g st).toNat (0,1)=_;rw[uG,eq,z6];exact hq _ _ eq
 rw[this] at u;exact u
theorem zjw (h9:bs.length<=9) (h1:∀b∈bs,1<=b.2/\b.2<=9) (hz:∃st,yt (bs.map (·.2)) st) {nm:Str} {lv a:Nat} {b:Str×Nat} {r:Rk} {f:List Nat->Int} (kq:fIx bs nm=f7 lv) (eb:bs[lv]? =f7 b) (hr:zjv bs r) (h:yG sn fn dn (.tup (bsX bs)) fs S) (w:WF (bs.map (·.2)) fs) (ht:Tb S) (ha:TF (bs.map (·.2)) fs f a) (hc:cst (bs.map (·.2)) (bs.map (·.2)).length<=400) (hf:fs.length<=850000):
  W (VY fu [.ref sn,.str nm,rkX r,.int (a:Int)] S) (TFP (bs.map (·.2)) (λst=>f (stp lv b.2 (rv bs st r) st)) sn fn dn (bsX bs) 5000 fs S):=by
 have cb:=ziq h1 h9;have hsz:=h1 b (ud eb);have es:=zcu eb;walk_at "wr";unfold VX;refine zh (yd (yl (zg (yM ?_))));ext;refine⟨_,_,_,rfl,h.o,rfl,?_⟩;ext;refine (zit h9 kq).imp ?_;rintro _ S1 ⟨rfl,p1⟩
 try dsimp only[ui]
 have lP:=h.pre p1;refine zh (yd (ym (ym (yM ?_))));ext;refine⟨_,_,_,rfl,lP.o,rfl,?_⟩;ext;refine yh (l:=bsX bs) rfl (yJ (XN eb)) ?_;ext;refine XX ?_;ext;refine⟨_,_,rfl,lP.o,rfl,?_⟩;refine zg (zj rfl (zg (zb9 (ht.pre p1).t1 rfl ?_)));ext
 have ru:RuM fu sn fn dn bs (rkL r) (λst=>(rv bs st r % (b.2:Int),1)) (.lam TZ [.ref sn,rkX r,.int (b.2:Int)]):=⟨⟨TZ,[.ref sn,rkX r,.int (b.2:Int)],zdy fu,rfl,TR,λ{S fs ns} h fw=>by
  unfold zdy;refine TU rfl rfl ?_;unfold zqu;dsimp only[uY,AO,B6,Bt];refine Xo (zg (ym (yl (zg (yM ?_)))));ext;refine⟨_,_,_,rfl,h.o,rfl,?_⟩;ext;refine (zeR h9 fw h1 hr).imp ?_;rintro _ S2 ⟨rfl,p⟩;ext;refine Yo ⋯ ?_;ext
  exact⟨rfl,p⟩⟩,λst st' _ _ hd=>by
   show (rv bs st r % (b.2:Int),(1:Int))=(rv bs st' r % (b.2:Int),1)
   rw[zpi hr hd],zlM r,by cases r<;>simp[rkL]⟩
 refine (ziv h9 h1 ru lP w ⋯).imp ?_;rintro _ S2 ⟨n,bC,rfl,e1,mk,w2,g2⟩
 try dsimp only[ui]
 have q2:=g2.len;refine yk (XX ?_);ext;refine⟨_,_,rfl,g2.st.o,rfl,?_⟩;refine zg (zj rfl (zg (zlN (zg (zj rfl (zg (zj rfl (zg (zj rfl (yI ?_))))))))));refine (zlO cb es (XN eb) g2.st w2 (ha.mono g2.pre) hc ⋯ hsz.2).imp ?_;rintro _ S3 ⟨rs,cZ,rfl,gG,gZ,w3,g3⟩;ext;have q3:=g3.len;have mJ:=((ht.pre p1).grown lP g2).grown g2.st g3;have hn:TF (bs.map (·.2)) cZ (λst=>rv bs st r % (b.2:Int)) n:=TF.mono ⟨e1,mk⟩ g3.pre;refine (zlP cb hz g3.st w3 mJ hn (λst hs=>⟨y6 _ ⋯,z4 _ ⋯⟩) hsz.2 gG gZ hc ⋯).imp ?_;rintro _ S4 ⟨r4,gL,rfl,t4,w4,g4⟩;exact⟨r4,gL,rfl,t4,w4,(((yy.of_pre h p1).trans g2).trans (g3.trans g4)).more ⋯⟩
inductive Dd where
 |set (lv:Nat) (b:Str×Nat) (r:Rk)
 |gain (o:Opd)
 |pass
noncomputable def ddX:Dd->Xv
 | .set _ b r=> .tup [.str "set",.str b.1,rkX r]
 | .gain o=> .tup [.str "gain",opX o]
 | .pass=> .tup [.str "pass"]
def zbb (bs:List (Str×Nat)):Dd->Prop
 | .set lv b r=>fIx bs b.1=f7 lv/\bs[lv]? =f7 b/\zjv bs r
 | .gain o=>zaK bs o
 | .pass=>True
noncomputable def ddG (bs:List (Str×Nat)) (ct:Bool) (st:List Nat):Dd->Int
 | .gain o=>if ct then wv bs st o else 0
 |_=>0
noncomputable def ddS (bs:List (Str×Nat)) (st:List Nat):Dd->List Nat
 | .set lv b r=>stp lv b.2 (rv bs st r) st
 |_=>st
noncomputable def vS (bs:List (Str×Nat)) (ct:Bool) (f:List Nat->Int):List Dd->List Nat->Int
 |[],st=>f st
 |d::r,st=>ddG bs ct st d+vS bs ct f r (ddS bs st d)
theorem zlQ {d:Dd} (hd:zbb bs d) (h1:∀b∈bs,1<=b.2/\b.2<=9) (hs:yt (bs.map (·.2)) st):yt (bs.map (·.2)) (ddS bs st d):=by
 cases d with
 |set lv b r=>
  obtain⟨_,eb,_⟩:=hd;have:=h1 b (ud eb);have h0:=y6 (rv bs st r) (show (b.2:Int)≠0 by omega);have h2:=z4 (rv bs st r) (show (0:Int)<(b.2:Int) by omega);exact hs.set (zcu eb) ⋯
 |gain o=>exact hs
 |pass=>exact hs
theorem zhB (ez:Big fu) (h9:bs.length<=9) (h1:∀b∈bs,1<=b.2/\b.2<=9) (hz:∃st,yt (bs.map (·.2)) st) {a N:Nat} {d:Dd} {ct:Bool} {f:List Nat->Int} (hd:zbb bs d) (h:yG sn fn dn (.tup (bsX bs)) fs S) (w:WF (bs.map (·.2)) fs) (ht:Tb S) (ha:TF (bs.map (·.2)) fs f a) (jL:∀st,yt (bs.map (·.2)) st->Sm (f st)) (hc:cst (bs.map (·.2)) (bs.map (·.2)).length<=400) (hf:fs.length<=850000):
  W (yO fu (N+1) [.ref sn,ddX d,.int (a:Int),.bl ct] S) (TFP (bs.map (·.2)) (λst=>ddG bs ct st d+f (ddS bs st d)) sn fn dn (bsX bs) 5000 fs S):=by
 have cb:=ziq h1 h9;rw[Xe];walk_at "wr";unfold ZX;cases d with
 |set lv b r=>
  obtain⟨kq,eb,hr⟩:=hd;unfold ddX;refine zh (zF ?_);ext;refine zI ⟨_,rfl,λ_=> ?_,λz=>absurd z ∅⟩;ext;refine yh rfl (show atI [Xv.str "set",.str b.1,rkX r] 2=f7 (rkX r) from rfl) ?_;ext;refine (zjw h9 h1 hz kq eb hr h w ht ha hc hf).imp ?_;rintro _ S2 ⟨i,bC,rfl,t2,w2,g2⟩;exact⟨i,bC,rfl,⟨t2.ex,λst hs=>by have:=t2.va st hs;rw[show ddG bs ct st (.set lv b r)+f (ddS bs st (.set lv b r))=f (stp lv b.2 (rv bs st r) st) from y9 _];exact this⟩,w2,g2⟩
 |gain o=>
  unfold ddX;refine zh (zF ?_);ext;refine zI ⟨_,rfl,λz=>absurd z ∅,λ_=>zo ?_⟩;refine zh (zF ?_);ext;refine zI ⟨_,rfl,λz=>absurd z ∅,λ_=>zo ?_⟩;refine zh (zF (UP ?_));ext;refine zI ⟨_,rfl,λ_=> ?_,λz=>absurd z ∅⟩;ext;cases ct with
  |true=>
   refine⟨λ_=> ?_,nofun⟩;refine yk (ye ?_);ext;refine⟨_,_,rfl,h.o,rfl,?_⟩;refine zg (zj rfl (zg (yl (zg (zj rfl (zg ?_))))));ext;refine (znm h9 h1 hd h w ht ⋯).imp ?_;rintro _ S2 ⟨n,bC,rfl,t2,w2,g2⟩;have q2:=g2.len;ext;refine (zju ez cb hz g2.st w2 (ht.grown h g2) (ha.mono g2.pre) t2 jL (λst hs=>uP (zdF hd hs h1) ∅) ⋯ ⋯).imp ?_;rintro _ S3 ⟨i,cZ,rfl,t3,w3,g3⟩;refine⟨i,cZ,rfl,⟨t3.ex,λst hs=> ?_⟩,w3,(g2.trans g3).more ⋯⟩;have:=t3.va st hs;rw[show ddG bs ia st (.gain o)+f (ddS bs st (.gain o))=f st+wv bs st o from Int.add_comm _ _];exact this
  |false=>
   refine⟨nofun,λ_=>zo ?_⟩;refine zh (zF ?_);ext;refine zI ⟨_,rfl,λz=>absurd z ∅,λ_=>zo ?_⟩;refine zh (zF ?_);ext;refine zI ⟨_,rfl,λz=>absurd z ∅,λ_=>zo ?_⟩;refine zh (zF ?_);ext;refine zI ⟨_,rfl,λz=>absurd z ∅,λ_=>zo ?_⟩;refine zh (zF ?_);ext;refine zI ⟨_,rfl,λz=>absurd z ∅,λ_=>zo ?_⟩;ext;refine⟨a,fs,rfl,⟨ha.ex,λst hs=> ?_⟩,w,h.grown.more ⋯⟩;rw[show ddG bs kb st (.gain o)+f (ddS bs st (.gain o))=f st from y9 _];exact ha.va st hs
 |pass=>
  unfold ddX;refine zh (zF ?_);ext;refine zI ⟨_,rfl,λz=>absurd z ∅,λ_=>zo ?_⟩;refine zh (zF ?_);ext;refine zI ⟨_,rfl,λz=>absurd z ∅,λ_=>zo ?_⟩;refine zh (zF (UP ?_));ext;refine zI ⟨_,rfl,λz=>absurd z ∅,λ_=>⟨nofun,λ_=>zo ?_⟩⟩;refine zh (zF ?_);ext;refine zI ⟨_,rfl,λz=>absurd z ∅,λ_=>zo ?_⟩;refine zh (zF ?_);ext;refine zI ⟨_,rfl,λz=>absurd z ∅,λ_=>zo ?_⟩;refine zh (zF ?_);ext;refine zI ⟨_,rfl,λz=>absurd z ∅,λ_=>zo ?_⟩;refine zh (zF ?_);ext;refine zI ⟨_,rfl,λz=>absurd z ∅,λ_=>zo ?_⟩;ext;refine⟨a,fs,rfl,⟨ha.ex,λst hs=> ?_⟩,w,h.grown.more ⋯⟩;rw[show ddG bs ct st .pass+f (ddS bs st .pass)=f st from y9 _];exact ha.va st hs
theorem zf9 {ct:Bool} {f:List Nat->Int} (h1:∀b∈bs,1<=b.2/\b.2<=9) (hf:∀st,yt (bs.map (·.2)) st->(f st).natAbs<=1):∀{l:List Dd},(∀d∈l,zbb bs d)->∀{st:List Nat},yt (bs.map (·.2)) st->(vS bs ct f l st).natAbs<=1+l.length*1000000000
 |[],_,st,hs=>by have:=hf st hs;show (f st).natAbs<=_;omega
 |d::l,hd,st,hs=>by
  have ih:=zf9 (ct:=ct) h1 hf (l:=l) (λe he=>hd e (uj _ he)) (zlQ (hd d uv) h1 hs);have hg:(ddG bs ct st d).natAbs<=1000000000:=by
   have jz:=hd d uv;cases d with
   |gain o=>
    show (if ct then wv bs st o else 0).natAbs<=_;split
    .exact zdF jz hs h1
    .decide
   |set lv b r=>show (0:Int).natAbs<=1000000000;decide
   |pass=>show (0:Int).natAbs<=1000000000;decide
  show (ddG bs ct st d+vS bs ct f l (ddS bs st d)).natAbs<=_;rw[ux,Ad];omega
noncomputable def dsX (ds:List Dd):List Xv:=ds.map ddX
theorem zga (ez:Big fu) (h9:bs.length<=9) (h1:∀b∈bs,1<=b.2/\b.2<=9) (hz:∃st,yt (bs.map (·.2)) st) {a:Nat} {ds:List Dd} {ct:Bool} {f:List Nat->Int} (fe:∀d∈ds,zbb bs d) (hl:ds.length<=2) (h:yG sn fn dn (.tup (bsX bs)) fs S) (w:WF (bs.map (·.2)) fs) (ht:Tb S) (ha:TF (bs.map (·.2)) fs f a) (jL:∀st,yt (bs.map (·.2)) st->(f st).natAbs<=1) (hc:cst (bs.map (·.2)) (bs.map (·.2)).length<=400) (hf:fs.length<=800000):
  W (yr fu 6 [.ref sn,.tup (dsX ds),.int (a:Int),.bl ct] S) (TFP (bs.map (·.2)) (vS bs ct f ds) sn fn dn (bsX bs) 10000 fs S):=by
 rw[YE];walk_at "wr";unfold Zq;refine zh (vj (zmP (zj rfl ⟨_,rfl,_,rfl,?_⟩)));refine xT (xs:=(dsX ds).reverse) (λi ρ S2=>∃(r:Nat) (bC:List zC) (a4:Option Xv),ρ=[f7 (.ref sn),f7 (.tup (dsX ds)),f7 (.int (r:Int)),f7 (.bl ct),a4]/\TF (bs.map (·.2)) bC (vS bs ct f (ds.drop (ds.length-i))) r/\WF (bs.map (·.2)) bC/\Tb S2/\yy sn fn dn (.tup (bsX bs)) fs (i*5000) S bC S2) (λ_ _ _ _ _=>rfl) ?_ ⟨a,fs,gC,rfl,by rw[D1,C9];exact ha,w,ht,h.grown.more ⋯⟩ ?_
 .rintro i w0 ρ S2 hw ⟨r,bC,a4,rfl,t2,w2,lM,g2⟩;have hi:i<ds.length:=by have:=(u9.1 hw).1;rw[BG] at this;simpa [dsX] using this
  have q2:=g2.len;have ed:ds[ds.length-i-1]? =f7 ds[ds.length-i-1]:=u6 ⋯;rw[Bw (by simpa [dsX] using hi)] at hw;have nB:(dsX ds)[ds.length-i-1]? =f7 w0:=by rw[<-hw];congr 1;simp[dsX];omega
  unfold dsX at nB;rw[uf,ed] at nB;cases nB;have jz:=fe _ (ud ed);have pU:ds.drop (ds.length-(i+1))=ds[ds.length-i-1]::ds.drop (ds.length-i):=by
   rw[show ds.length-(i+1)=ds.length-i-1 by omega,Aj (show ds.length-i-1<ds.length by omega),show ds.length-i-1+1=ds.length-i by omega]
  have si:∀d∈ds.drop (ds.length-i),zbb bs d:=λd hd=>fe d (CK hd);generalize ds[ds.length-i-1]=d at pU jz;refine .of rfl ?_;dsimp only[ui];refine yd (yl (zg (zj rfl (zg (zj rfl (zg (zj rfl (zg (zj rfl (yI ?_))))))))));refine (zhB ez h9 h1 hz (N:=4) jz g2.st w2 lM t2 (λst hs=> ?_) hc ⋯).imp ?_
  .have:=zf9 (ct:=ct) h1 jL si hs;have hJ:(ds.drop (ds.length-i)).length<=2:=by rw[AZ];omega
   have:(vS bs ct f (ds.drop (ds.length-i)) st).natAbs<=1+2*1000000000:=uC this (CP (v5 _ hJ) _);exact uP this ∅
  rintro _ S3 ⟨r3,cZ,rfl,t3,w3,g3⟩;dsimp only[ui];refine⟨r3,cZ,_,rfl,?_,w3,lM.grown g2.st g3,(g2.trans g3).more ⋯⟩;rw[pU];exact t3
 .rintro ρ S2 ⟨r,bC,a4,rfl,t2,w2,_,g2⟩;have e:(dsX ds).reverse.length=ds.length:=by simp[dsX]
  rw[e,A2,Ah] at t2;rw[e] at g2;ext;exact⟨r,bC,rfl,t2,w2,g2.more ⋯⟩
end
section
variable {fu mx:Nat} {S S' S2:Sto} {x y z:Xv} {ln:Nat} {bs:List (Str×Nat)}
theorem zqU {c:Int} (h:c=1\/c=2\/c=3):zfm (.str " +-*") (.int c) S=f7 (.str (rsS (c.toNat-1)),S):=by
 rcases h with rfl|rfl|rfl<;>rfl
theorem zhC {k:Nat} {b:Str×Nat} (eZ:(bs.map (·.1)).Nodup) (e:bs[k]? =f7 b):fIx bs b.1=f7 k:=by
 unfold fIx;rw[Ac];obtain⟨hk,hb⟩:=u9.1 e;refine⟨hk,by rw[hb];exact decide_eq_true rfl,λj hj z=> ?_⟩;have z:=of_decide_eq_true z;have e1:(bs.map (·.1))[j]? =f7 b.1:=by rw[uf,u6 (show j<bs.length by omega)];exact congrArg f7 z
 have e2:(bs.map (·.1))[k]? =f7 b.1:=by rw[uf,e];rfl
 obtain⟨j1,q1⟩:=u9.1 e1;obtain⟨k1,q2⟩:=u9.1 e2;have:=(C3 eZ).1 (q1.trans q2.symm);omega
theorem zpj {nm:Str} (hl:zT mx ln S) (h9:bs.length<=9) (hn:zaK bs (.nam nm)):W (vQ fu [.ref ln,.tup (bsX bs),.str nm] S) λv S'=>∃r:Rk,v=rkX r/\zjv bs r/\zT mx ln S'/\Kp (· =ln) S S':=by
 walk_at "wr";unfold vP;ext;refine (yT hl ∅).imp ?_;rintro _ S1 ⟨c,rfl,c0,c1,l1,k1⟩;ext;refine zF ?_;ext;refine xw (λh=> ?_) (λh5=>zo ?_)
 .ext;refine (yT l1 ∅).imp ?_;rintro _ S2 ⟨d,rfl,d0,d1,l2,k2⟩;ext;exact⟨.two 0 (.nam nm) (.num (1+d)),rfl,⟨∅,hn,by show (1+d).natAbs<=1000000000;omega⟩,l2,k1.trans k2⟩
 .ext;refine (We l1 h9).imp ?_;rintro _ S2 ⟨o1,rfl,h1,l2,k2⟩;ext;refine zF ?_;ext;refine xw (λh=> ?_) (λh4=>zo ?_)
  .ext;exact⟨.two 1 o1 (.nam nm),rfl,⟨∅,h1,hn⟩,l2,k1.trans k2⟩
  .refine zh (zF ?_);ext;refine xw (λh=> ?_) (λh0=>zo ?_)
   .ext;exact⟨.one o1,rfl,h1,l2,k1.trans k2⟩
   .ext;refine WO.of (zqU ⋯) ?_;ext;refine (We l2 h9).imp ?_;rintro _ S3 ⟨o2,rfl,h2,l3,k3⟩;ext;exact⟨.two (c.toNat-1) o1 o2,rfl,⟨⋯,h1,h2⟩,l3,k1.trans (k2.trans k3)⟩
theorem zgb {s:Nat} (hl:zT mx ln S) (iP:1<=s/\s<=9):W (ZH fu [.ref ln,.int (s:Int)] S) λv S'=>zT mx ln S'/\Kp (· =ln) S S':=by
 walk_at "wr";unfold ZG;ext;refine UQ (λρ S1=>∃most:Int,0<most/\ρ=[f7 (.ref ln),f7 (.int (s:Int)),f7 (.int most),gC,gC]/\zT mx ln S1/\Kp (· =ln) S S1) (zF ?_) ?_
 .ext;refine (yT hl ∅).imp ?_;rintro _ S1 ⟨c,rfl,c0,c1,l1,k1⟩;ext;refine xw (λh=> ?_) (λh=>zo ⟨4,∅,rfl,l1,k1⟩);ext;exact⟨_,∅,rfl,l1,k1⟩
 rintro _ S1 ⟨most,m0,rfl,l1,k1⟩;refine zh (yd (xp (wU ?_)));ext;refine⟨⟨⋯,⋯⟩,_,rfl,?_⟩;refine yQ (by rw[zY];exact vp ⋯) (λj es S2=>∃ws:List Int,es=ws.map Xv.int/\zT mx ln S2/\Kp (· =ln) S S2) (λ_ _ _ _ _=>rfl) ?_ ⟨[],rfl,l1,k1⟩ ?_
 .rintro j w es S2 hw gI ⟨ws,rfl,l2,k2⟩;refine .of rfl ?_;dsimp only[xM,uY,ui];ext;refine⟨rfl,?_⟩;ext;refine (yT l2 ⋯).imp ?_;rintro _ S3 ⟨c,rfl,c0,c1,l3,k3⟩;exact⟨ws++[c],by rw[w6];rfl,l3,k2.trans k3⟩
 rintro es S2 hlen ⟨ws,rfl,l2,k2⟩;rw[uw,zY,uM] at hlen;have e2:=yF (S:=S2) (c:=Ce.lst (ws.map Xv.int));have hJ:=l2.lt;ext;refine (yT l2.app ⋯).imp ?_;rintro _ S3 ⟨c,rfl,c0,c1,l3,k3⟩;have e3:=k3.2 _ _ e2 (show ¬S2.length=ln by omega);have qx:Kp (· =ln) S S3:=k2.trans ((Kp.pre (ua _ _)).trans k3);obtain⟨j,rfl⟩:∃j:Nat,c=(j:Int):=⟨c.toNat,⋯⟩;have hj:j<ws.length:=by omega
 have ej:(ws.map Xv.int)[j]? =f7 (.int ws[j]):=by rw[uf,u6 hj];rfl
 refine zh (zbZ ?_);ext;refine xU (zG e3) (UR ⋯ (by rw[uM];exact ej)) ?_;ext;refine⟨_,_,_,j,Zk e3,rfl,zeO (by rw[uw];exact hj),?_⟩;have e4:=wk (c':=Ce.lst ((ws.map Xv.int).set j (.int (if ws[j]>1 then ws[j] else 1)))) e3;refine yk (xX (zg ?_));ext;refine Wb e4 ?_;refine⟨?_,qx.set (.inr k2.1)⟩;obtain⟨ns,h1,h2⟩:=l3;exact⟨ns,xx h1 ⋯,h2⟩
def PlX (v:Xv):Prop:=∃kd rest,v= .tup (.str kd::rest)/\kd≠"if"/\kd≠"while"/\kd≠"times"/\kd≠"hand"
theorem zpk (d:Dd):PlX (ddX d):=by
 cases d with
 |set lv b r=>exact⟨"set",_,rfl,∅,∅,∅,∅⟩
 |gain o=>exact⟨"gain",_,rfl,∅,∅,∅,∅⟩
 |pass=>exact⟨"pass",_,rfl,∅,∅,∅,∅⟩
theorem zcv {kd:Str} (hl:zT mx ln S) (h9:bs.length<=9) (h1:∀b∈bs,1<=b.2/\b.2<=9) (eZ:(bs.map (·.1)).Nodup) (hk:kd≠"look"):W (vR fu [.ref ln,.tup (bsX bs),.str kd] S) λv S'=>((∃d:Dd,v=ddX d/\zbb bs d)\/(kd="draw"\/(kd≠"set"/\kd≠"gain"/\kd≠"pass"))/\PlX v)/\zT mx ln S'/\Kp (· =ln) S S':=by
 walk_at "wr";unfold YG;refine zh (zF ?_);ext;refine zI ⟨_,rfl,λh=> ?_,λhg=>zo ?_⟩
 .ext;refine (We hl h9).imp ?_;rintro _ S1 ⟨o,rfl,ho,l1,k1⟩;ext;exact⟨.inl ⟨.gain o,rfl,ho⟩,l1,k1⟩
 refine zh (zF ?_);ext;refine zI ⟨_,rfl,λh=>absurd (of_decide_eq_true h) hk,λ_=>zo ?_⟩;have ps:∀{N:Rho->Sto->Prop} {ρ:Rho},WS (zO (yz [(eC (.str "pass"))]) ρ S) N λv S'=>((∃d:Dd,v=ddX d/\zbb bs d)\/(kd="draw"\/(kd≠"set"/\kd≠"gain"/\kd≠"pass"))/\PlX v)/\zT mx ln S'/\Kp (· =ln) S S':=by
  intro N ρ;ext;exact⟨.inl ⟨.pass,rfl,trivial⟩,hl,Kp.refl _⟩
 refine zh (zF (zdj ?_));ext;refine xF ?_;rw[wx];ext;refine xw (λh=>⟨λ_=>ps,nofun⟩) (λh0=> ?_);ext;refine zI ⟨_,rfl,λh=>ps,λhp=>zo ?_⟩;ext;refine xF ?_;rw[wx];ext;refine (yT hl ⋯).imp ?_;rintro _ S1 ⟨c,rfl,c0,c1,l1,k1⟩;obtain⟨i,rfl⟩:∃j:Nat,c=(j:Int):=⟨c.toNat,⋯⟩;have hi:i<bs.length:=by omega
 have ei:bs[i]? =f7 bs[i]:=u6 hi;generalize bs[i]=b at ei;refine yh rfl (yJ (XN ei)) ?_;ext;refine zF ?_;ext;refine zI ⟨_,rfl,λh=> ?_,λhs=>zo ?_⟩
 .ext;refine (zpj l1 h9 (ziu ei)).imp ?_;rintro _ S2 ⟨r,rfl,hr,l2,k2⟩;ext;exact⟨.inl ⟨.set i b r,rfl,zhC eZ ei,ei,hr⟩,l2,k1.trans k2⟩
 .ext;refine (zgb l1 (h1 b (ud ei))).imp ?_;rintro ws S2 ⟨l2,k2⟩;ext;exact⟨.inr ⟨.inr ⟨of_decide_eq_false hs,of_decide_eq_false hg,of_decide_eq_false hp⟩,⟨"draw",_,rfl,∅,∅,∅,∅⟩⟩,l2,k1.trans k2⟩
end
section
variable {fu:Nat} {S S' S2:Sto} {x y:Xv}
theorem ZZ {a b:Str} (h:a≠b) {P:Xv->Sto->Prop} (k:P (.bl kb) S):WO (xB kb (.str a) (.str b) S) P:=zI (by rw[decide_eq_false h];exact k)
theorem zbq {a:Str} {P:Xv->Sto->Prop} (k:P (.bl ia) S):WO (xB kb (.str a) (.str a) S) P:=zI (by rw[decide_eq_true rfl];exact k)
def znn (kd:Str) (rest:List Xv) (subs:List (List Xv)):Prop:=
 (kd="if"/\∃t a b,rest=[t,.tup a,.tup b]/\subs=[a,b])\/((kd="while"\/kd="times")/\∃t a,rest=[t,.tup a]/\subs=[a])\/(kd="hand"/\rest=[.tup (subs.map Xv.tup)])\/(kd≠"if"/\kd≠"while"/\kd≠"times"/\kd≠"hand"/\subs=[])
theorem zlR {kd:Str} {rest:List Xv} {subs:List (List Xv)} (h:znn kd rest subs):W (WG fu [.tup (.str kd::rest)] S) λv S'=>v= .tup (subs.map Xv.tup)/\S=S':=by
 walk_at "wr";unfold WD;refine zh (zF ?_);ext;rcases h with⟨rfl,t,a,b,rfl,rfl⟩|⟨h,t,a,rfl,rfl⟩|⟨rfl,rfl⟩|⟨h1,h2,h3,h4,rfl⟩
 .refine zbq ⟨_,rfl,λ_=> ?_,nofun⟩;ext;refine yh rfl (show atI [Xv.str "if",t,.tup a,.tup b] 2=f7 (.tup a) from rfl) ?_;ext;refine yh rfl (show atI [Xv.str "if",t,.tup a,.tup b] 3=f7 (.tup b) from rfl) ?_;ext;exact⟨rfl,rfl⟩
 .refine ZZ (by rcases h with rfl|rfl<;>decide) ⟨_,rfl,nofun,λ_=>zo ?_⟩;refine zh (zF (zdj ?_));ext;rcases h with rfl|rfl
  .refine zbq ⟨_,rfl,λ_=>⟨λ_=> ?_,nofun⟩,nofun⟩;ext;refine yh rfl (show atI [Xv.str "while",t,.tup a] 2=f7 (.tup a) from rfl) ?_;ext;exact⟨rfl,rfl⟩
  .refine ZZ ∅ ⟨_,rfl,nofun,λ_=> ?_⟩;ext;refine zbq ⟨_,rfl,λ_=> ?_,nofun⟩;ext;refine yh rfl (show atI [Xv.str "times",t,.tup a] 2=f7 (.tup a) from rfl) ?_;ext;exact⟨rfl,rfl⟩
 .refine ZZ ∅ ⟨_,rfl,nofun,λ_=>zo ?_⟩;refine zh (zF (zdj ?_));ext;refine ZZ ∅ ⟨_,rfl,nofun,λ_=> ?_⟩;ext;refine ZZ ∅ ⟨_,rfl,nofun,λ_=>zo ?_⟩;refine zh (zF ?_);ext;refine zbq ⟨_,rfl,λ_=> ?_,nofun⟩;ext;exact⟨rfl,rfl⟩
 .refine ZZ h1 ⟨_,rfl,nofun,λ_=>zo ?_⟩;refine zh (zF (zdj ?_));ext;refine ZZ h2 ⟨_,rfl,nofun,λ_=> ?_⟩;ext;refine ZZ h3 ⟨_,rfl,nofun,λ_=>zo ?_⟩;refine zh (zF ?_);ext;refine ZZ h4 ⟨_,rfl,nofun,λ_=>zo ?_⟩;ext;exact⟨rfl,rfl⟩
abbrev Itm:=Str×List Xv×List (List Xv×List Str)
noncomputable def zcw (p:Itm):Xv:= .tup (.str p.1::p.2.1)
noncomputable def zbc (p:Itm):List Str:=p.1::(p.2.2.map (·.2)).flatten
inductive Bl:Nat->List Xv->List Str->Prop
 |mk {h:Nat} (ah:List Itm):(∀p∈ah,znn p.1 p.2.1 (p.2.2.map (·.1)))->(∀p∈ah,∀q∈p.2.2,Bl h q.1 q.2)->Bl (h+1) (ah.map zcw) (ah.map zbc).flatten
def Ya (L:List Xv) (hs:List Str):Prop:=∃ps:List (Str×List Xv),L=ps.map (λp=> .tup (.str p.1::p.2))/\hs=ps.map (·.1)
theorem Ya.len {L:List Xv} {hs:List Str} (h:Ya L hs):L.length=hs.length:=by
 obtain⟨ps,rfl,rfl⟩:=h;simp
theorem Ya.app {L L':List Xv} {hs iC:List Str} (h:Ya L hs) (h':Ya L' iC):Ya (L++L') (hs++iC):=by
 obtain⟨ps,rfl,rfl⟩:=h;obtain⟨qs,rfl,rfl⟩:=h';exact⟨ps++qs,by simp,by simp⟩
theorem zdG {α β:Type} {f:α->List β} {l:List α} {i:Nat} {a:α} (h:l[i]? =f7 a):((l.take (i+1)).map f).flatten=((l.take i).map f).flatten++f a/\((l.take (i+1)).map f).flatten.length<=(l.map f).flatten.length:=by
 obtain⟨hi,e⟩:=u9.1 h;refine⟨by rw[uO hi,w6,BJ,e];simp,?_⟩;have:(l.map f).flatten=((l.take (i+1)).map f).flatten++((l.drop (i+1)).map f).flatten:=by rw[<-BJ,<-w6,List.take_append_drop]
 rw[this,uD];omega
theorem szB {n:Nat} (h:n<=2000):n<=sizeLine:=uC h ∅
theorem zlS {h:Nat} {ds:List Xv} {hs:List Str} (b:Bl h ds hs):∀(m:Nat) (S:Sto),h<=m->hs.length<=1000->W (yH fu m [.tup ds] S) λv S'=>∃n L,v= .ref n/\S'[n]? =f7 (.lst L)/\Ya L hs/\S.length<=n/\Kp (λ_=>False) S S':=by
 induction b with
 | @mk h ah hb _ ih=>
  intro m S hm hl;obtain⟨m,rfl⟩:∃q,m=q+1:=⟨m-1,⋯⟩;rw[Zv];walk_at "wr";unfold vf;ext;refine vj (TH ?_);ext;refine xT (xs:=ah.map zcw) (λi ρ S2=>∃(L:List Xv) (a2 a3:Option Xv),ρ=[f7 (.tup (ah.map zcw)),f7 (.ref S.length),a2,a3]/\Ya L ((ah.take i).map zbc).flatten/\S2[S.length]? =f7 (.lst L)/\Kp (λ_=>False) S S2) (λ_ _ _ _ _=>rfl) ?_ ?_ ?_
  .rintro i w ρ S2 hw ⟨L,a2,a3,rfl,hL,e2,k2⟩;rw[uf] at hw;cases hp:ah[i]? with
   |none=>rw[hp] at hw;cases hw
   |some p=>
    rw[hp] at hw;cases hw;have hG:=ud hp;obtain⟨f1,f2⟩:=zdG (f:=zbc) hp;rw[f1,uD] at f2;have eY:(zbc p).length=(p.2.2.map (·.2)).flatten.length+1:=by unfold zbc;simp
    refine .of rfl ?_;dsimp only[ui];ext;refine zbY ?_;ext;refine⟨⟨_,zG e2⟩,?_⟩;ext;have tR:=hL.len;refine zaB (Zk e2) (uB (show L.length<2000 by omega) ∅) ?_;have k3:Kp (λ_=>False) S (S2.set S.length (.lst (L++[zcw p]))):=k2.set (.inr (ug _));have e3:=wk (c':= .lst (L++[zcw p])) e2;generalize S2.set S.length (.lst (L++[zcw p]))=S3 at k3 e3 ⊢;refine vj (TH ?_);ext;refine (zlR (hb p hG)).imp ?_;rintro _ S4 ⟨rfl,rfl⟩;refine⟨_,rfl,_,rfl,?_⟩;refine xT (xs:=(p.2.2.map (·.1)).map Xv.tup) (λj ρ S5=>∃(L5:List Xv) (a3:Option Xv),ρ=[f7 (.tup (ah.map zcw)),f7 (.ref S.length),f7 (zcw p),a3]/\Ya L5 (((ah.take i).map zbc).flatten++p.1::((p.2.2.take j).map (·.2)).flatten)/\S5[S.length]? =f7 (.lst L5)/\Kp (λ_=>False) S S5) (λ_ _ _ _ _=>rfl) ?_ ?_ ?_
    .rintro j w ρ S5 hw ⟨L5,a3,rfl,lA,e5,k5⟩;rw[uf,uf] at hw;cases hq:p.2.2[j]? with
     |none=>rw[hq] at hw;cases hw
     |some q=>
      rw[hq] at hw;cases hw;obtain⟨f3,f4⟩:=zdG (f:=λq:List Xv×List Str=>q.2) hq;rw[f3,uD] at f4;refine .of rfl ?_;dsimp only[ui];ext;refine zbY ?_;ext;refine⟨⟨_,zG e5⟩,?_⟩;ext;refine (ih p hG q (ud hq) m S5 ⋯ ⋯).imp ?_;rintro _ S6 ⟨n6,L6,rfl,e6,pN,nS,k6⟩;ext;have pV:=k6.2 _ _ e5 id;have l5:=lA.len;have l6:=pN.len;rw[uD,ux] at l5
      refine WO.of (show YT (.ref S.length) [.ref n6] S6 = f7 (.non, S6.set S.length (.lst (L5 ++ L6))) by
       unfold YT;rw[Zk pV];dsimp only
       rw[show ZK S6 (.ref n6)=f7 L6 from zG e6,uz,if_pos (szB ⋯)]) ?_
      refine⟨L5++L6,_,rfl,?_,wk pV,(k5.trans k6).set (.inr (ug _))⟩;rw[f3];have:=lA.app pN;simpa using this
    .refine⟨L++[zcw p],a3,rfl,?_,e3,k3⟩;exact hL.app ⟨[(p.1,p.2.1)],rfl,rfl⟩
    .rintro ρ S5 ⟨L5,a3,rfl,lA,e5,k5⟩;rw[uw,uw,A1] at lA;exact⟨L5,_,_,rfl,by rw[f1];exact lA,e5,k5⟩
  .exact⟨[],gC,gC,rfl,⟨[],rfl,rfl⟩,yF,Kp.pre (ua _ _)⟩
  .rintro ρ S2 ⟨L,a2,a3,rfl,hL,e2,k2⟩;rw[uw,A1] at hL;ext;exact⟨_,L,rfl,e2,hL,ug _,k2⟩
theorem zdH:∀bs:List Bool,ZL (bs.map Xv.bl)=f7 bs
 |[]=>rfl
 |b::r=>by rw[uE];simp[ZL,zdH r]
theorem zdI {h:Nat} {ds:List Xv} {hs:List Str} (b:Bl h ds hs) (hh:h<=12) (hl:hs.length<=1000):W (Xu fu [.tup ds] S) λv S'=>v= .bl (!decide ((Str.ofString "while")∈hs))/\Kp (λ_=>False) S S':=by
 walk_at "wr";unfold Xt;ext;refine W.imp (P:=λv S'=>v= .bl (decide ((Str.ofString "while")∈hs))/\Kp (λ_=>False) S S') ?_ ?_
 .walk_at "wr";unfold WH;refine yk (xX (zg (xp (zdk ?_))));ext;refine (zlS b 12 S hh hl).imp ?_;rintro _ S2 ⟨n,L,rfl,e2,⟨ps,rfl,rfl⟩,hn,k2⟩;refine⟨_,zG e2,_,zG e2,?_⟩;refine yQ (by simpa using szB (by simp at hl;omega)) (λi es S3=>S3=S2/\es=((ps.take i).map λp=>decide (p.1=Str.ofString "while")).map Xv.bl) ?_ ?_ ⟨rfl,rfl⟩ ?_
  .rintro i es _ _ ⟨rfl,_⟩;exact zG e2
  .rintro i w es _ hw gI ⟨rfl,rfl⟩;rw[uf] at hw;cases hp:ps[i]? with
   |none=>rw[hp] at hw;cases hw
   |some p=>
    rw[hp] at hw;cases hw;refine .of rfl ?_;dsimp only[xM,uY,ui];ext;refine⟨rfl,?_⟩;ext;refine zI ⟨rfl,?_⟩;obtain⟨hi,e⟩:=u9.1 hp;rw[uO hi,w6,w6,e];rfl
  .rintro es S3 _ ⟨rfl,rfl⟩;rw[uw,A1];ext
   refine WO.of (show zft [.ref S3.length] _ = f7 (.bl ((ps.map λp => decide (p.1 = Str.ofString "while")).any id), _) by
    unfold zft;dsimp only;rw[wc,uz,zdH];rfl) ?_
   refine⟨?_,k2.app⟩
   congr 1
   rw[z7,decide_eq_true_iff,B1];constructor
   .rintro⟨b,hb,lx⟩;obtain⟨p,hp,rfl⟩:=x8.1 hb;exact x8.2 ⟨p,hp,of_decide_eq_true lx⟩
   .intro h;obtain⟨p,hp,e⟩:=x8.1 h;exact⟨_,x8.2 ⟨p,hp,rfl⟩,decide_eq_true e⟩
 .rintro _ S2 ⟨rfl,k2⟩;ext;exact⟨rfl,k2⟩
end
section
variable {fu mx:Nat} {S S' S2:Sto} {x y z:Xv} {ln sn fn dn:Nat} {bs:List (Str×Nat)} {fs:List zC}
theorem zlT (h:Nat):Bl (h+1) [] []:=Bl.mk [] (λp hp=>by cases hp) (λp hp=>by cases hp)
def To (h:Nat) (x:Xv) (hs:List Str):Prop:=∃it:Itm,x=zcw it/\hs=zbc it/\znn it.1 it.2.1 (it.2.2.map (·.1))/\∀q∈it.2.2,Bl h q.1 q.2
theorem PlX.it {h:Nat} (p:PlX x):∃w,To h x [w]:=by
 obtain⟨kd,rest,rfl,h1,h2,h3,h4⟩:=p;exact⟨kd,(kd,rest,[]),rfl,rfl,.inr (.inr (.inr ⟨h1,h2,h3,h4,rfl⟩)),λq hq=>by cases hq⟩
theorem zcx {h:Nat}:∀{xs:List (Xv×List Str)},(∀p∈xs,To h p.1 p.2)->Bl (h+1) (xs.map (·.1)) (xs.map (·.2)).flatten:=λ{xs} hx=>by
 have:∀xs:List (Xv×List Str),(∀p∈xs,To h p.1 p.2)->∃ah:List Itm,ah.map zcw=xs.map (·.1)/\ah.map zbc=xs.map (·.2)/\(∀p∈ah,znn p.1 p.2.1 (p.2.2.map (·.1)))/\∀p∈ah,∀q∈p.2.2,Bl h q.1 q.2:=by
  intro xs
  induction xs with
  |nil=>intro _;exact⟨[],rfl,rfl,(λp hp=>by cases hp),λp hp=>by cases hp⟩
  |cons x r ih=>
   intro hx;obtain⟨it,e1,e2,b1,b2⟩:=hx x uv;obtain⟨ah,i1,i2,i3,i4⟩:=ih λp hp=>hx p (uj _ hp);refine⟨it::ah,by rw[uE,uE,i1,e1],by rw[uE,uE,i2,e2],λp hp=> ?_,λp hp=> ?_⟩
   .rcases uy.1 hp with rfl|hp
    .exact b1
    .exact i3 p hp
   .rcases uy.1 hp with rfl|hp
    .exact b2
    .exact i4 p hp
 obtain⟨ah,i1,i2,i3,i4⟩:=this xs hx;have:=Bl.mk ah i3 i4;rw[i1,i2] at this;exact this
theorem Bl.up {h:Nat} {ds:List Xv} {hs:List Str} (b:Bl h ds hs):∀{h':Nat},h<=h'->Bl h' ds hs:=by
 induction b with
 | @mk h ah hb _ ih=>
  intro h' hh;obtain⟨m,rfl⟩:∃m,h'=m+1:=⟨h'-1,⋯⟩;exact Bl.mk ah hb λp hp q hq=>ih p hp q hq ⋯
def Vh (h n:Nat) (x:Xv):Prop:=∃hs,To h x hs/\(Str.ofString "while")∈hs/\hs.length<=n
theorem zbr (h:Nat):To h (.tup [.str "pass"]) ["pass"]:=⟨("pass",[],[]),rfl,rfl,.inr (.inr (.inr ⟨∅,∅,∅,∅,rfl⟩)),λq hq=>by cases hq⟩
theorem Vh.wrap1 {h n:Nat} {kd:Str} {t:Xv} (l:Vh h n x) (hk:kd="while"\/kd="times") {ex:List (Xv×List Str)} (he:∀p∈ex,To h p.1 p.2) (gI:(ex.map (·.2)).flatten.length<=1):Vh (h+1) (n+2) (.tup [.str kd,t,.tup (x::ex.map (·.1))]):=by
 obtain⟨hs,it,hw,hn⟩:=l;have b:=zcx (xs:=(x,hs)::ex) λp hp=>by
  rcases uy.1 hp with rfl|hp
  .exact it
  .exact he p hp
 refine⟨_,⟨(kd,[t,.tup (x::ex.map (·.1))],[(x::ex.map (·.1),hs++(ex.map (·.2)).flatten)]),rfl,rfl,.inr (.inl ⟨hk,t,_,rfl,rfl⟩),λq hq=>by rw[uH] at hq;subst hq;exact b⟩,?_,?_⟩
 .show _∈kd::([hs++(ex.map (·.2)).flatten]).flatten;simp[hw]
 .show (kd::([hs++(ex.map (·.2)).flatten]).flatten).length<=_;simp only[A4,B4,y0,ux,uD];omega
theorem Vh.wrapIf {h n:Nat} {t:Xv} {a b:List (Xv×List Str)} (ha:∀p∈a,To h p.1 p.2) (hb:∀p∈b,To h p.1 p.2) (hw:(Str.ofString "while")∈(a.map (·.2)).flatten++(b.map (·.2)).flatten) (hn:((a.map (·.2)).flatten++(b.map (·.2)).flatten).length<=n):Vh (h+1) (n+1) (.tup [.str "if",t,.tup (a.map (·.1)),.tup (b.map (·.1))]):=by
 refine⟨_,⟨("if",[t,.tup (a.map (·.1)),.tup (b.map (·.1))],[(a.map (·.1),(a.map (·.2)).flatten),(b.map (·.1),(b.map (·.2)).flatten)]),rfl,rfl,.inl ⟨rfl,t,_,_,rfl,rfl⟩,λq hq=> ?_⟩,?_,?_⟩
 .rcases uy.1 hq with rfl|hq
  .exact zcx ha
  .rw[uH] at hq;subst hq;exact zcx hb
 .show _∈(Str.ofString "if")::([(a.map (·.2)).flatten,(b.map (·.2)).flatten]).flatten;rw[A4,A4,B4,y0];exact uj _ hw
 .show ((Str.ofString "if")::([(a.map (·.2)).flatten,(b.map (·.2)).flatten]).flatten).length<=_;rw[A4,A4,B4,y0,ux];omega
theorem Vh.hand {h n:Nat} (l:Vh h n x):Vh (h+1) (n+2) (.tup [.str "hand",.tup [.tup [],.tup [.tup [.str "pass"],x]]]):=by
 obtain⟨hs,it,hw,hn⟩:=l;have b:=zcx (xs:=[(.tup [.str "pass"],["pass"]),(x,hs)]) λp hp=>by
  rcases uy.1 hp with rfl|hp
  .exact zbr h
  .rw[uH] at hp;subst hp;exact it
 refine⟨_,⟨("hand",[.tup [.tup [],.tup [.tup [.str "pass"],x]]],[([],[]),([.tup [.str "pass"],x],"pass"::(hs++[]))]),rfl,rfl,.inr (.inr (.inl ⟨rfl,rfl⟩)),λq hq=> ?_⟩,?_,?_⟩
 .rcases uy.1 hq with rfl|hq
  .exact zlT h
  .rw[uH] at hq;subst hq;exact b
 .show _∈(Str.ofString "hand")::([[],(Str.ofString "pass")::(hs++[])]).flatten;simp[hw]
 .show ((Str.ofString "hand")::([[],(Str.ofString "pass")::(hs++[])]).flatten).length<=_;simp only[A4,B4,y0,Cm,ux];omega
theorem at2 {k:Int} {a b:Xv} (h0:0<=k) (h1:k<2):∃v,atI [a,b] k=f7 v/\(v=a\/v=b):=by
 rcases (show k=0\/k=1 by omega) with rfl|rfl
 .exact⟨a,rfl,.inl rfl⟩
 .exact⟨b,rfl,.inr rfl⟩
theorem at4 {k:Int} {a b c d:Str} (h0:0<=k) (h1:k<4):∃v:Str,atI [Xv.str a,.str b,.str c,.str d] k=f7 (.str v)/\(v=a\/v=b\/v=c\/v=d):=by
 rcases (show k=0\/k=1\/k=2\/k=3 by omega) with rfl|rfl|rfl|rfl
 .exact⟨a,rfl,.inl rfl⟩
 .exact⟨b,rfl,.inr (.inl rfl)⟩
 .exact⟨c,rfl,.inr (.inr (.inl rfl))⟩
 .exact⟨d,rfl,.inr (.inr (.inr rfl))⟩
theorem zpl (hl:zT mx ln S) (h9:bs.length<=9) (h1:∀b∈bs,1<=b.2/\b.2<=9) (eZ:(bs.map (·.1)).Nodup):W (WN fu [.ref ln,.tup (bsX bs)] S) λv S'=>Vh 4 10 v/\zT mx ln S'/\Kp (· =ln) S S':=by
 have nV:=hl.lt;walk_at "wr";unfold WM;refine zh (yd (yl (zg (zj rfl (zg (zj rfl (zg (ym (zef ?_)))))))));ext;refine (yT hl.app ∅).imp ?_;rintro _ S1 ⟨c,rfl,c0,c1,l1,k1⟩;obtain⟨kd,ek,m8⟩:=at4 (a:="pass") (b:="set") (c:="gain") (d:="draw") c0 c1;refine xU (zG (k1.2 _ _ yF (show ¬S.length=ln by omega))) ek ?_;ext;refine (zcv l1 h9 h1 eZ (by rcases m8 with rfl|rfl|rfl|rfl<;>decide)).imp ?_;rintro body S2 ⟨hb,l2,k2⟩
 try dsimp only[ui]
 have qC:Kp (· =ln) S S2:=((Kp.pre (ua _ _)).trans k1).trans k2;have pb:PlX body:=by
  rcases hb with⟨d,rfl,_⟩|⟨_,p⟩
  .exact zpk d
  .exact p
 have rL:=l2.lt;refine zh (yd (Xo (zg (za3 (zg (yl (zg (zj rfl (zg (zj rfl (yI ?_)))))))))));refine (zlB l2 h9).imp ?_;rintro _ S3 ⟨t,rfl,_,l3,k3⟩;have rK:=l3.lt;refine zg (ym (zef ?_));ext;refine (yT l3.app ∅).imp ?_;rintro _ S4 ⟨d,rfl,d0,d1,l4,k4⟩;obtain⟨blk,eb,ou⟩:=at2 (a:= .tup []) (b:= .tup [body]) d0 d1;refine xU (zG (k4.2 _ _ yF (show ¬S3.length=ln by omega))) eb ?_;ext;have qB:Kp (· =ln) S S4:=(qC.trans k3).trans ((Kp.pre (ua _ _)).trans k4);have qq:Vh 2 2 (.tup [.str "while",tsX t,blk]):=by
  obtain⟨w,qE⟩:=pb.it (h:=1);rcases ou with rfl|rfl
  .exact⟨_,⟨("while",[tsX t,.tup []],[([],[])]),rfl,rfl,.inr (.inl ⟨.inl rfl,_,_,rfl,rfl⟩),λq hq=>by rw[uH] at hq;subst hq;exact zlT 1⟩,by simp[zbc],by simp[zbc]⟩
  .have b:=zcx (xs:=[(body,[w])]) λp hp=>by rw[uH] at hp;subst hp;exact qE
   exact⟨_,⟨("while",[tsX t,.tup [body]],[([body],[w]++[])]),rfl,rfl,.inr (.inl ⟨.inl rfl,_,_,rfl,rfl⟩),λq hq=>by rw[uH] at hq;subst hq;exact b⟩,by simp[zbc],by simp[zbc]⟩
 refine vj (wU ?_);ext;refine (yT l4 ∅).imp ?_;rintro _ S5 ⟨e,rfl,e0,e1,l5,k5⟩;refine⟨_,rfl,⟨⋯,⋯⟩,_,rfl,?_⟩;refine xT (xs:=xL 0 e.toNat) (λi ρ S6=>∃(lp:Xv) (a4 a5 a6:Option Xv),ρ=[f7 (.ref ln),f7 (.tup (bsX bs)),f7 body,f7 lp,a4,a5,a6]/\Vh (2+i) (2+2*i) lp/\zT mx ln S6/\Kp (· =ln) S S6) (λ_ _ _ _ _=>rfl) ?_ ⟨_,gC,gC,gC,rfl,qq,l5,qB.trans k5⟩ ?_
 .rintro i w0 ρ S6 hw ⟨lp,a4,a5,a6,rfl,j8,l6,k6⟩;refine .of rfl ?_;dsimp only[ui];refine zh (yd (yl ?_));ext;refine (yT l6 ∅).imp ?_;rintro _ S7 ⟨way,rfl,sY,w1,l7,k7⟩
  try dsimp only[ui]
  refine zh (yd (yl ?_));ext;refine (zlB l7 h9).imp ?_;rintro _ S8 ⟨t2,rfl,_,l8,k8⟩
  try dsimp only[ui]
  have kO:=(k6.trans k7).trans k8;obtain⟨hs,it,km,hlen⟩:=id j8;have no:∀{c:Int} {e:TwE} {lp:Xv} {N R},way≠c->N [f7 (.ref ln),f7 (.tup (bsX bs)),f7 body,f7 lp,f7 w0,f7 (.int way),f7 (tsX t2)] S8->WS (sIf (bE (eOp ZR (za 5) (eC (.int c)))) (zH e (gN 3)) zN [f7 (.ref ln),f7 (.tup (bsX bs)),f7 body,f7 lp,f7 w0,f7 (.int way),f7 (tsX t2)] S8) N R:=by
   intro c e lp N R hc k;refine zF ?_;ext;exact xw (λz=>absurd z hc) (λ_=>zo k)
  have fin:∀{lp:Xv} {S9:Sto},Vh (2+(i+1)) (2+2*(i+1)) lp->zT mx ln S9->Kp (· =ln) S S9->∃(lp':Xv) (a4 a5 a6:Option Xv),([f7 (.ref ln),f7 (.tup (bsX bs)),f7 body,f7 lp,f7 w0,f7 (.int way),f7 (tsX t2)]:Rho)=[f7 (.ref ln),f7 (.tup (bsX bs)),f7 body,f7 lp',a4,a5,a6]/\Vh (2+(i+1)) (2+2*(i+1)) lp'/\zT mx ln S9/\Kp (· =ln) S S9:=λ{lp S9} h l k=>⟨lp,_,_,_,rfl,h,l,k⟩;have two:Vh (2+i+1) (2+2*i+2)=Vh (2+(i+1)) (2+2*(i+1)):=by
   rw[show 2+i+1=2+(i+1) by omega,show 2+2*i+2=2+2*(i+1) by omega]
  rcases (show way=0\/way=1\/way=2\/way=3\/way=4 by omega) with rfl|rfl|rfl|rfl|rfl
  .refine zh (zF ?_);ext;refine⟨λ_=> ?_,λz=>by simp at z⟩;refine yd (Xo (zg (za3 (zg (yl ?_)))));ext;refine (yT l8 ∅).imp ?_;rintro _ S9 ⟨n9,rfl,_,_,l9,k9⟩;ext
   try dsimp only[ui]
   have hh:=j8.wrap1 (t:= .int n9) (kd:="times") (.inr rfl) (ex:=[(.tup [.str "pass"],["pass"])]) (λp hp=>by rw[uH] at hp;subst hp;exact zbr _) (by simp);rw[two] at hh;have lQ:∀{c:Int} {e:TwE} {lp:Xv} {N R},(0:Int)≠c->N [f7 (.ref ln),f7 (.tup (bsX bs)),f7 body,f7 lp,f7 w0,f7 (.int 0),f7 (tsX t2)] S9->WS (sIf (bE (eOp ZR (za 5) (eC (.int c)))) (zH e (gN 3)) zN [f7 (.ref ln),f7 (.tup (bsX bs)),f7 body,f7 lp,f7 w0,f7 (.int 0),f7 (tsX t2)] S9) N R:=by
    intro c e lp N R hc k;refine zF ?_;ext;exact xw (λz=>absurd z hc) (λ_=>zo k)
   refine lQ ∅ (zh (lQ ∅ (zh (lQ ∅ (lQ ∅ ?_)))));exact fin hh l9 (kO.trans k9)
  .refine zh (no ∅ (zh (zF ?_)));ext;refine⟨λ_=> ?_,λz=>by simp at z⟩;ext;have hh:=Vh.wrapIf (h:=2+i) (n:=2+2*i+1) (t:=tsX t2) (a:=[(.tup [.str "pass"],["pass"])]) (b:=[(lp,hs)]) (λp hp=>by rw[uH] at hp;subst hp;exact zbr _) (λp hp=>by rw[uH] at hp;subst hp;exact it) (by simp[km]) (by simp;omega);rw[show 2+2*i+1+1=2+2*i+2 by omega,two] at hh;refine no ∅ (zh (no ∅ (no ∅ ?_)));exact fin hh l8 kO
  .refine zh (no ∅ (zh (no ∅ (zh (zF ?_)))));ext;refine⟨λ_=> ?_,λz=>by simp at z⟩;ext;have hh:=Vh.wrapIf (h:=2+i) (n:=2+2*i+1) (t:=tsX t2) (a:=[(lp,hs)]) (b:=[]) (λp hp=>by rw[uH] at hp;subst hp;exact it) (λp hp=>by cases hp) (by simp[km]) (by simp;omega);rw[show 2+2*i+1+1=2+2*i+2 by omega,two] at hh;refine no ∅ (no ∅ ?_);exact fin hh l8 kO
  .refine zh (no ∅ (zh (no ∅ (zh (no ∅ (zh (zF ?_)))))));ext;refine⟨λ_=> ?_,λz=>by simp at z⟩;ext;have hh:=j8.hand;rw[two] at hh;refine no ∅ ?_;exact fin hh l8 kO
  .refine zh (no ∅ (zh (no ∅ (zh (no ∅ (zh (no ∅ (zF ?_))))))));ext;refine⟨λ_=> ?_,λz=>by simp at z⟩;ext;have hh:=j8.wrap1 (t:=tsX t2) (kd:="while") (.inl rfl) (ex:=[]) (λp hp=>by cases hp) (by simp);rw[two] at hh;exact fin hh l8 kO
 .rintro ρ S6 ⟨lp,a4,a5,a6,rfl,j8,l6,k6⟩;rw[zY] at j8;ext;obtain⟨hs,⟨it,e1,e2,b1,b2⟩,km,hlen⟩:=j8;exact⟨⟨hs,⟨it,e1,e2,b1,λq hq=>(b2 q hq).up ⋯⟩,km,⋯⟩,l6,k6⟩
end
section
variable {fu mx:Nat} {S S' S2:Sto} {x y z:Xv} {ln sn fn dn:Nat} {bs:List (Str×Nat)} {fs fs':List zC} {st pt:List Nat}
theorem zpm {lv:Nat} {b:Str×Nat} {v:Int} (h9:bs.length<=9) (h1:∀b∈bs,1<=b.2/\b.2<=9) (eZ:(bs.map (·.1)).Nodup) (hs:st.length=bs.length) (eb:bs[lv]? =f7 b):W (Xf fu [.tup (bsX bs),.tup (ksX st),.str b.1,.int v] S) λw S'=>w= .tup (ksX (stp lv b.2 v st))/\Kp K0 S S':=by
 walk_at "wr";unfold Ub;ext;refine WO.of (show zh3 [.tup (ksX st)] S=f7 (.ref S.length,S++[.lst (ksX st)]) from rfl) ?_;ext;refine vj (wU (xX (zg (zj rfl (yI (xF ?_))))));rw[wx];refine⟨_,rfl,⟨⋯,⋯⟩,_,rfl,?_⟩;rw[uM];have hb:=h1 b (ud eb);have jw:=(u9.1 eb).1;refine xT (xs:=xL 0 bs.length) (λi ρ S2=>∃a5,ρ=[f7 (.tup (bsX bs)),f7 (.tup (ksX st)),f7 (.str b.1),f7 (.int v),f7 (.ref S.length),a5]/\S2[S.length]? =f7 (.lst (ksX (if lv<i then stp lv b.2 v st else st)))/\Kp K0 S S2) (λ_ _ _ _ _=>rfl) ?_ ⟨gC,rfl,by rw[if_neg ⋯];exact yF,Kp.pre (ua _ _)⟩ ?_
 .rintro i w0 ρ S2 hw ⟨a5,rfl,h2,k2⟩;obtain⟨hi,rfl⟩:=xk hw;rw[y9];have ei:bs[i]? =f7 bs[i]:=u6 hi;generalize bs[i]=c at ei;refine .of rfl ?_;dsimp only[ui];refine zF ?_;ext;refine yh (l:=bsX bs) rfl (yJ (XN ei)) ?_;ext;refine zI ⟨_,rfl,λz=> ?_,λz=>zo ⟨_,rfl,?_,k2⟩⟩
  .have z:=of_decide_eq_true z;have q1:=zhC eZ ei;have q2:=zhC eZ eb;rw[z,q2] at q1;cases q1;rw[eb] at ei;cases ei;refine zbZ ?_;ext;refine yh (l:=bsX bs) rfl (yJ (XN eb)) ?_;ext;refine Yo ⋯ ?_;ext;rw[if_neg (Ao _)] at h2;refine⟨_,_,_,lv,Zk h2,rfl,zeO (by rw[xf];omega),_,rfl,?_,k2.set (.inr (ug _))⟩;have h0:=y6 v (show (b.2:Int)≠0 by omega);rw[wk h2,if_pos ⋯];unfold stp;rw[<-ziw,Bb h0]
  .have z:=of_decide_eq_false z;have gH:i≠lv:=λe=>by
    subst e;rw[eb] at ei;cases ei;exact z rfl
   by_cases q:lv<i
   .rw[if_pos q] at h2;rw[if_pos ⋯];exact h2
   .rw[if_neg q] at h2;rw[if_neg ⋯];exact h2
 .rintro ρ S2 ⟨a5,rfl,h2,k2⟩;rw[zY,if_pos jw] at h2;ext;exact Wb h2 ⟨rfl,k2⟩
theorem zpn {lv:Nat} {b:Str×Nat} {r:Rk} (h9:bs.length<=9) (h1:∀b∈bs,1<=b.2/\b.2<=9) (eZ:(bs.map (·.1)).Nodup) (hs:yt (bs.map (·.2)) st) (eb:bs[lv]? =f7 b) (hr:zjv bs r):W (Xg fu [.tup (bsX bs),.tup (ksX st),ddX (.set lv b r)] S) λw S'=>w= .tup (ksX (stp lv b.2 (rv bs st r) st))/\Kp K0 S S':=by
 have hl:st.length=bs.length:=by rw[hs.1,uw]
 have two:atI [Xv.str "set",.str b.1,rkX r] 2=f7 (rkX r):=rfl;have fin:∀{S2:Sto} {v:Int} {a3 a4:Option Xv} {N:Rho->Sto->Prop},a3=f7 (.int v)->v=rv bs st r->Kp K0 S S2->WS (zO (zD (Xf fu) [(za 0),(za 1),(eOp zM (za 2) (eC (.int 1))),(za 3)]) [f7 (.tup (bsX bs)),f7 (.tup (ksX st)),f7 (ddX (.set lv b r)),a3,a4] S2) N λw S'=>w= .tup (ksX (stp lv b.2 (rv bs st r) st))/\Kp K0 S S':=by
  rintro S2 v a3 a4 N rfl rfl k2;unfold ddX;ext;refine (zpm h9 h1 eZ hl eb).imp ?_;rintro _ S3 ⟨rfl,k3⟩;exact⟨rfl,k2.trans k3⟩
 walk_at "wr";unfold Uc;refine zh (yd (yl (zg (zj rfl (zg (zj rfl (zg (ym (ym (zj rfl (za3 ?_))))))))))) ;unfold ddX;refine yh rfl two ?_;cases r with
 |one a=>
  unfold rkX rkL;ext;refine (zaq h9 hl hr).imp ?_;rintro _ _ ⟨rfl,rfl⟩
  try dsimp only[ui]
  refine zh (zF (vr (ym (xX (zg (ym (zj rfl (za3 ?_))))))));refine yh rfl (show atI [Xv.str "set",.str b.1,.tup [opX a]] 2=f7 (.tup [opX a]) from rfl) ?_;ext;refine xF ?_;ext;refine⟨λz=>by simp at z,λ_=>zo ?_⟩;exact fin rfl rfl (Kp.refl _)
 |two sg a c=>
  obtain⟨kQ,ha,hc⟩:=hr;have b1:=zdF ha hs h1;have b2:=zdF hc hs h1;unfold rkX rkL;have two':atI [Xv.str "set",.str b.1,.tup [opX a,.str (rsS sg),opX c]] 2=f7 (.tup [opX a,.str (rsS sg),opX c]):=rfl;ext;refine (zaq h9 hl ha).imp ?_;rintro _ _ ⟨rfl,rfl⟩
  try dsimp only[ui]
  refine zh (zF (vr (ym (xX (zg (ym (zj rfl (za3 ?_))))))));refine yh rfl two' ?_;ext;refine xF ?_;ext;refine⟨λ_=> ?_,λz=>by simp at z⟩;refine zh (yd (yl (zg (zj rfl (zg (zj rfl (zg (ym (ym (zj rfl (za3 ?_)))))))))));refine yh rfl two' ?_;ext;refine yh rfl (show atI [opX a,Xv.str (rsS sg),opX c] 2=f7 (opX c) from rfl) ?_;ext;refine (zaq h9 hl hc).imp ?_;rintro _ _ ⟨rfl,rfl⟩
  try dsimp only[ui]
  have one:∀{w:Str} {e:TwE} {v:Xv} {S:Sto} {N:Rho->Sto->Prop} {R:Xv->Sto->Prop} {a4:Option Xv},(rsS sg=w->W (e [f7 (.tup (bsX bs)),f7 (.tup (ksX st)),f7 (.tup [Xv.str "set",.str b.1,.tup [opX a,.str (rsS sg),opX c]]),f7 v,a4] S) λu S'=>N [f7 (.tup (bsX bs)),f7 (.tup (ksX st)),f7 (.tup [Xv.str "set",.str b.1,.tup [opX a,.str (rsS sg),opX c]]),f7 u,a4] S')->(rsS sg≠w->N [f7 (.tup (bsX bs)),f7 (.tup (ksX st)),f7 (.tup [Xv.str "set",.str b.1,.tup [opX a,.str (rsS sg),opX c]]),f7 v,a4] S)->
    WS (sIf (bE (eOp (xB kb) (eOp zM (eOp zM (za 2) (eC (.int 2))) (eC (.int 1))) (eC (.str w)))) (zH e (gN 3)) zN [f7 (.tup (bsX bs)),f7 (.tup (ksX st)),f7 (.tup [Xv.str "set",.str b.1,.tup [opX a,.str (rsS sg),opX c]]),f7 v,a4] S) N R:=by
   intro w e v S N R a4 hy hn;refine zF (vr (ym (ym (ym (zj rfl (za3 ?_))))));refine yh rfl two' ?_;ext;refine zI ⟨_,rfl,λz=>yd (hy (of_decide_eq_true z)),λz=>zo (hn (of_decide_eq_false z))⟩
  match sg,kQ with
  |0,_=>
   refine zh (one (λ_=> ?_) (λz=>absurd rfl z));ext;refine one (w:="-") (λz=>absurd z ∅) (λ_=> ?_);refine one (w:="*") (λz=>absurd z ∅) (λ_=> ?_);exact fin rfl rfl (Kp.refl _)
  |1,_=>
   refine zh (one (w:="+") (λz=>absurd z ∅) (λ_=> ?_));refine zh (one (w:="-") (λ_=> ?_) (λz=>absurd rfl z));ext;refine one (w:="*") (λz=>absurd z ∅) (λ_=> ?_);exact fin rfl rfl (Kp.refl _)
  |2,_=>
   refine zh (one (w:="+") (λz=>absurd z ∅) (λ_=> ?_));refine zh (one (w:="-") (λz=>absurd z ∅) (λ_=> ?_));refine one (λ_=> ?_) (λz=>absurd rfl z);ext;have l1:intBits (wv bs st a)<=60:=z3.mpr (uP b1 ∅);have l2:intBits (wv bs st c)<=60:=z3.mpr (uP b2 ∅);refine Up ⋯ ?_;exact fin rfl rfl (Kp.refl _)
end
section
variable {fu:Nat} {S S' S2:Sto} {x y z:Xv} {ss:List Nat} {bl:List Xv} {ln sn fn dn n:Nat} {fs fs':List zC} {bs:List (Str×Nat)} {st pt:List Nat} {L:List (List Nat)}
theorem znT:∀{ss:List Nat},(∀s∈ss,1<=s)->wt ss<=2*(ss.length+1)*prd ss
 |[],_=>by simp[wt,prd]
 |s::r,h=>by
  have h1:=znT (ss:=r) λt ht=>h t (uj _ ht);have h2:=h s uv;have h3:=zir (ss:=r) λt ht=>h t (uj _ ht);have h4:1<=s*prd r:=Cu h2 h3;show 2+s*wt r<=2*(r.length+1+1)*(s*prd r);have h5:s*wt r<=s*(2*(r.length+1)*prd r):=BI _ h1;have h6:s*(2*(r.length+1)*prd r)=2*(r.length+1)*(s*prd r):=by rw[Nat.mul_left_comm]
  have h7:2*(r.length+1+1)*(s*prd r)=2*(r.length+1)*(s*prd r)+2*(s*prd r):=by rw[show 2*(r.length+1+1)=2*(r.length+1)+2 by omega,Nat.add_mul]
  omega
theorem zpo (cb:Bx9 ss bl) (hp:prd ss<=20):cst ss ss.length<=400:=by
 unfold cst;rw[A2,Ah];have h1:=znT (ss:=ss) λs hs=>(cb.siz s hs).1;have h2:2*(ss.length+1)*prd ss<=20*20:=Nat.mul_le_mul (by have:=cb.l9;omega) hp;omega
theorem zno (cb:Bx9 ss bl):∃st,yt ss st:=by
 refine⟨uJ ss.length 0,by simp,λi x s e1 e2=> ?_⟩;rw[AF] at e1;split at e1
 .cases e1;exact (cb.siz s (ud e2)).1
 .cases e1
theorem zqB {n:Nat} (q:Q2):plX (n+1) (qv q)=ia:=by cases n<;>simp[plX,qv]
theorem QX.is {q:Q2} (h:QX x q):x=qv q\/x= .ct [.int q.1,.int q.2]:=by
 unfold QX at h;cases x with
 |tup l=>simp only[Xv.tupOf,uQ] at h;subst h;exact .inl rfl
 |ct l=>simp only[Xv.tupOf,uQ] at h;subst h;exact .inr rfl
 |_=>simp[Xv.tupOf] at h
theorem zqC {l:List Xv} {i:Int} {z:Xv} (h:atI l i=f7 z):zfn (.ct l) (.int i) S=f7 (z,S):=by
 show (atI l i).map (λz=>(z,S))=_;rw[h];rfl
theorem znp {q:Q2} (h:QX x q):W (yP fu 10 [x,qv q] S) λv S'=>v= .bl ia/\S<+:S':=by
 rcases h.is with rfl|rfl
 .exact zlo 9 (zqB q)
 rw[ww];walk_at "wr";unfold wP;refine zh (zF ?_);ext;refine vk (v:=ia) rfl ?_;refine⟨_,rfl,λ_=> ?_,λz=>(by cases z)⟩;refine zh (zF (zdj ?_));ext;refine vk (v:=ia) rfl ?_;refine⟨_,rfl,λz=>(by cases z),λ_=> ?_⟩;ext;refine WO.of (show wT [Xv.ct [.int q.1,.int q.2]] S=f7 (.int 2,S) from rfl) ?_;ext;refine WO.of (show wT [qv q] S=f7 (.int 2,S) from rfl) ?_;ext;refine⟨λz=> ?_,λ_=>zo ?_⟩
 .simp at z
 refine yk (xX (zg ?_));refine xp (wU ?_);ext;refine WO.of (show wT [qv q] S=f7 (.int 2,S) from rfl) ?_;refine⟨_,rfl,⟨⋯,⋯⟩,_,rfl,?_⟩;refine yQ (by rw[zY];exact v8 (zco ∅)) (λi es S2=>S<+:S2/\es=uJ i (.bl ia)) (λ_ _ _ _ _=>rfl) ?_ ⟨uU _,rfl⟩ ?_
 .rintro i w es S2 hw gI ⟨p2,rfl⟩;obtain⟨hi,rfl⟩:=xk hw;have iE:i<[Xv.int q.1,Xv.int q.2].length:=hi;have lg:atI [Xv.int q.1,Xv.int q.2] ((0:Int)+(i:Int))=f7 [Xv.int q.1,Xv.int q.2][i]:=by rw[y9];exact UR ⋯ (by rw[uM];exact u6 iE)
  refine .of rfl ?_;dsimp only[xM,uY,ui];ext;refine⟨rfl,?_⟩;ext;refine WO.of (zqC lg) ?_;ext;refine WO.of (zo9 (l:=[Xv.int q.1,Xv.int q.2]) lg) ?_;ext;have eY:plX 8 [Xv.int q.1,Xv.int q.2][i]=ia:=by
   have:=y4 iE;rw[uy,uH] at this;rcases this with e|e<;>rw[e]<;>simp[plX]
  refine (zlo 8 eY).imp ?_;rintro _ S3 ⟨rfl,p3⟩;exact⟨p2.trans p3,by rw[B3]⟩
 .rintro es S2 _ ⟨p2,rfl⟩;ext;refine zeE wc (zal _) ⟨by simp,p2.trans (ua _ _)⟩
theorem zqD {qs:List Q2} {i:Nat} {q:Q2} (h:qs[i]? =f7 q):(qs.map qv)[i]? =f7 (qv q):=by rw[uf,h];rfl
theorem zdJ (ez:Big fu) (cb:Bx9 ss bl) (hp:prd ss<=1000) {T:List Q2} {i tn:Nat} {f:zC} (h:yG sn fn dn (.tup bl) fs S) (w:WF ss fs) (ei:fs[i]? =f7 f) (tl:zf6 ss fs 0 T i) (ht:S[tn]? =f7 (.lst (T.map qv))):
  W (wg fu [.ref sn,.tup bl,.int (i:Int),.ref tn] S) λv S'=>v= .bl ia/\Kp K0 S S':=by
 have h9:=cb.l9;walk_at "wr";unfold XM;refine zh (yd (yl (zg (zj rfl (yI ?_)))));refine (zct cb.toBx h9 hp).imp ?_;rintro _ S0 ⟨n,L,rfl,hn,gl,iS,k0⟩;have h:=h.keep k0 id id id;have ht:=k0.2 _ _ ht id
 try dsimp only[ui]
 refine zh (zF (zee (vr (yl (zg (zj rfl (yI ?_)))))));refine zm3.imp ?_;rintro _ S0 ⟨rfl,rfl⟩;refine⟨_,rfl,nofun,λ_=>zo ?_⟩;refine yk (xX (zg (xp (wU (xX (zg (zj rfl (yI (zg2 (zG hn) ?_)))))))));have m7:L.length<=1000:=by rw[gl.len];exact hp
 rw[Wc];refine⟨_,rfl,⟨⋯,⋯⟩,_,rfl,?_⟩;rw[uM];refine yQ (xs:=xL 0 L.length) (by rw[zY];exact v8 (zhw m7)) (λj es S2=>es=uJ j (.bl ia)/\S0<+:S2) (λ_ _ _ _ _=>rfl) ?_ ⟨rfl,uU _⟩ ?_
 .rintro j w0 es S2 hw gI ⟨rfl,p2⟩;obtain⟨hj,rfl⟩:=xk hw;rw[y9];have je:L[j]? =f7 L[j]:=u6 hj;obtain⟨fw,ix⟩:=gl.at_ j _ je;obtain⟨q,hh,eq,v⟩:=tl _ fw;rw[Ah,Ah,ix] at eq;obtain⟨q',v'⟩:=w.val' fw ei;have:q'=q:=v'.uniq v;subst this;have h2:=h.pre p2;refine .of rfl ?_;dsimp only[xM,uY,ui];ext;refine⟨rfl,?_⟩;refine yl (zg (ye ?_));ext;refine⟨_,_,rfl,h2.o,rfl,?_⟩;ext;refine xU (zG (xn p2 hn)) (yJ (zna je)) ?_;ext;refine (zm2 h2 v' (by have:=ez.le;omega)).imp ?_;rintro xv _ ⟨qT,rfl⟩;ext;refine xU (zG (xn p2 ht)) (yJ (zqD eq)) ?_;ext;refine (znp qT).imp ?_;rintro _ S3 ⟨rfl,p3⟩;exact⟨by rw[B3],p2.trans p3⟩
 .rintro es S2 _ ⟨rfl,p2⟩;ext;refine zeE wc (zal _) ⟨?_,k0.trans (Kp.pre (p2.trans (ua _ _)))⟩;simp
theorem znq {ct:Bool} {ds:List Dd} (h9:bs.length<=9) (h1:∀b∈bs,1<=b.2/\b.2<=9) (eZ:(bs.map (·.1)).Nodup) (fe:∀d∈ds,zbb bs d) (hs:yt (bs.map (·.2)) st) (jv:yt (bs.map (·.2)) pt):
  W (Ue fu [.tup (bsX bs),.tup (dsX ds),.tup (ksX st),.tup (ksX pt),.bl ct] S) λv S'=>v=qv (vS bs ct (λs=>if s=pt then 1 else 0) ds st,1)/\Kp K0 S S':=by
 walk_at "wr";unfold Ud;ext;refine vj (TH (zj rfl ⟨_,rfl,_,rfl,?_⟩));refine xT (xs:=dsX ds) (λi ρ S2=>∃(s2:List Nat) (g:Int) (a6:Option Xv),ρ=[f7 (.tup (bsX bs)),f7 (.tup (dsX ds)),f7 (.tup (ksX s2)),f7 (.tup (ksX pt)),f7 (.bl ct),f7 (.int g),a6]/\yt (bs.map (·.2)) s2/\vS bs ct (λs=>if s=pt then 1 else 0) ds st=g+vS bs ct (λs=>if s=pt then 1 else 0) (ds.drop i) s2/\Kp K0 S S2) (λ_ _ _ _ _=>rfl) ?_ ⟨st,0,gC,rfl,hs,by rw[Ah,y9],Kp.refl _⟩ ?_
 .rintro i w0 ρ S2 hw ⟨s2,g,a6,rfl,fw,hf,k2⟩;unfold dsX at hw;rw[uf] at hw;cases ed:ds[i]? with
  |none=>rw[ed] at hw;cases hw
  |some d=>
   rw[ed] at hw;cases hw;obtain⟨hi,sj⟩:=u9.1 ed;have jz:=fe d (ud ed);rw[Aj hi,sj] at hf
   replace hf:vS bs ct (λs=>if s=pt then 1 else 0) ds st=g+(ddG bs ct s2 d+vS bs ct (λs=>if s=pt then 1 else 0) (ds.drop (i+1)) (ddS bs s2 d)):=hf
   have mP:=zlQ jz h1 fw;have hJ:s2.length=bs.length:=by rw[fw.1,uw]
   refine .of rfl ?_;dsimp only[ui];cases d with
   |set lv b r=>
    obtain⟨kq,eb,hr⟩:=jz;unfold ddX;refine zh (zF (UP ?_));ext;refine zI ⟨_,rfl,λz=>absurd z ∅,λ_=>⟨nofun,λ_=>zo ?_⟩⟩;refine zF ?_;ext;refine zI ⟨_,rfl,λ_=> ?_,λz=>absurd z ∅⟩;refine yd (yl (zg (zj rfl (zg (zj rfl (zg (zj rfl (yI ?_))))))));refine (zpn h9 h1 eZ fw eb hr).imp ?_;rintro _ S3 ⟨rfl,k3⟩;dsimp only[ui];refine⟨_,g,_,rfl,mP,?_,k2.trans k3⟩;rw[hf,show ddG bs ct s2 (.set lv b r)=0 from rfl,y9];rfl
   |gain o=>
    unfold ddX;refine zh (zF (UP ?_));ext;refine zI ⟨_,rfl,λ_=> ?_,λz=>absurd z ∅⟩;ext;have last:∀{g':Int},g'=g+ddG bs ct s2 (.gain o)->WS (sIf (bE (eOp (xB kb) (eOp zM (za 6) (eC (.int 0))) (eC (.str "set")))) (zH (zD (Xg fu) [(za 0),(za 2),(za 6)]) (gN 2)) zN [f7 (.tup (bsX bs)),f7 (.tup (dsX ds)),f7 (.tup (ksX s2)),f7 (.tup (ksX pt)),f7 (.bl ct),f7 (.int g'),f7 (.tup [.str "gain",opX o])] S2) (λρ S2=>∃(s2:List Nat) (g:Int) (a6:Option Xv),ρ=[f7 (.tup (bsX bs)),f7 (.tup (dsX ds)),f7 (.tup (ksX s2)),f7 (.tup (ksX pt)),f7 (.bl ct),f7 (.int g),a6]/\yt (bs.map (·.2)) s2/\vS bs ct (λs=>if s=pt then 1 else 0) ds st=g+vS bs ct (λs=>if s=pt then 1 else 0) (ds.drop (i+1)) s2/\Kp K0 S S2) λv S'=>v=qv (vS bs ct (λs=>if s=pt then 1 else 0) ds st,1)/\Kp K0 S S':=by
     intro g' hg;refine zF ?_;ext;refine zI ⟨_,rfl,λz=>absurd z ∅,λ_=>zo ?_⟩;refine⟨s2,g',_,rfl,fw,?_,k2⟩;rw[hf,hg,Int.add_assoc];rfl
    cases ct with
    |true=>
     refine⟨λ_=> ?_,nofun⟩;ext;refine (zaq h9 hJ jz).imp ?_;rintro _ _ ⟨rfl,rfl⟩;ext;exact last rfl
    |false=>
     refine⟨nofun,λ_=>zo ?_⟩;exact last (Int.add_zero g).symm
   |pass=>
    unfold ddX;refine zh (zF (UP ?_));ext;refine zI ⟨_,rfl,λz=>absurd z ∅,λ_=>⟨nofun,λ_=>zo ?_⟩⟩;refine zF ?_;ext;refine zI ⟨_,rfl,λz=>absurd z ∅,λ_=>zo ?_⟩;refine⟨s2,g,_,rfl,fw,?_,k2⟩;rw[hf,show ddG bs ct s2 .pass=0 from rfl,y9];rfl
 .rintro ρ S2 ⟨s2,g,a6,rfl,fw,hf,k2⟩;rw[show (dsX ds).length=ds.length by simp[dsX],C9] at hf
  replace hf:vS bs ct (λs=>if s=pt then 1 else 0) ds st=g+(if s2=pt then 1 else 0):=hf
  ext;refine zha (zbo s2) (zbo pt) rfl (znR (n:=39) (by rw[fw.1,jv.1])) ?_;ext;refine WO.of (show zdq [.bl _] _=f7 (.int _,_) from rfl) ?_;ext;refine⟨?_,k2⟩;rw[hf,Bh];by_cases q:s2=pt
  .rw[if_pos q,decide_eq_true q];rfl
  .rw[if_neg q,decide_eq_false q];rfl
end
section
variable {fu mx:Nat} {S S' S2:Sto} {x y z:Xv} {ss:List Nat} {ln sn fn dn:Nat} {bs:List (Str×Nat)} {fs fs':List zC} {st pt:List Nat}
theorem znU {P:Xv->Sto->Prop} {F:List Nat->Q2} {ρ:Rho} {cap:List (Option Nat)} {m e:TwE} (hp:prd ss<=1000) (hm:W (m ρ S) λv S'=>∃(n:Nat) (L:List (List Nat)),v= .ref n/\S'[n]? =f7 (.lst (Uh L))/\ZN ss L/\S.length<=n/\Kp K0 S S')
  (he:∀st S2,yt ss st->W (e ((xM cap ρ).set 0 (f7 (.tup (ksX st)))) S2) λv S'=>v=qv (F st)/\Kp K0 S2 S')
  (k:∀(n:Nat) L S2,ZN ss L->S2[n]? =f7 (.lst ((L.map F).map qv))->S.length<=n->Kp K0 S S2->P (.ref n) S2):W (xh cap (iL m) (gN 0) yY e ρ S) P:=by
 refine xp (zdk (hm.imp ?_));rintro _ S1 ⟨n,L,rfl,hn,gl,iS,k1⟩;have m7:L.length<=1000:=by rw[gl.len];exact hp
 refine⟨_,zG hn,_,zG hn,?_⟩;refine yQ (by rw[Wc];exact v8 (zhw m7)) (λi es S2=>es=((L.take i).map F).map qv/\Kp K0 S1 S2) (λ_ _ _ _ ⟨_,e⟩=>zG (e.2 _ _ hn id)) ?_ ⟨by simp,Kp.refl _⟩ ?_
 .rintro i w0 fT S2 hw _ ⟨rfl,k2⟩;obtain⟨st,je,rfl⟩:=zf4 hw;refine .of rfl ?_;ext;refine⟨rfl,?_⟩;refine (he st S2 (gl.at_ i st je).1).imp ?_;rintro _ S3 ⟨rfl,k3⟩;refine⟨?_,k2.trans k3⟩;obtain⟨hi,e1⟩:=u9.1 je;rw[uO hi,w6,w6,e1];rfl
 .rintro fT S2 _ ⟨rfl,k2⟩;rw[Wc,A1];exact k _ L _ gl yF (by have:=k1.1;have:=k2.1;omega) ((k1.trans k2).trans (Kp.pre (ua _ _)))
noncomputable def ddW:Dd->Str
 | .set .. =>"set"
 | .gain _=>"gain"
 | .pass=>"pass"
theorem znV (h:Nat) {kd:Str} {rest:List Xv} (h1:kd≠"if") (h2:kd≠"while") (h3:kd≠"times") (h4:kd≠"hand"):To h (.tup (.str kd::rest)) [kd]:=⟨(kd,rest,[]),rfl,rfl,.inr (.inr (.inr ⟨h1,h2,h3,h4,rfl⟩)),λq hq=>by cases hq⟩
theorem zlU (h:Nat) (d:Dd):To h (ddX d) [ddW d]:=by
 cases d with
 |set lv b r=>exact znV h (kd:="set") ∅ ∅ ∅ ∅
 |gain o=>exact znV h (kd:="gain") ∅ ∅ ∅ ∅
 |pass=>exact zbr h
theorem zpp (d:Dd):ddW d≠"while":=by
 cases d with
 |set lv b r=>exact (show (Str.ofString "set")≠"while" by decide)
 |gain o=>exact (show (Str.ofString "gain")≠"while" by decide)
 |pass=>exact (show (Str.ofString "pass")≠"while" by decide)
noncomputable def ddP (d:Dd):Xv×List Str:=(ddX d,[ddW d])
theorem zqE (h:Nat) (ds:List Dd):Bl (h+1) (dsX ds) (ds.map ddW):=by
 have:=zcx (h:=h) (xs:=ds.map ddP) λp hp=>by
  obtain⟨d,_,rfl⟩:=x8.1 hp;exact zlU h d
 rw[C8,C8] at this;have e:∀l:List Dd,(l.map ((·.2) ∘ ddP)).flatten=l.map ddW:=λl=>by
  induction l with
  |nil=>rfl
  |cons d l ih=>rw[uE,A4,ih];rfl
 rw[e] at this;exact this
theorem znr {n:Nat} {lp:Xv} (h:Vh 4 10 lp) (ds es:List Dd) (hn:ds.length+es.length<=n):∃hs,Bl 5 (dsX ds++[lp]++dsX es) hs/\(Str.ofString "while")∈hs/\hs.length<=n+10:=by
 obtain⟨hs,it,hw,hl⟩:=h;have:=zcx (h:=4) (xs:=ds.map ddP++[(lp,hs)]++es.map ddP) λp hp=>by
  rcases AH.1 hp with hp|hp
  .rcases AH.1 hp with hp|hp
   .obtain⟨d,_,rfl⟩:=x8.1 hp;exact zlU 4 d
   .rw[uH] at hp;subst hp;exact it
  .obtain⟨d,_,rfl⟩:=x8.1 hp;exact zlU 4 d
 have e:∀l:List Dd,(l.map ((·.2) ∘ ddP)).flatten=l.map ddW:=λl=>by
  induction l with
  |nil=>rfl
  |cons d l ih=>rw[uE,A4,ih];rfl
 simp only[w6,C8,BJ,e,uE,CW,A4,B4,y0] at this;refine⟨_,this,?_,?_⟩
 .simp[hw]
 .simp;omega
theorem zlV {lb:List Xv} {hs:List Str} {n:Nat} {x1 x2 x3:Xv} (b:Bl n lb hs) (hn:n<=12) (hl:hs.length<=1000) (hw:(Str.ofString "while")∈hs):WE (wO fu [x1,.tup lb,x2,x3] S) (λ_ _=>False) λcl S'=>cl="NoBound"/\Kp K0 S S':=by
 refine zo1 rfl rfl ?_;dsimp only[uY,AO,B6,Bt,uJ];unfold ZY;refine zmN (zo0 ?_);ext;refine (zdI b hn hl).imp ?_;rintro _ S2 ⟨rfl,k2⟩;rw[decide_eq_true hw];refine⟨_,rfl,λ_=>zjg ?_,nofun⟩;ext;exact⟨rfl,k2⟩
theorem zjx {lb:List Xv} {hs:List Str} {n:Nat} {x1 x2 x3:Xv} (b:Bl n lb hs) (hn:n<=12) (hl:hs.length<=1000) (hw:(Str.ofString "while")∈hs):W (vg fu [x1,.tup lb,x2,x3] S) λv S'=>v= .bl ia/\Kp K0 S S':=by
 walk_at "wr";unfold Vc;ext;refine UQ (λρ S'=>∃a5 a6,ρ=[f7 x1,f7 (.tup lb),f7 x2,f7 x3,f7 (.tup [.bl ia,.bl ia,.bl kb]),a5,a6]/\Kp K0 S S') (zo2 (xs:=[x1,.tup lb,x2,x3]) rfl ((zlV b hn hl hw).imp ?_ ?_)) ?_
 .intro v S2 hp;exact hp.elim
 .rintro c S2 ⟨rfl,k2⟩;refine⟨by simp,?_⟩;dsimp only[ui];have e0:(S2++[Ce.exc "NoBound"])[S2.length]? =f7 (.exc "NoBound"):=yF;have hd:WS ((zq (zH (eUn (za4 (Yp [("NoBound",kb)])) (za 5)) (gN 6)) (zH (yz [(eUn (za4 (Yp [("NoBound",ia)])) (za 5)),(eUn (za4 (Yp [("NoBound",ia)])) (za 5)),(za 6)]) (gN 4))) [f7 x1,f7 (.tup lb),f7 x2,f7 x3,f7 (.tup []),f7 (.ref S2.length),gC] (S2++[Ce.exc "NoBound"])) (λρ' S'=>ρ'=[f7 x1,f7 (.tup lb),f7 x2,f7 x3,f7 (.tup [.bl ia,.bl ia,.bl kb]),f7 (.ref S2.length),f7 (.bl kb)]/\S'=S2++[Ce.exc "NoBound"]) (λ_ _=>False):=by
   ext;refine zhe (v:=kb) e0 rfl ?_;ext;refine zhe (v:=ia) e0 rfl ?_;ext;refine zhe (v:=ia) e0 rfl ?_;ext;exact⟨rfl,rfl⟩
  rcases hd with⟨ρ',S',e,rfl,rfl⟩|⟨_,_,_,z⟩
  .exact⟨_,_,e,_,_,rfl,k2.app⟩
  .exact z.elim
 .rintro _ S2 ⟨a5,a6,rfl,k2⟩;ext;refine zha (b:=ia) (d:= .tup [.bl ia,.bl ia,.bl kb]) (e:= .tup [.bl ia,.bl ia,.bl kb]) rfl rfl rfl rfl ?_;exact⟨rfl,k2⟩
theorem zpq (ez:Big fu) (h9:bs.length<=9) (h1:∀b∈bs,1<=b.2/\b.2<=9) (hz:∃st,yt (bs.map (·.2)) st) {a:Nat} {ds:List Dd} {ct:Bool} {f:List Nat->Int} (fe:∀d∈ds,zbb bs d) (hl:ds.length<=2) (h:yG sn fn dn (.tup (bsX bs)) fs S) (w:WF (bs.map (·.2)) fs) (ht:Tb S) (ha:TF (bs.map (·.2)) fs f a) (jL:∀st,yt (bs.map (·.2)) st->(f st).natAbs<=1) (hc:cst (bs.map (·.2)) (bs.map (·.2)).length<=400) (hf:fs.length<=800000):
  W (wO fu [.ref sn,.tup (dsX ds),.int (a:Int),.bl ct] S) (TFP (bs.map (·.2)) (vS bs ct f ds) sn fn dn (bsX bs) 10000 fs S):=by
 have hw:(Str.ofString "while")∉ds.map ddW:=λhm=>by
  obtain⟨d,_,e⟩:=x8.1 hm;exact zpp d e
 walk_at "wr";unfold ZY;refine zh (zF ?_);ext;refine (zdI (zqE 0 ds) ∅ (by rw[uw];omega)).imp ?_;rintro _ S2 ⟨rfl,k2⟩;rw[decide_eq_false hw];refine⟨_,rfl,nofun,λ_=>zo ?_⟩;ext;refine (zga ez h9 h1 hz fe hl (h.keep k2 id id id) w (ht.keep k2 λ_ _ _=>id) ha jL hc hf).imp ?_;rintro _ S3 ⟨r,cZ,rfl,t3,w3,g3⟩;exact⟨r,cZ,rfl,t3,w3,g3.st,g3.pre,g3.len,(k2.mono λ_ z=>z.elim).trans g3.kp⟩
end
section
variable {fu mx:Nat} {S S' S2:Sto} {x y z:Xv} {ss:List Nat} {bs:List (Str×Nat)} {ln sn fn dn:Nat} {fs fs':List zC} {st pt:List Nat}
theorem zns {P:Xv->Sto->Prop} {l:List Xv} (h:yx S x=f7 l) (k:P (.ref S.length) (S++[.lst l.reverse])):WO (Vu x S) P:= .of (by unfold Vu;rw[h];rfl) k
theorem zjy (l:List Int) (lo hi:Option Int):∃m:List Int,L2.Tq (l.map Xv.int) lo hi=m.map Xv.int/\m.length<=l.length:=by
 unfold L2.Tq;rw[<-Dv,<-Dw];exact⟨_,rfl,by rw[A6,AZ];omega⟩
theorem zpr:WF ss []:=⟨CB,λi lv ks e=>by simp at e⟩
theorem at3 {k:Int} {a b c:Str} (h0:0<=k) (h1:k<3):∃v:Str,atI [Xv.str a,.str b,.str c] k=f7 (.str v)/\(v=a\/v=b\/v=c):=by
 rcases (show k=0\/k=1\/k=2 by omega) with rfl|rfl|rfl
 .exact⟨a,rfl,.inl rfl⟩
 .exact⟨b,rfl,.inr (.inl rfl)⟩
 .exact⟨c,rfl,.inr (.inr rfl)⟩
theorem zqF {P:Xv->Sto->Prop} {ρ:Rho} {bx:Xv} (hv:ρ[2]? =f7 (f7 bx)) (k:∀S2,yG S.length (S.length+1) (S.length+2) bx [] S2->Kp K0 S S2->S2.length=S.length+3->P (.ref S.length) S2):W (zem "Store" (wu fu) [(za 2)] ρ S) P:=by
 refine zmH (zg (zj (by rw[hv]) (yI ?_)));refine (zpa (n:=S.length) yF bx).imp ?_;rintro _ S2 ⟨rfl,st,k2,len⟩;rw[uD,ux,A9] at st len;refine⟨rfl,k S2 st ⟨⋯,λn d e z=> ?_⟩ len⟩;have hn:=(u9.1 e).1;exact k2.2 _ _ (xn (ua _ _) e) ⋯
noncomputable def mkF (pt:List Nat):List Nat->Int:=λs=>if s=pt then 1 else 0
theorem zps (pt st:List Nat):(mkF pt st).natAbs<=1:=by
 unfold mkF;split<;>decide
theorem zqG {N:Rho->Sto->Prop} {x0:Xv} {a6 a7 a8:Option Xv} {lb:List Xv} {hs:List Str} {n m1 m2 a:Nat} {ds:List Dd} {ct:Bool} {L1 L2:List (List Nat)} (ez:Big fu) (h9:bs.length<=9) (h1:∀b∈bs,1<=b.2/\b.2<=9) (hp:prd (bs.map (·.2))<=18) (fe:∀d∈ds,zbb bs d) (hl:ds.length<=2) (b:Bl n lb hs) (hn:n<=12) (pF:hs.length<=1000) (hw:(Str.ofString "while")∈hs)
  (h:yG sn fn dn (.tup (bsX bs)) fs S) (w:WF (bs.map (·.2)) fs) (ht:Tb S) (ha:TF (bs.map (·.2)) fs (mkF pt) a) (hf:fs.length<=100) (g1:ZN (bs.map (·.2)) L1) (g2:ZN (bs.map (·.2)) L2) (e1:S[m1]? =f7 (.lst ((L1.map λst=>(mkF pt st,(1:Int))).map qv))) (e2:S[m2]? =f7 (.lst ((L2.map λst=>(vS bs ct (mkF pt) ds st,(1:Int))).map qv))) (q1:m1≠fn) (q2:m2≠fn):
  WS ((zq (Ws (iR1 (eC (.int 2))) (gN 6) (zq (sIf (Tp (bE (zD (vg fu) [(za 10),(za 9),(za 11),(za 4)]))) (zO (eC (.bl kb))) zN) (sIf (Tp (bE (zD (wg fu) [(za 10),(za 2),(zD (wO fu) [(za 10),(za 5),(za 11),(za 4)]),(za 13)]))) (zO (eC (.bl kb))) zN))) (zO (zD (wg fu) [(za 10),(za 2),(za 11),(za 12)]))) [f7 x0,f7 (.ref ln),f7 (.tup (bsX bs)),f7 (.tup (ksX pt)),f7 (.bl ct),f7 (.tup (dsX ds)),a6,a7,a8,f7 (.tup lb),f7 (.ref sn),f7 (.int (a:Int)),f7 (.ref m1),f7 (.ref m2)] S) N λv _=>v= .bl ia:=by
 have cb:=ziq h1 h9;have hc:=zpo cb ⋯;have hz:=zno cb;refine zh (vj (wU (za3 ⟨_,rfl,⟨∅,∅⟩,_,rfl,?_⟩)));refine xT (xs:=xL 0 2) (λi ρ S2=>∃(bC:List zC) (a6:Option Xv),ρ=[f7 x0,f7 (.ref ln),f7 (.tup (bsX bs)),f7 (.tup (ksX pt)),f7 (.bl ct),f7 (.tup (dsX ds)),a6,a7,a8,f7 (.tup lb),f7 (.ref sn),f7 (.int (a:Int)),f7 (.ref m1),f7 (.ref m2)]/\yG sn fn dn (.tup (bsX bs)) bC S2/\WF (bs.map (·.2)) bC/\Tb S2/\TF (bs.map (·.2)) bC (mkF pt) a/\bC.length<=100+i*10000/\S2[m1]? =f7 (.lst ((L1.map λst=>(mkF pt st,(1:Int))).map qv))/\S2[m2]? =f7 (.lst ((L2.map λst=>(vS bs ct (mkF pt) ds st,(1:Int))).map qv))) (λ_ _ _ _ _=>rfl) ?_ ⟨fs,a6,rfl,h,w,ht,ha,⋯,e1,e2⟩ ?_
 .rintro i w0 ρ S2 qW ⟨bC,a6,rfl,h2,w2,t2,f2,l2,e1,e2⟩;obtain⟨hi,rfl⟩:=xk qW;have tM:i*10000<=20000:=v5 _ (show i<=2 by omega);refine .of rfl ?_;dsimp only[ui];refine zh (zF (zee (vr (yl (zg (zj rfl (zg (zj rfl (zg (zj rfl (zg (zj rfl (yI ?_)))))))))))));refine (zjx b hn pF hw).imp ?_;rintro _ S3 ⟨rfl,k3⟩;refine⟨_,rfl,nofun,λ_=>zo ?_⟩;have h3:=h2.keep k3 id id id;refine zF (zee (vr (yl (zg (zj rfl (zg (zj rfl (zg (yl (zg (zj rfl (zg (zj rfl (zg (zj rfl (zg (zj rfl (yI ?_))))))))))))))))));have t3:=t2.keep k3 λ_ _ _=>id;refine (zpq ez h9 h1 hz fe hl h3 w2 t3 f2 (λst _=>zps pt st) hc ⋯).imp ?_;rintro _ S4 ⟨r,gL,rfl,f4,w4,g4⟩;have sP:=g4.kp.2 _ _ (k3.2 _ _ e1 id) (λz=>z.elim q1 λz=>h3.nd' (k3.2 _ _ e1 id) z);have pW:=g4.kp.2 _ _ (k3.2 _ _ e2 id) (λz=>z.elim q2 λz=>h3.nd' (k3.2 _ _ e2 id) z);refine zg (zj rfl (yI ?_));obtain⟨fr,er⟩:=f4.ex;refine (zdJ ez cb ⋯ g4.st w4 er (zf6.of g2 f4.va) pW).imp ?_;rintro _ S5 ⟨rfl,k5⟩;refine⟨_,rfl,nofun,λ_=>zo ?_⟩;have q4:=g4.len;exact⟨gL,_,rfl,g4.st.keep k5 id id id,w4,(t3.grown h3 g4).keep k5 λ_ _ _=>id,f2.mono g4.pre,by rw[Ad];omega,k5.2 _ _ sP id,k5.2 _ _ pW id⟩
 .rintro ρ S2 ⟨bC,a6,rfl,h2,w2,t2,f2,l2,e1,e2⟩;obtain⟨fr,er⟩:=f2.ex;refine yk (yl (zg (zj rfl (zg (zj rfl (zg (zj rfl (zg (zj rfl (yI ?_))))))))));refine (zdJ ez cb ⋯ h2 w2 er (zf6.of g1 f2.va) e1).imp ?_;rintro _ S5 ⟨rfl,_⟩;rfl
theorem zqH (ez:Big fu) (ns:List Int) (hl:ns.length<=63):W (zho fu [.ref 0] (.frz (ns.map Xv.int)::WZ.map .tab)) λv _=>v= .bl ia:=by
 have oK:Tb (Ce.frz (ns.map Xv.int)::WZ.map .tab):=⟨rfl,rfl,rfl,rfl,rfl⟩;have kR:yx (Ce.frz (ns.map Xv.int)::WZ.map .tab) (.ref 0)=f7 (ns.map Xv.int):=rfl;have qN:(Ce.frz (ns.map Xv.int)::WZ.map Ce.tab).length=6:=rfl;generalize (Ce.frz (ns.map Xv.int)::WZ.map Ce.tab)=Z at oK kR qN;walk_at "wr";unfold zhn;ext;refine zoW kR ?_;obtain⟨ms,em,m5⟩:=zjy ns gC (f7 200);rw[em];refine zns wc ?_;rw[<-Dh];have l0:zT 63 (Z++[Ce.lst (ms.map Xv.int)]).length ((Z++[Ce.lst (ms.map Xv.int)])++[Ce.lst (ms.reverse.map Xv.int)]):=⟨ms.reverse,yF,by rw[BG];omega⟩;have lN:=(oK.pre (ua _ [Ce.lst (ms.map Xv.int)])).pre (ua _ [Ce.lst (ms.reverse.map Xv.int)]);have nV:6<=(Z++[Ce.lst (ms.map Xv.int)]).length:=by rw[uD];omega
 generalize (Z++[Ce.lst (ms.map Xv.int)]).length=ln at l0 nV ⊢;generalize ((Z++[Ce.lst (ms.map Xv.int)])++[Ce.lst (ms.reverse.map Xv.int)])=S0 at l0 lN ⊢;ext;refine (znc (most:=18) ⋯ l0).imp ?_;rintro _ S1 ⟨bs,rfl,iG,jZ,rq,eZ,l1,k1⟩;have lN:=lN.keep k1 (λi _ _ e=>by omega);have cb:=ziq iG jZ
 try dsimp only[ui]
 ext;refine (zlA l1 jZ (λb hb=>(iG b hb).1)).imp ?_;rintro _ S2 ⟨pt,rfl,jv,l2,k2⟩;have lM:=lN.keep k2 (λi _ _ e=>by omega)
 try dsimp only[ui]
 ext;refine (yT l2 ∅).imp ?_;rintro _ S3 ⟨cc,rfl,_,_,l3,k3⟩;have mJ:=lM.keep k3 (λi _ _ e=>by omega);ext;generalize decide (cc=1)=ct;refine vj (wU ?_);ext;refine (yT l3 ∅).imp ?_;rintro _ S4 ⟨c4,rfl,tZ,tY,l4,k4⟩;have qf:=mJ.keep k4 (λi _ _ e=>by omega);refine⟨_,rfl,⟨⋯,⋯⟩,_,rfl,?_⟩;refine xT (xs:=xL 0 c4.toNat) (λi ρ S5=>∃(ds:List Dd) (a6 a7:Option Xv),ρ=[f7 (.ref 0),f7 (.ref ln),f7 (.tup (bsX bs)),f7 (.tup (ksX pt)),f7 (.bl ct),f7 (.tup (dsX ds)),a6,a7,gC,gC,gC,gC,gC,gC]/\ds.length=i/\(∀d∈ds,zbb bs d)/\zT 63 ln S5/\Tb S5) (λ_ _ _ _ _=>rfl) ?_ ⟨[],gC,gC,rfl,rfl,(λd hd=>by cases hd),l4,qf⟩ ?_
 .rintro i w0 ρ S5 hw ⟨ds,a6,a7,rfl,mq,fe,l5,mI⟩;obtain⟨hi,rfl⟩:=xk hw;have rJ:=l5.lt;refine .of rfl ?_;dsimp only[ui];refine zh (yd (ym (zef ?_)));ext;refine (yT l5.app ∅).imp ?_;rintro _ S6 ⟨k6,rfl,c0,c1,l6,kN⟩;have mH:=(mI.pre (ua _ _)).keep kN (λi _ _ e=>by omega);obtain⟨kd,ek,m8⟩:=at3 (a:="set") (b:="gain") (c:="pass") c0 c1;refine xU (zG (kN.2 _ _ yF (show ¬S5.length=ln by omega))) ek ?_
  try dsimp only[ui]
  refine yd (ym (zj rfl (Xo (zg (yl (zg (zj rfl (zg (zj rfl (zg (zj rfl (yI ?_))))))))))));refine (zcv l6 jZ iG eZ (by rcases m8 with rfl|rfl|rfl<;>decide)).imp ?_;rintro v S7 ⟨hv,l7,k7⟩;have mG:=mH.keep k7 (λi _ _ e=>by omega);have:∃d:Dd,v=ddX d/\zbb bs d:=by
   rcases hv with h|⟨h,_⟩
   .exact h
   .exfalso;rcases m8 with rfl|rfl|rfl
    .exact h.elim (λz=>absurd z ∅) λz=>z.1 rfl
    .exact h.elim (λz=>absurd z ∅) λz=>z.2.1 rfl
    .exact h.elim (λz=>absurd z ∅) λz=>z.2.2 rfl
  obtain⟨d,rfl,hd⟩:=this;ext;refine WQ (by simp[dsX];omega) ?_;dsimp only[ui];refine⟨ds++[d],_,_,by rw[show dsX (ds++[d])=dsX ds++[ddX d] from w6],by rw[uD,mq];rfl,λe he=> ?_,l7,mG⟩;rcases AH.1 he with he|he
  .exact fe e he
  .rw[uH] at he;subst he;exact hd
 rintro ρ S5 ⟨ds,a6,a7,rfl,mq,fe,l5,mI⟩;rw[zY] at mq;have lj:(dsX ds).length=ds.length:=by simp[dsX]
 refine zh (yd (yl (zg (zj rfl (zg (ym (xX (zg (zj rfl (yI (xF ?_)))))))))));rw[lj];ext;refine (yT l5 ⋯).imp ?_;rintro _ S6 ⟨at_,rfl,a0,a1,l6,k6⟩;have mH:=mI.keep k6 (λi _ _ e=>by omega);obtain⟨p,rfl⟩:∃p:Nat,at_=(p:Int):=⟨at_.toNat,⋯⟩
 try dsimp only[ui]
 refine zh (yd (ym (ym (zkY (zj rfl ?_)))));ext;refine zlD ?_;rw[zpf _ _ (by rw[lj];omega)];ext;refine (zpl l6 jZ iG eZ).imp ?_;rintro lp S7 ⟨j8,l7,k7⟩;have mG:=mH.keep k7 (λi _ _ e=>by omega);ext;refine WQ (by simp[dsX];omega) ?_;refine zkY (zj rfl ?_);ext;refine zlD ?_;rw[zlE _ _ (by rw[lj];omega)];refine WQ (by simp[dsX];omega) ?_;rw[show (dsX ds).take p=dsX (ds.take p) from Dw.symm,show (dsX ds).drop p=dsX (ds.drop p) from Dv.symm];obtain⟨hs,bl,km,pF⟩:=znr (n:=2) j8 (ds.take p) (ds.drop p) (by rw[A6,AZ];omega);generalize dsX (ds.take p)++[lp]++dsX (ds.drop p)=lb at bl ⊢
 try dsimp only[ui]
 refine zh (yd (zqF rfl λS8 mM k8 qt=> ?_));have qe:=mG.keep k8 (λ_ _ _=>id)
 try dsimp only[ui]
 refine zh (yd (ye ?_));ext;refine⟨_,_,rfl,mM.o,rfl,?_⟩;ext;refine (zng jZ iG jv mM zpr (B7 _)).imp ?_;rintro _ S9 ⟨a,sL,rfl,e9,v9,w9,g9⟩;have qd:=qe.grown mM g9
 have f9:TF (bs.map (·.2)) sL (mkF pt) a:=⟨e9,λst hs=>by
  have:=v9 st hs;rw[Ah,Ah] at this;rw[show (mkF pt st,(1:Int))=bQ (decide (st=pt)) by unfold mkF bQ;by_cases q:st=pt<;>simp[q]]
  exact this⟩
 have len9:=g9.kp.1;have q9:=g9.len;simp only[A9] at q9
 try dsimp only[ui]
 refine zh (yd (znU (F:=λst=>(mkF pt st,1)) ⋯ (yl (zg (zj rfl (yI (zct cb.toBx cb.l9 ⋯))))) ?_ ?_))
 .intro st S2 hs;dsimp only[xM,uY,ui];ext;refine zha (zbo st) (zbo pt) rfl (znR (n:=39) (by rw[hs.1,jv.1])) ?_;ext;refine WO.of (show zdq [.bl _] _=f7 (.int _,_) from rfl) ?_;ext;refine⟨?_,Kp.refl _⟩;rw[Bh];unfold mkF;by_cases q:st=pt
  .rw[if_pos q,decide_eq_true q];rfl
  .rw[if_neg q,decide_eq_false q];rfl
 intro tf L10 S10 oF nG rF mW
 try dsimp only[ui]
 refine zh (yd (znU (F:=λst=>(vS bs ct (mkF pt) ds st,1)) ⋯ (yl (zg (zj rfl (yI (zct cb.toBx cb.l9 ⋯))))) ?_ ?_))
 .intro st S2 hs;dsimp only[xM,uY,ui];ext;exact znq jZ iG eZ fe hs jv
 intro t9 L11 S11 oE nF rE mV;have oT:=mW.1;have mO:=(g9.st.keep mW id id id).keep mV id id id;have mK:=(qd.keep mW (λ_ _ _=>id)).keep mV (λ_ _ _=>id)
 try dsimp only[ui]
 exact zqG ez jZ iG ⋯ fe ⋯ bl ∅ ⋯ km mO w9 mK f9 ⋯ oF oE (mV.2 _ _ nG id) nF ⋯ ⋯
theorem zqI (ez:Big fu) (ns:List Int) (hl:ns.length<=63):∃S,zho fu [.ref 0] (.frz (ns.map Xv.int)::WZ.map .tab)=f7 (.ok (.bl ia) S):=by
 obtain⟨_,S,e,rfl⟩:=zqH ez ns hl;exact⟨S,e⟩
end
end
noncomputable def zeS:Nat:=2^9000
theorem zgc:Big zeS:=by unfold Big zeS;exact ug _
theorem zpt {P:Program} {w:World} {K:u5} {mg:Str->Option Value} {base:Heap} (T:Tx K mg) {ts cK:List Addr} (hT:zmS K ts WZ cK):ZP P w K mg base (CXE P w) 41 T.eT.a T.eT.fd ["_law_script"] (zcd K cK):=zmU (zmY (fu:=zeS) T) hT λns hl=>zqI zgc ns hl
noncomputable def zqJ {K:u5} {h:Heap} {mg:Str->Option Value} (X:K.In h) (G:h.Ns mainGlobals mg)
  {av:Addr}  {aI aU bA aH az b8 aV aS eL:Addr} {gQ:Option Addr} {gP:Nat} {gO:Array (Option Value)} {fB fA:Tok} {ig:Addr} {jH:Option Addr} {jG:Nat} {jF:Array (Option Value)} {ie ic:Tok}
  (aw:um K mainGlobals "Store"=f7 (f7 (.ref av)))
  (H2:FL K "common_part" Xp)
  (H3:FL K "lowest" zce)
  (H5:FL K "plus" zhh)
  (H8:FL K "place_of" Wu)
  (H9:FL K "worth" zes)
  (H10:FL K "reckoned" UT)
  (H12:FL K "blocks_of" Vy)
  (H13:FL K "deeds_within" Yr)
  (H14:FL K "stands_in" YY)
  (H15:FL K "is_bounded" Wv)
  (H18:FL K "fold_back" Vz)
  (H19:FL K "block_back" Ww)
  (H20:FL K "deed_back" VB)
  (H21:FL K "set_back" Ys)
  (H22:FL K "held_at_each" vE)
  (H25:FL K "worth_node" vF)
  (H28:ML K av "__init__" "Store.__init__" Zb)
  (H29:ML K av "number_of" "Store.number_of" vG)
  (H30:ML K av "leaf" "Store.leaf" Wx)
  (H31:ML K av "fork" "Store.fork" ZT)
  (H33:ML K av "level_of" "Store.level_of" Zc)
  (H34:ML K av "kids_of" "Store.kids_of" Zz)
  (H35:ML K av "kid_at" "Store.kid_at" Yt)
  (H36:ML K av "value_at" "Store.value_at" Zd)
  (H37:ML K av "added" "Store.added" wW)
  (H40:ML K av "reckoned_of" "Store.reckoned_of" yZ)
  (H41:ML K av "chosen_by" "Store.chosen_by" xC)
  (H42:ML K av "joined" "Store.joined" Yu)
  (H43:ML K av "joined_below" "Store.joined_below" yR)
  (H44:ML K av "leaf_by" "Store.leaf_by" xy)
  (H45:ML K av "choice_among" "Store.choice_among" wD)
  (H46:ML K av "fixed" "Store.fixed" Xq)
  (H47:ML K av "fixed_below" "Store.fixed_below" xG)
  (H49:ML K av "made" "Store.made" Wy)
  (H50:ML K av "made_behind" "Store.made_behind" xH)
  (H51:ML K av "point" "Store.point" Zl)
  (H53:FL K "_law_take" VC)
  (H54:FL K "_law_word" VD)
  (H55:FL K "_law_names" wN)
  (H56:FL K "_law_boxes" Wz)
  (H57:FL K "_law_state" ZU)
  (H58:FL K "_law_operand" Yv)
  (H59:FL K "_law_test" VE)
  (H60:FL K "_law_reckoning" Ze)
  (H61:FL K "_law_weights" vH)
  (H62:FL K "_law_simple" Xr)
  (H63:FL K "_law_worth" WA)
  (H64:FL K "_law_put" UU)
  (H65:FL K "_law_set" UV)
  (H66:FL K "_law_same" Zt)
  (H67:FL K "_law_whole" WB)
  (H68:FL K "_law_states" Zm)
  (H69:FL K "_law_loop" VF)
  (H70:FL K "_law_refused" Yw)
  (H71:FL K "_law_due" UW)
  (H72:FL K "_law_tells" ZV)
  (H73:FL K "law" zfQ)
  (gA:(vZ K ⟨gC,"set_back","set_back"⟩).isSome=ia)
  (fh:(vZ K ⟨gC,"worth_node","worth_node"⟩).isSome=ia)
  (eU:(vZ K ⟨f7 "Store","added","Store.added"⟩).isSome=ia)
  (dj:(vZ K ⟨f7 "Store","reckoned_of","Store.reckoned_of"⟩).isSome=ia)
  (dO:(vZ K ⟨f7 "Store","chosen_by","Store.chosen_by"⟩).isSome=ia)
  (iN:AY K av Str.empty=ia) (iM:Bm K av=ia) (iK:BU K av=ia) (iJ:uk K (.ref av) "__setattr__"=f7 (f7 (.builtin "object.__setattr__"))) (iZ:Cg K av=ia) (iW:Ag K (.ref av)=ia)
  (ax:uk K (.ref av) "boxes"=f7 gC)
  (bM:uk K (.ref av) "facts"=f7 gC)
  (bR:uk K (.ref av) "numbers"=f7 gC)
  (fj:um K mainGlobals "ValueError"=f7 gC)
  (lL:um K mainGlobals "abs"=f7 gC)
  (lK:um K mainGlobals "all"=f7 gC)
  (lJ:um K mainGlobals "any"=f7 gC)
  (ki:um K mainGlobals "bool"=f7 gC)
  (lI:um K mainGlobals "int"=f7 gC)
  (fi:um K mainGlobals "isinstance"=f7 gC)
  (lH:um K mainGlobals "len"=f7 gC)
  (kh:um K mainGlobals "list"=f7 gC)
  (lG:um K mainGlobals "max"=f7 gC)
  (lF:um K mainGlobals "min"=f7 gC)
  (jg:um K mainGlobals "range"=f7 gC)
  (gB:um K mainGlobals "reversed"=f7 gC)
  (lE:um K mainGlobals "str"=f7 gC)
  (jf:um K mainGlobals "tuple"=f7 gC)
  (jj:Bn K (.builtin "object.__class__") "__get__"=f7 (f7 (.builtin "getset_descriptor.__get__"))) (ji:Ci K (.builtin "object.__class__")=f7 ia)
  (aQ:um K mainGlobals "LotsError"=f7 (f7 (.ref aI))) (d5:Ae K aI [.type "ValueError",.type "Exception",.type "BaseException",.type "object"] "ValueError.__new__"=ia) (fF:uk K (.ref aI) "__getattribute__"=f7 (f7 (.builtin "BaseException.__getattribute__"))) (fD:uk K (.ref aI) "__getattr__"=f7 gC) (fW:An K aI=ia) (fS:uk K (.ref aI) "__class__"=f7 (f7 (.builtin "object.__class__"))) (fH:ub K aI (.type "object")=f7 ia) (cE:uR K (.ref aI)=f7 (.type "type")) (cg:ub K aI (.type "BaseException")=f7 ia) (d7:ub K aI (.type "ValueError")=f7 ia)
  (aK:um K mainGlobals "NoNumber"=f7 (f7 (.ref aU))) (dv:Ae K aU [.type "ValueError",.type "Exception",.type "BaseException",.type "object"] "ValueError.__new__"=ia) (gf:uk K (.ref aU) "__getattribute__"=f7 (f7 (.builtin "BaseException.__getattribute__"))) (fZ:uk K (.ref aU) "__getattr__"=f7 gC) (gx:An K aU=ia) (gu:uk K (.ref aU) "__class__"=f7 (f7 (.builtin "object.__class__"))) (gk:ub K aU (.type "object")=f7 ia) (cO:uR K (.ref aU)=f7 (.type "type")) (cX:ub K aU (.type "BaseException")=f7 ia) (dz:ub K aU (.type "ValueError")=f7 ia)
  (bq:um K mainGlobals "NoText"=f7 (f7 (.ref bA))) (eG:Ae K bA [.type "ValueError",.type "Exception",.type "BaseException",.type "object"] "ValueError.__new__"=ia) (ip:uk K (.ref bA) "__getattribute__"=f7 (f7 (.builtin "BaseException.__getattribute__"))) (ik:uk K (.ref bA) "__getattr__"=f7 gC) (iO:An K bA=ia) (iI:uk K (.ref bA) "__class__"=f7 (f7 (.builtin "object.__class__"))) (iq:ub K bA (.type "object")=f7 ia) (dG:uR K (.ref bA)=f7 (.type "type")) (dM:ub K bA (.type "BaseException")=f7 ia) (eI:ub K bA (.type "ValueError")=f7 ia)
  (aC:um K mainGlobals "NoProgram"=f7 (f7 (.ref aH))) (d4:Ae K aH [.type "ValueError",.type "Exception",.type "BaseException",.type "object"] "ValueError.__new__"=ia) (fE:uk K (.ref aH) "__getattribute__"=f7 (f7 (.builtin "BaseException.__getattribute__"))) (fC:uk K (.ref aH) "__getattr__"=f7 gC) (fU:An K aH=ia) (fR:uk K (.ref aH) "__class__"=f7 (f7 (.builtin "object.__class__"))) (fG:ub K aH (.type "object")=f7 ia) (cD:uR K (.ref aH)=f7 (.type "type")) (cJ:ub K aH (.type "BaseException")=f7 ia) (d6:ub K aH (.type "ValueError")=f7 ia)
  (aq:um K mainGlobals "NoBound"=f7 (f7 (.ref az))) (d9:Ae K az [.type "ValueError",.type "Exception",.type "BaseException",.type "object"] "ValueError.__new__"=ia) (gU:uk K (.ref az) "__getattribute__"=f7 (f7 (.builtin "BaseException.__getattribute__"))) (gS:uk K (.ref az) "__getattr__"=f7 gC) (i5:An K az=ia) (hX:uk K (.ref az) "__class__"=f7 (f7 (.builtin "object.__class__"))) (gX:ub K az (.type "object")=f7 ia) (de:uR K (.ref az)=f7 (.type "type")) (dh:ub K az (.type "BaseException")=f7 ia) (da:ub K az (.type "ValueError")=f7 ia)
  (aX:um K mainGlobals "TooMany"=f7 (f7 (.ref b8))) (dP:Ae K b8 [.type "ValueError",.type "Exception",.type "BaseException",.type "object"] "ValueError.__new__"=ia) (gT:uk K (.ref b8) "__getattribute__"=f7 (f7 (.builtin "BaseException.__getattribute__"))) (gR:uk K (.ref b8) "__getattr__"=f7 gC) (hZ:An K b8=ia) (hW:uk K (.ref b8) "__class__"=f7 (f7 (.builtin "object.__class__"))) (gW:ub K b8 (.type "object")=f7 ia) (dc:uR K (.ref b8)=f7 (.type "type")) (dg:ub K b8 (.type "BaseException")=f7 ia) (dR:ub K b8 (.type "ValueError")=f7 ia)
  (aL:um K mainGlobals "HandLeft"=f7 (f7 (.ref aV))) (dw:Ae K aV [.type "ValueError",.type "Exception",.type "BaseException",.type "object"] "ValueError.__new__"=ia) (gg:uk K (.ref aV) "__getattribute__"=f7 (f7 (.builtin "BaseException.__getattribute__"))) (g6:uk K (.ref aV) "__getattr__"=f7 gC) (gy:An K aV=ia) (gv:uk K (.ref aV) "__class__"=f7 (f7 (.builtin "object.__class__"))) (gm:ub K aV (.type "object")=f7 ia) (cQ:uR K (.ref aV)=f7 (.type "type")) (cY:ub K aV (.type "BaseException")=f7 ia) (dA:ub K aV (.type "ValueError")=f7 ia)
  (aJ:um K mainGlobals "NoneKept"=f7 (f7 (.ref aS))) (du:Ae K aS [.type "ValueError",.type "Exception",.type "BaseException",.type "object"] "ValueError.__new__"=ia) (g8:uk K (.ref aS) "__getattribute__"=f7 (f7 (.builtin "BaseException.__getattribute__"))) (fY:uk K (.ref aS) "__getattr__"=f7 gC) (gw:An K aS=ia) (gs:uk K (.ref aS) "__class__"=f7 (f7 (.builtin "object.__class__"))) (gj:ub K aS (.type "object")=f7 ia) (cN:uR K (.ref aS)=f7 (.type "type")) (cW:ub K aS (.type "BaseException")=f7 ia) (dy:ub K aS (.type "ValueError")=f7 ia)
  (bg:ub K az (.ref aI)=f7 ia)
  (aZ:ub K az (.ref aU)=f7 kb)
  (bh:ub K az (.ref bA)=f7 kb)
  (aW:ub K az (.ref aH)=f7 kb)
  (ao:ub K az (.ref az)=f7 ia)
  (b9:ub K az (.ref b8)=f7 kb)
  (b0:ub K az (.ref aV)=f7 kb)
  (aY:ub K az (.ref aS)=f7 kb)
  (cM:um K mainGlobals "NOUGHT"=f7 (f7 (.ref eL)))
  (iz:K.lookup eL=f7 ⟨.type "tuple",gQ,.seq #[.int 0 fB,.int 1 fA] gP,gO⟩)
  (f6:um K mainGlobals "ONE"=f7 (f7 (.ref ig)))
  (kM:K.lookup ig=f7 ⟨.type "tuple",jH,.seq #[.int 1 ie,.int 1 ic] jG,jF⟩):Tx K mg:={c5:=H2.to X G (λ_ _ _ _ _ _=>at_ λ_=>at_ λ_=>at0 rfl),dJ:=H3.to X G (λ_ _ _ _ _ _=>at_ λ_=>at_ λ_=>at0 rfl),fg:=H5.to X G (λ_ _ _ _ _ _=>at_ λ_=>at_ λ_=>at0 rfl),cB:=H8.to X G (λ_ _ _ _ _ _=>at_ λ_=>at_ λ_=>at0 rfl),df:=H9.to X G (λ_ _ _ _ _ _=>at_ λ_=>at_ λ_=>at_ λ_=>at0 rfl),cS:=H10.to X G (λ_ _ _ _ _ _=>at_ λ_=>at_ λ_=>at_ λ_=>at0 rfl),cH:=H12.to X G (λ_ _ _ _ _ _=>at_ λ_=>at0 rfl),bj:=H13.to X G (λ_ _ _ _ _ _=>at_ λ_=>at0 rfl),cF:=H14.to X G (λ_ _ _ _ _ _=>at_ λ_=>at_ λ_=>at0 rfl),cu:=H15.to X G (λ_ _ _ _ _ _=>at_ λ_=>at0 rfl),bI:=H18.to X G (λ_ _ _ _ _ _=>at_ λ_=>at_ λ_=>at_ λ_=>at_ λ_=>at0 rfl),bu:=H19.to X G (λ_ _ _ _ _ _=>at_ λ_=>at_ λ_=>at_ λ_=>at_ λ_=>at0 rfl),cG:=H20.to X G (λ_ _ _ _ _ _=>at_ λ_=>at_ λ_=>at_ λ_=>at_ λ_=>at0 rfl),cA:=H21.to X G (λ_ _ _ _ _ _=>at_ λ_=>at_ λ_=>at_ λ_=>at_ λ_=>at0 rfl),bV:=H22.to X G (λ_ _ _ _ _ _=>at_ λ_=>at_ λ_=>at_ λ_=>at0 rfl),bU:=H25.to X G (λ_ _ _ _ _ _=>at_ λ_=>at_ λ_=>at0 rfl),bp:=H28.to (λ_ _ _ _ _ _=>at_ λ_=>at_ λ_=>at0 rfl),fK:=⟨iZ,(H28.to (ps:=["self","boxes"]) (λ_ _ _ _ _ _=>at_ λ_=>at_ λ_=>at0 rfl)).mt.at_,(H28.to (ps:=["self","boxes"]) (λ_ _ _ _ _ _=>at_ λ_=>at_ λ_=>at0 rfl)).mt.fn,iW⟩,aD:=H29.to (λ_ _ _ _ _ _=>at_ λ_=>at_ λ_=>at0 rfl),aE:=H30.to (λ_ _ _ _ _ _=>at_ λ_=>at_ λ_=>at0 rfl),aF:=H31.to (λ_ _ _ _ _ _=>at_ λ_=>at_ λ_=>at_ λ_=>at0 rfl),ak:=H33.to (λ_ _ _ _ _ _=>at_ λ_=>at_ λ_=>at0 rfl),aB:=H34.to (λ_ _ _ _ _ _=>at_ λ_=>at_ λ_=>at0 rfl),b7:=H35.to (λ_ _ _ _ _ _=>at_ λ_=>at_ λ_=>at_ λ_=>at_ λ_=>at0 rfl),bo:=H36.to (λ_ _ _ _ _ _=>at_ λ_=>at_ λ_=>at_ λ_=>at0 rfl),bF:=H37.to (λ_ _ _ _ _ _=>at_ λ_=>at_ λ_=>at_ λ_=>at0 rfl),aG:=H40.to (λ_ _ _ _ _ _=>at_ λ_=>at_ λ_=>at_ λ_=>at0 rfl),aR:=H41.to (λ_ _ _ _ _ _=>at_ λ_=>at_ λ_=>at_ λ_=>at0 rfl),aA:=H42.to (λ_ _ _ _ _ _=>at_ λ_=>at_ λ_=>at_ λ_=>at_ λ_=>at0 rfl),aO:=H43.to (λ_ _ _ _ _ _=>at_ λ_=>at_ λ_=>at_ λ_=>at_ λ_=>at0 rfl),bB:=H44.to (λ_ _ _ _ _ _=>at_ λ_=>at_ λ_=>at_ λ_=>at0 rfl),aP:=H45.to (λ_ _ _ _ _ _=>at_ λ_=>at_ λ_=>at0 rfl),bP:=H46.to (λ_ _ _ _ _ _=>at_ λ_=>at_ λ_=>at_ λ_=>at_ λ_=>at0 rfl),ay:=H47.to (λ_ _ _ _ _ _=>at_ λ_=>at_ λ_=>at_ λ_=>at_ λ_=>at_ λ_=>at0 rfl),bw:=H49.to (λ_ _ _ _ _ _=>at_ λ_=>at_ λ_=>at_ λ_=>at0 rfl),aj:=H50.to (λ_ _ _ _ _ _=>at_ λ_=>at_ λ_=>at_ λ_=>at_ λ_=>at0 rfl),bO:=H51.to (λ_ _ _ _ _ _=>at_ λ_=>at_ λ_=>at0 rfl),af:=H53.to X G (λ_ _ _ _ _ _=>at_ λ_=>at_ λ_=>at0 rfl),cf:=H54.to X G (λ_ _ _ _ _ _=>at_ λ_=>at_ λ_=>at0 rfl),cy:=H55.to X G (λ_ _ _ _ _ _=>at_ λ_=>at_ λ_=>at0 rfl),cz:=H56.to X G (λ_ _ _ _ _ _=>at_ λ_=>at_ λ_=>at0 rfl),cx:=H57.to X G (λ_ _ _ _ _ _=>at_ λ_=>at_ λ_=>at0 rfl),aN:=H58.to X G (λ_ _ _ _ _ _=>at_ λ_=>at_ λ_=>at0 rfl),bS:=H59.to X G (λ_ _ _ _ _ _=>at_ λ_=>at_ λ_=>at0 rfl),bL:=H60.to X G (λ_ _ _ _ _ _=>at_ λ_=>at_ λ_=>at_ λ_=>at0 rfl),bW:=H61.to X G (λ_ _ _ _ _ _=>at_ λ_=>at_ λ_=>at0 rfl),bN:=H62.to X G (λ_ _ _ _ _ _=>at_ λ_=>at_ λ_=>at_ λ_=>at0 rfl),bK:=H63.to X G (λ_ _ _ _ _ _=>at_ λ_=>at_ λ_=>at_ λ_=>at0 rfl),cU:=H64.to X G (λ_ _ _ _ _ _=>at_ λ_=>at_ λ_=>at_ λ_=>at_ λ_=>at0 rfl),cT:=H65.to X G (λ_ _ _ _ _ _=>at_ λ_=>at_ λ_=>at_ λ_=>at0 rfl),bJ:=H66.to X G (λ_ _ _ _ _ _=>at_ λ_=>at_ λ_=>at0 rfl),cw:=H67.to X G (λ_ _ _ _ _ _=>at_ λ_=>at0 rfl),bD:=H68.to X G (λ_ _ _ _ _ _=>at_ λ_=>at0 rfl),cI:=H69.to X G (λ_ _ _ _ _ _=>at_ λ_=>at_ λ_=>at0 rfl),bY:=H70.to X G (λ_ _ _ _ _ _=>at_ λ_=>at_ λ_=>at_ λ_=>at_ λ_=>at0 rfl),cV:=H71.to X G (λ_ _ _ _ _ _=>at_ λ_=>at_ λ_=>at_ λ_=>at_ λ_=>at_ λ_=>at0 rfl),bX:=H72.to X G (λ_ _ _ _ _ _=>at_ λ_=>at_ λ_=>at_ λ_=>at_ λ_=>at0 rfl),eT:=H73.to X G (λ_ _ _ _ _ _=>at_ λ_=>at0 rfl),eF:=gA,dX:=H21.choose_spec.1,dF:=fh,dq:=H25.choose_spec.1,dm:=eU,ck:=dj,cC:=dO,aw:=av,gE:=uT X G aw,a9:=⟨iN,iM,iK,iJ⟩,ai:=aw,ax:=ax,bM:=bM,bR:=bR,dH:=uV X G fj,iy:=uV X G lL,fJ:=uV X G lK,iw:=uV X G lJ,gp:=uV X G ki,fI:=uV X G lI,au:=uV X G fi,bH:=uV X G lH,eM:=uV X G kh,jn:=uV X G lG,iu:=uV X G lF,aM:=uV X G jg,dB:=uV X G gB,gD:=uV X G lE,cq:=uV X G jf,aQ:=aI,dZ:=uT X G aQ,d5:=⟨uT X G aQ,d5⟩,e8:=⟨fF,fD,cg,fW,fS,jj,ji,fH⟩,cE:=cE,cg:=cg,d7:=d7,aK:=aU,eO:=uT X G aK,dv:=⟨uT X G aK,dv⟩,eR:=⟨gf,fZ,cX,gx,gu,jj,ji,gk⟩,cO:=cO,cX:=cX,dz:=dz,bq:=bA,fL:=uT X G bq,eG:=⟨uT X G bq,eG⟩,fN:=⟨ip,ik,dM,iO,iI,jj,ji,iq⟩,dG:=dG,dM:=dM,eI:=eI,aC:=aH,dY:=uT X G aC,d4:=⟨uT X G aC,d4⟩,e7:=⟨fE,fC,cJ,fU,fR,jj,ji,fG⟩,cD:=cD,cJ:=cJ,d6:=d6,aq:=az,eW:=uT X G aq,d9:=⟨uT X G aq,d9⟩,cL:=⟨gU,gS,dh,i5,hX,jj,ji,gX⟩,de:=de,dh:=dh,da:=da,aX:=b8,eV:=uT X G aX,dP:=⟨uT X G aX,dP⟩,eX:=⟨gT,gR,dg,hZ,hW,jj,ji,gW⟩,dc:=dc,dg:=dg,dR:=dR,aL:=aV,eP:=uT X G aL,dw:=⟨uT X G aL,dw⟩,eS:=⟨gg,g6,cY,gy,gv,jj,ji,gm⟩,cQ:=cQ,cY:=cY,dA:=dA,aJ:=aS,eN:=uT X G aJ,du:=⟨uT X G aJ,du⟩,eQ:=⟨g8,fY,cW,gw,gs,jj,ji,gj⟩,cN:=cN,cW:=cW,dy:=dy,bZ:=aq,bg:=bg,aZ:=aZ,bh:=bh,aW:=aW,ao:=ao,b9:=b9,b0:=b0,aY:=aY,cM:=eL,fM:=uT X G cM,fV:=λH=> .inr ⟨_,_,_,iz,rfl,rfl,by show 2<=sizeLine;decide,(.cons ⟨_,rfl⟩ (.cons ⟨_,rfl⟩ .nil))⟩,f6:=ig,jo:=uT X G f6,jD:=λH=> .inr ⟨_,_,_,kM,rfl,rfl,by show 2<=sizeLine;decide,(.cons ⟨_,rfl⟩ (.cons ⟨_,rfl⟩ .nil))⟩}
theorem zpu {l:Cp} {w:World} {K:u5} {mg:Str->Option Value} {fa:Addr} {ts:List Addr} (hB:zdt K ts WZ=ia) (se:mg "law"=f7 (.ref fa)) (T:Tx K mg):
  ∃fd:FuncData,(∀(s:Shared) (v:Value),BindsTo s fd ⟨[v],[]⟩ [("_law_script",v)])/\∀base:Heap,K.In base->base.Ns mainGlobals mg->ZP l.prog w K mg base (CXE l.prog w) 41 fa fd ["_law_script"] (zcd K (Vx K WZ)):=by
 have e:=zo8 T.eT (λ_ _=>trivial) se;subst e
 exact⟨_,λs v=>by
  obtain⟨_,_,_,_,_,_,_,_,_,e,_⟩:=T.eT.F.ex;rw[e]
  exact .of_eq rfl,λbase _ _=>zpt T (zig hB)⟩
theorem zqV {l:Cp} {q:Program} {loose:List Str} {XP:(Str->Option Value)->Heap->Prop} {YP:World->Heap->Prop} {d:DefRec} {K:Params->u5} {ts:List Addr} (hn:l.most=f7 63) (lq:d.params.defaults=[])
  (hY:∀(w:World) (h:Heap),YP w h->(K w.params).In h/\∀P∈ts,h.get? P=f7 (AW #[])) (hB:∀w:World,zdt (K w.params) ts WZ=ia)
  (F:∀(w:World) (mg:Str->Option Value) (fa:Addr) (h:Heap),zdt (K w.params) ts WZ=ia->(K w.params).In h->h.Ns mainGlobals mg->mg d.name=f7 (.ref fa)->
   ∃fd:FuncData,(∀(s:Shared) (u:Value),BindsTo s fd ⟨[u],[]⟩ [("_law_script",u)])/\∀base:Heap,(K w.params).In base->base.Ns mainGlobals mg->ZP l.prog w (K w.params) mg base (CXE l.prog w) 41 fa fd ["_law_script"] (zcd (K w.params) (Vx (K w.params) WZ))) (o5:importsNone q=ia) (iA:l.prog.given.tree=gC):
  Dt q loose XP YP l.row.toRowW d [] (λf vs=>Dj f vs):=
 L2.zll (n:=63) (k:=41) (x:="_law_script") (CX:=λw=>CXE l.prog w) hn ∅ lq ⟨rfl,∅,∅,rfl⟩ hY hB (λw mg fa h=>F w mg fa h (hB w)) (λ_ _ _ _ _ ⟨_,_,_,_,_,z⟩=>z) o5 iA
end Prf
open PySem PySem.W PyProof.Rows
local macro_rules | `(tactic| walk_at "fl") => `(tactic| exact Prf.zql (by k_is) (by k_is) (by k_is) (by k_is))
local macro_rules | `(tactic| walk_at "ml") => `(tactic| exact Prf.zqm (by k_is) (by k_is) (by k_is) (by k_is) (by k_is))
set_option maxRecDepth 100000 in
set_option maxHeartbeats 0 in
theorem PySem.Challenge.cw_lots_k48_loops_not_folded_holds : PySem.Challenge.rw_lots_k48_loops_not_folded.Holds := by
 w_on;o_law;k_head;(case hw=>w_witness2)
 k_fill
 refine Prf.zqV (l:=PySem.Challenge.rw_lots_k48_loops_not_folded) rfl rfl (λw h Y=>⟨PySem.W.km_in_of Y,PySem.W.km_tabs_of Y⟩) ?B ?F ?I rfl
 case I=>kernel_rfl
 case B=>intro w;kernel_rfl
 case F=>
  intro w mg fa h hB KX G jS;refine Prf.zpu hB jS ?_;apply Prf.zqJ KX G
  k_is
  iterate 16 walk_at "fl"
  iterate 20 walk_at "ml"
  iterate 21 walk_at "fl"
  iterate 5 kernel_rfl
  iterate 27 k_is
  k_exc
  iterate 9 k_is
  k_exc
  iterate 9 k_is
  k_exc
  iterate 9 k_is
  k_exc
  iterate 9 k_is
  k_exc
  iterate 9 k_is
  k_exc
  iterate 9 k_is
  k_exc
  iterate 9 k_is
  k_exc
  iterate 20 k_is
