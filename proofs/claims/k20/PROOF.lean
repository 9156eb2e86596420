import PyProof.Rows.All
import Wide.All
import OpenK.AllK
import Wide.FinOn
import Lean
import PyProof.EqAt
import PyProof.EqKinds
import PyProof.TupleCall
import PySem.Challenge.RW_lots_k20_rows_read
set_option Elab.async false
set_option linter.all false
set_option maxRecDepth 100000
local macro_rules | `(tactic| omega) => `(tactic| first | with_reducible assumption | lia | omega +splitDisjunctions)
namespace PySem.W.Fast
theorem tw10083608489805064219:True:=trivial
theorem tw10095809573399444582:True:=trivial
theorem tw10257777931855433066:True:=trivial
theorem tw10290253931586604604:True:=trivial
theorem tw10297989457423587864:True:=trivial
theorem tw1032046402368954837:True:=trivial
theorem tw10505293879455675223:True:=trivial
theorem tw10532931215887805417:True:=trivial
theorem tw10554613796926431573:True:=trivial
theorem tw10613915346021493827:True:=trivial
theorem tw1074233063568167729:True:=trivial
theorem tw10772505549294464461:True:=trivial
theorem tw10809644095771541108:True:=trivial
theorem tw10817647476609831465:True:=trivial
theorem tw10894675575734140341:True:=trivial
theorem tw10907452794856075236:True:=trivial
theorem tw1100271410071761049:True:=trivial
theorem tw11106578832564546819:True:=trivial
theorem tw11167672417306194050:True:=trivial
theorem tw11201663562795231572:True:=trivial
theorem tw11224675702996161170:True:=trivial
theorem tw11235363821448126821:True:=trivial
theorem tw11261677572820595482:True:=trivial
theorem tw11271791475610140789:True:=trivial
theorem tw11345569495044985656:True:=trivial
theorem tw1138048292706736053:True:=trivial
theorem tw11430206507997163642:True:=trivial
theorem tw11553149200277648055:True:=trivial
theorem tw11705372160326262332:True:=trivial
theorem tw11749214801556277553:True:=trivial
theorem tw11838131184266745929:True:=trivial
theorem tw11841278301131213419:True:=trivial
theorem tw11849070819875938006:True:=trivial
theorem tw11883415259808043963:True:=trivial
theorem tw11927027997526210688:True:=trivial
theorem tw119334222151811931:True:=trivial
theorem tw11937735502630433264:True:=trivial
theorem tw1198116891950008670:True:=trivial
theorem tw12094275251378478787:True:=trivial
theorem tw12148991177329706840:True:=trivial
theorem tw12159915771036311134:True:=trivial
theorem tw12177663501204651866:True:=trivial
theorem tw12188378799741519227:True:=trivial
theorem tw12199551113230916275:True:=trivial
theorem tw12286710326963141633:True:=trivial
theorem tw12332531645588412854:True:=trivial
theorem tw12348051898736519582:True:=trivial
theorem tw12505718356398303645:True:=trivial
theorem tw12686552255455700630:True:=trivial
theorem tw12694941193141804481:True:=trivial
theorem tw12844014385095908490:True:=trivial
theorem tw12956786963986664308:True:=trivial
theorem tw12994043008632691106:True:=trivial
theorem tw13009719736920410033:True:=trivial
theorem tw13025571421134946950:True:=trivial
theorem tw13072635352866224461:True:=trivial
theorem tw13150151896290470646:True:=trivial
theorem tw13188484541682933852:True:=trivial
theorem tw13201760626611898090:True:=trivial
theorem tw1322794856911721659:True:=trivial
theorem tw13265805717064032133:True:=trivial
theorem tw13269274923376525602:True:=trivial
theorem tw13352245424629856413:True:=trivial
theorem tw13353163835798309328:True:=trivial
theorem tw13424750126561432129:True:=trivial
theorem tw13493531897617173429:True:=trivial
theorem tw13495216506768557430:True:=trivial
theorem tw13534361111820873863:True:=trivial
theorem tw13540794721893719060:True:=trivial
theorem tw13581214365519985309:True:=trivial
theorem tw13617312746318174057:True:=trivial
theorem tw13617690856002182855:True:=trivial
theorem tw1368184074226380602:True:=trivial
theorem tw13719211206690745144:True:=trivial
theorem tw13840115494687936678:True:=trivial
theorem tw13845982663084200408:True:=trivial
theorem tw13867064637995790086:True:=trivial
theorem tw13884706331288346842:True:=trivial
theorem tw13888972901609204622:True:=trivial
theorem tw13976421375113539258:True:=trivial
theorem tw13989039931962183836:True:=trivial
theorem tw14044546886404003057:True:=trivial
theorem tw14045896108539090466:True:=trivial
theorem tw14058952243212805460:True:=trivial
theorem tw14073463286599101337:True:=trivial
theorem tw14089521752922695956:True:=trivial
theorem tw14212724932672231713:True:=trivial
theorem tw14243720736588945439:True:=trivial
theorem tw14374642205164092954:True:=trivial
theorem tw14405728179005813485:True:=trivial
theorem tw14466948171783800875:True:=trivial
theorem tw14532702530171878028:True:=trivial
theorem tw1456524518843831539:True:=trivial
theorem tw14583281981002739738:True:=trivial
theorem tw14601873435122907128:True:=trivial
theorem tw14664978003976148482:True:=trivial
theorem tw14704050978843805709:True:=trivial
theorem tw14760439538506415826:True:=trivial
theorem tw14795627265592922890:True:=trivial
theorem tw14800594577063055725:True:=trivial
theorem tw14944361191978854911:True:=trivial
theorem tw14975614386280712741:True:=trivial
theorem tw15095645120256620245:True:=trivial
theorem tw15116964706574031398:True:=trivial
theorem tw15176709313275458028:True:=trivial
theorem tw15192322228952114072:True:=trivial
theorem tw15210413560953840507:True:=trivial
theorem tw15214510581577378834:True:=trivial
theorem tw15215069268198284574:True:=trivial
theorem tw15272757868616210063:True:=trivial
theorem tw1531647000781162259:True:=trivial
theorem tw15363171706510576231:True:=trivial
theorem tw15370982944133897984:True:=trivial
theorem tw15437139807030731688:True:=trivial
theorem tw15573846188648699172:True:=trivial
theorem tw15592371246954744096:True:=trivial
theorem tw15697008244301345911:True:=trivial
theorem tw15796130624050933393:True:=trivial
theorem tw15815585070683237486:True:=trivial
theorem tw15892956897779681130:True:=trivial
theorem tw15900470666554273100:True:=trivial
theorem tw15903626730944197474:True:=trivial
theorem tw1591698505672606632:True:=trivial
theorem tw1594623257403639306:True:=trivial
theorem tw15953836773299126114:True:=trivial
theorem tw15982377515934820307:True:=trivial
theorem tw15983816147769561142:True:=trivial
theorem tw1599903303589263356:True:=trivial
theorem tw16039156759704369270:True:=trivial
theorem tw16062149637950299837:True:=trivial
theorem tw16063890262721488574:True:=trivial
theorem tw161877832771512431:True:=trivial
theorem tw16243242410551758514:True:=trivial
theorem tw16275674034052260804:True:=trivial
theorem tw16280875361441657771:True:=trivial
theorem tw16290297331676880892:True:=trivial
theorem tw16299889251367633275:True:=trivial
theorem tw16366474349416677268:True:=trivial
theorem tw16463993627239861546:True:=trivial
theorem tw16526527230941679221:True:=trivial
theorem tw16543053933163589340:True:=trivial
theorem tw16550719418439846448:True:=trivial
theorem tw16604853714266397955:True:=trivial
theorem tw16645023393210384160:True:=trivial
theorem tw16713253230521897645:True:=trivial
theorem tw16760322051035006107:True:=trivial
theorem tw16765855253204703573:True:=trivial
theorem tw16801252674954042776:True:=trivial
theorem tw16872542657552066040:True:=trivial
theorem tw17033428207961774390:True:=trivial
theorem tw1703358492584237639:True:=trivial
theorem tw17084569653199793547:True:=trivial
theorem tw17089271430749318252:True:=trivial
theorem tw1715381497137149213:True:=trivial
theorem tw17218763260361484666:True:=trivial
theorem tw17256714413037785693:True:=trivial
theorem tw17263487216450902936:True:=trivial
theorem tw1733485030721876510:True:=trivial
theorem tw1739916804811141634:True:=trivial
theorem tw17415145821320321542:True:=trivial
theorem tw17458669999520983321:True:=trivial
theorem tw17478535458745972501:True:=trivial
theorem tw17656107105498243378:True:=trivial
theorem tw17704350210713987268:True:=trivial
theorem tw17707466013922794520:True:=trivial
theorem tw17824587326137727323:True:=trivial
theorem tw17868115407467379571:True:=trivial
theorem tw17966984700465641751:True:=trivial
theorem tw17986436376269096051:True:=trivial
theorem tw17993883154181905230:True:=trivial
theorem tw18067573669307686242:True:=trivial
theorem tw18073586088394547693:True:=trivial
theorem tw18090695793069049923:True:=trivial
theorem tw18094899990761850480:True:=trivial
theorem tw18148110614304384425:True:=trivial
theorem tw18191782924072362741:True:=trivial
theorem tw18263528202642647305:True:=trivial
theorem tw18267695716685204489:True:=trivial
theorem tw18323425912112980423:True:=trivial
theorem tw18413223938587777873:True:=trivial
theorem tw1841875199754242376:True:=trivial
theorem tw18433337188859102699:True:=trivial
theorem tw1937522040706772579:True:=trivial
theorem tw1967521772293704023:True:=trivial
theorem tw2037839472985137394:True:=trivial
theorem tw2039227138022859426:True:=trivial
theorem tw2043439332818419956:True:=trivial
theorem tw2062847445455982057:True:=trivial
theorem tw2098063076554651335:True:=trivial
theorem tw2112396462141634418:True:=trivial
theorem tw2148999582451220258:True:=trivial
theorem tw2203470199028282894:True:=trivial
theorem tw2254229953916177866:True:=trivial
theorem tw2266061187464886411:True:=trivial
theorem tw2309089107161142993:True:=trivial
theorem tw2350176421863460715:True:=trivial
theorem tw2396197500294222652:True:=trivial
theorem tw2508707660645872324:True:=trivial
theorem tw2650978288847865439:True:=trivial
theorem tw2695511602807310073:True:=trivial
theorem tw2732459503051960915:True:=trivial
theorem tw2787342502446790103:True:=trivial
theorem tw2790809642232575033:True:=trivial
theorem tw2821918490906288717:True:=trivial
theorem tw282376659219546013:True:=trivial
theorem tw29185673769087470:True:=trivial
theorem tw2970429024499562840:True:=trivial
theorem tw3122183348963772184:True:=trivial
theorem tw313343477469925738:True:=trivial
theorem tw3164149097128198859:True:=trivial
theorem tw3164723004567283492:True:=trivial
theorem tw3200112539385944285:True:=trivial
theorem tw3255872973428160112:True:=trivial
theorem tw327123122565192547:True:=trivial
theorem tw3347159403542246294:True:=trivial
theorem tw3448558445564694102:True:=trivial
theorem tw3457777924901673732:True:=trivial
theorem tw3524547877412814020:True:=trivial
theorem tw3694953340261403750:True:=trivial
theorem tw3709176911173992938:True:=trivial
theorem tw3754033790161555112:True:=trivial
theorem tw3789087114758254701:True:=trivial
theorem tw3818340897023577852:True:=trivial
theorem tw3842288681259423826:True:=trivial
theorem tw391233639302442774:True:=trivial
theorem tw3939958491895703332:True:=trivial
theorem tw3957408079137255714:True:=trivial
theorem tw3982160594376323435:True:=trivial
theorem tw4011649507913615594:True:=trivial
theorem tw4103798293862335854:True:=trivial
theorem tw4111885334515519417:True:=trivial
theorem tw4216024013188899461:True:=trivial
theorem tw4281180816091315734:True:=trivial
theorem tw4282622636820066324:True:=trivial
theorem tw4409125815653751727:True:=trivial
theorem tw4433191504549324590:True:=trivial
theorem tw4450603890849908260:True:=trivial
theorem tw4463648773587529143:True:=trivial
theorem tw4544817813212392276:True:=trivial
theorem tw4571189527992616063:True:=trivial
theorem tw4704540374075710679:True:=trivial
theorem tw4722960362474476758:True:=trivial
theorem tw4765636916553649949:True:=trivial
theorem tw4787672944956960363:True:=trivial
theorem tw4789767796206116680:True:=trivial
theorem tw4866121729675752047:True:=trivial
theorem tw4867232434583871962:True:=trivial
theorem tw5041156305623706071:True:=trivial
theorem tw5086158552167914256:True:=trivial
theorem tw509016133949494718:True:=trivial
theorem tw5164400167944923233:True:=trivial
theorem tw5218632913793657149:True:=trivial
theorem tw5236168193669689517:True:=trivial
theorem tw5308779895191170451:True:=trivial
theorem tw5473978709871235602:True:=trivial
theorem tw5478475515873007980:True:=trivial
theorem tw5547517056235718571:True:=trivial
theorem tw5576963296203397611:True:=trivial
theorem tw5584861747955125287:True:=trivial
theorem tw5751925918530786219:True:=trivial
theorem tw5806781972885460719:True:=trivial
theorem tw5815989835064080215:True:=trivial
theorem tw5833951176490267275:True:=trivial
theorem tw5866742300720535602:True:=trivial
theorem tw5911594634134571369:True:=trivial
theorem tw5928128303056520577:True:=trivial
theorem tw5993943984039907724:True:=trivial
theorem tw6002152636753735024:True:=trivial
theorem tw6032339312558478581:True:=trivial
theorem tw6117198225614290387:True:=trivial
theorem tw6128356142775426969:True:=trivial
theorem tw619963052402895644:True:=trivial
theorem tw6244086227069964138:True:=trivial
theorem tw6291088265465339010:True:=trivial
theorem tw6328579058929812510:True:=trivial
theorem tw6332833025583290633:True:=trivial
theorem tw6347443402097221033:True:=trivial
theorem tw6350306256946005490:True:=trivial
theorem tw6363750274654446002:True:=trivial
theorem tw6397376991660874007:True:=trivial
theorem tw6471433657854470609:True:=trivial
theorem tw6532731646682765880:True:=trivial
theorem tw6574834915257006263:True:=trivial
theorem tw6661175079171546583:True:=trivial
theorem tw6711466251086786140:True:=trivial
theorem tw6739006245592127112:True:=trivial
theorem tw6756312081964855627:True:=trivial
theorem tw6783150558982331779:True:=trivial
theorem tw687540796579481195:True:=trivial
theorem tw6930395612798829361:True:=trivial
theorem tw6966113768151090479:True:=trivial
theorem tw6997352942345179115:True:=trivial
theorem tw7038312042690050446:True:=trivial
theorem tw7043064077225838423:True:=trivial
theorem tw7068514104567312479:True:=trivial
theorem tw7077915071433731805:True:=trivial
theorem tw709053395278624696:True:=trivial
theorem tw7123593480918157010:True:=trivial
theorem tw7184113650256789481:True:=trivial
theorem tw7290780419286171177:True:=trivial
theorem tw7379388463121260605:True:=trivial
theorem tw7399232612906673497:True:=trivial
theorem tw7419654330185748098:True:=trivial
theorem tw7468661651630349939:True:=trivial
theorem tw7500171393351342478:True:=trivial
theorem tw759951366477578875:True:=trivial
theorem tw7600980269853781992:True:=trivial
theorem tw7610347263298052043:True:=trivial
theorem tw7642784483439572599:True:=trivial
theorem tw7702277468852131773:True:=trivial
theorem tw7760804357102321621:True:=trivial
theorem tw7797270177096360649:True:=trivial
theorem tw7806406548642797527:True:=trivial
theorem tw7817854640943666995:True:=trivial
theorem tw7851309348815019710:True:=trivial
theorem tw7912654086796061663:True:=trivial
theorem tw7994570913434189054:True:=trivial
theorem tw7999212464028425986:True:=trivial
theorem tw8107948430569504363:True:=trivial
theorem tw8162855041845642731:True:=trivial
theorem tw8250627113908328006:True:=trivial
theorem tw8315855200969207779:True:=trivial
theorem tw8341519842822292160:True:=trivial
theorem tw8343788603746120563:True:=trivial
theorem tw8380976119385334487:True:=trivial
theorem tw8399870307028666420:True:=trivial
theorem tw8435177224438719246:True:=trivial
theorem tw8510306633801430255:True:=trivial
theorem tw854662660520674303:True:=trivial
theorem tw8614832201287045257:True:=trivial
theorem tw8637556635166026682:True:=trivial
theorem tw8674530552621164152:True:=trivial
theorem tw8679147355568714347:True:=trivial
theorem tw8750153923053923769:True:=trivial
theorem tw8793060079570647779:True:=trivial
theorem tw8871487104145894886:True:=trivial
theorem tw8884249494506214731:True:=trivial
theorem tw8903028160103261802:True:=trivial
theorem tw8919074980019867215:True:=trivial
theorem tw8948313019963712477:True:=trivial
theorem tw9078824460452147750:True:=trivial
theorem tw9112241323666094249:True:=trivial
theorem tw9119552430710394982:True:=trivial
theorem tw9143086244725327380:True:=trivial
theorem tw9145284811909137920:True:=trivial
theorem tw9166736880086842689:True:=trivial
theorem tw9166859782873022411:True:=trivial
theorem tw9191782131822751539:True:=trivial
theorem tw9191993440688648715:True:=trivial
theorem tw9197417468443520960:True:=trivial
theorem tw9217808080981001314:True:=trivial
theorem tw924877918507523933:True:=trivial
theorem tw9279774001717561107:True:=trivial
theorem tw9290191335370335154:True:=trivial
theorem tw9306932305820151705:True:=trivial
theorem tw9328189364874111814:True:=trivial
theorem tw9372299243831362829:True:=trivial
theorem tw9378123475245661979:True:=trivial
theorem tw9466403153478356535:True:=trivial
theorem tw9473648887799080848:True:=trivial
theorem tw94955307029046716:True:=trivial
theorem tw9506479476460340054:True:=trivial
theorem tw966292995888710537:True:=trivial
theorem tw9923919159986137174:True:=trivial
end PySem.W.Fast
namespace L2
open PySem PySem.Spec PyProof.Rows

noncomputable abbrev Key:=Sum Int Str
noncomputable def zbM:Key→Value→Bool
 | .inl k,v=>Value.isInt k v
 | .inr x,v=>Value.isStrOf x v
noncomputable def zkl (w:World):Key→Int
 | .inl k=>hashInt k
 | .inr x=>hashStr w x
theorem xw:∀{k:Key} {v:Value},zbM k v=true→(∃i t,k=Sum.inl i∧v=Value.int i t)∨(∃x t,k=Sum.inr x∧v=Value.str x t)
 | .inl i,v,h=>by
  obtain ⟨t,e⟩:=Value.isInt_shape (k:=i) (v:=v) h
  exact .inl ⟨i,t,rfl,e⟩
 | .inr x,v,h=>by
  obtain ⟨t,e⟩:=Value.isStrOf_shape (x:=x) (v:=v) h
  exact .inr ⟨x,t,rfl,e⟩
theorem zbN (i:Int) (t:Tok):zbM (.inl i) (.int i t)=true:=by simp [zbM,Value.isInt]
theorem zbO (x:Str) (t:Tok):zbM (.inr x) (.str x t)=true:=by simp [zbM,Value.isStrOf]
theorem zkm (a b:Int):decide ((Sum.inl a:Key)=Sum.inl b)=(a==b):=by
 by_cases e:a=b
 ·subst e;simp
 ·have h:¬(Sum.inl a:Key)=Sum.inl b:=fun q=>e (Sum.inl.inj q)
  rw [decide_eq_false h]
  exact (beq_eq_false_iff_ne.mpr e).symm
theorem zkn (a b:Str):decide ((Sum.inr a:Key)=Sum.inr b)=decide (a=b):=by
 by_cases e:a=b
 ·subst e;simp
 ·have h:¬(Sum.inr a:Key)=Sum.inr b:=fun q=>e (Sum.inr.inj q)
  rw [decide_eq_false h,decide_eq_false e]
theorem zko (a:Int) (b:Str):decide ((Sum.inl a:Key)=Sum.inr b)=false:=decide_eq_false (fun q=>nomatch q)
theorem zkp (a:Str) (b:Int):decide ((Sum.inr a:Key)=Sum.inl b)=false:=decide_eq_false (fun q=>nomatch q)

noncomputable def wC (prog:Program) (w:World):PySem.KeyKind prog w Key where
 is:=zbM
 hash:=zkl w
 inj:=fun v a b ha hb=>by
  rcases xw ha with ⟨i,t,rfl,rfl⟩|⟨x,t,rfl,rfl⟩
  ·rcases xw hb with ⟨j,u,rfl,e⟩|⟨y,u,rfl,e⟩
   ·injection e with e1 _;rw [e1]
   ·exact nomatch e
  ·rcases xw hb with ⟨j,u,rfl,e⟩|⟨y,u,rfl,e⟩
   ·exact nomatch e
   ·injection e with e1 _;rw [e1]
 byValue:=fun k v h=>by
  rcases xw h with ⟨i,t,rfl,rfl⟩|⟨x,t,rfl,rfl⟩<;>rfl
 pyHash:=fun hv h=>by
  rcases xw hv with ⟨i,t,rfl,rfl⟩|⟨x,t,rfl,rfl⟩
  ·exact wpAny_pyHash_int h
  ·exact wpAny_pyHash_str h
 eqBool:=fun hu hv h=>by
  rcases xw hu with ⟨i,t,rfl,rfl⟩|⟨x,t,rfl,rfl⟩
  ·rcases xw hv with ⟨j,u,rfl,rfl⟩|⟨y,u,rfl,rfl⟩
   ·rw [zkm] at h;exact wpAny_eqBool_int h
   ·rw [zko] at h;exact SeqAt.EqAt.int_str i t y u _ _ _ _ h
  ·rcases xw hv with ⟨j,u,rfl,rfl⟩|⟨y,u,rfl,rfl⟩
   ·rw [zkp] at h;exact SeqAt.EqAt.str_int x t j u _ _ _ _ h
   ·rw [zkn] at h;exact wpAny_eqBool_str h
 «strs» :=fun k x t v h=>by
  rcases xw h with ⟨i,u,rfl,e⟩|⟨y,u,rfl,e⟩
  ·exact nomatch e
  ·injection e with e1 _
   subst e1
   cases v<;>rfl

theorem zde (prog:Program) (w:World) (i:Int) (t:Tok):(wC prog w).is (.inl i) (.int i t)=true:=zbN i t
theorem zdf (prog:Program) (w:World) (x:Str) (t:Tok):(wC prog w).is (.inr x) (.str x t)=true:=zbO x t
end L2

namespace L2
open PySem PySem.Spec PyProof.Rows

inductive V where
 |non|bl (b:Bool)|int (i:Int)|str (x:Str)|byt (b:Array UInt8)|flt (b:UInt64)|ref (a:Addr)|ty (n:String)
 deriving DecidableEq

noncomputable def yA:V→Value→Prop
 | .non,u=>u=Value.none
 | .bl b,u=>u=Value.bool b
 | .int i,u=>∃t,u=Value.int i t
 | .str x,u=>∃t,u=Value.str x t
 | .byt b,u=>∃t,u=Value.bytes b t
 | .flt b,u=>∃t,u=Value.float b t
 | .ref a,u=>u=Value.ref a
 | .ty n,u=>u=Value.type n

noncomputable abbrev yr:List V→List Value→Prop:=Paired yA
theorem yr.length {xs:List V} {us:List Value} (r:yr xs us):xs.length=us.length:=Paired.length r
theorem yr.get:∀{xs:List V} {us:List Value} {i:Nat} {x:V},yr xs us→xs[i]? =some x→∃u,us[i]? =some u∧yA x u
 |_,_,_,_,.nil,e=>by simp at e
 |_,_,0,_,.cons r _,e=>by simp at e;subst e;exact ⟨_,rfl,r⟩
 |_,_,i+1,x,.cons _ t,e=>by
  obtain ⟨u,h1,h2⟩:=yr.get (i:=i) (x:=x) t (by simpa using e)
  exact ⟨u,by simpa using h1,h2⟩
theorem yr.set {x:V} {u:Value} (r:yA x u):∀{xs:List V} {us:List Value} (i:Nat),yr xs us→yr (xs.set i x) (us.set i u)
 |_,_,_,.nil=> .nil
 |_,_,0,.cons _ t=> .cons r t
 |_,_,i+1,.cons q t=> .cons q (yr.set r i t)
theorem yr.append:∀{xs ys:List V} {us ws:List Value},yr xs us→yr ys ws→yr (xs++ys) (us++ws)
 |_,_,_,_,.nil,s=>s
 |_,_,_,_,.cons r t,s=> .cons r (yr.append t s)
theorem yr.take:∀{xs:List V} {us:List Value} (n:Nat),yr xs us→yr (xs.take n) (us.take n)
 |_,_,0,_=> .nil
 |_,_,_+1,.nil=> .nil
 |_,_,n+1,.cons r t=> .cons r (yr.take n t)
theorem yr.drop:∀{xs:List V} {us:List Value} (n:Nat),yr xs us→yr (xs.drop n) (us.drop n)
 |_,_,0,r=>r
 |_,_,_+1,.nil=> .nil
 |_,_,n+1,.cons _ t=>yr.drop n t

noncomputable def Vj:Option V→Option Value→Prop
 |some v,some u=>yA v u
 |none,none=>True
 |_,_=>False
noncomputable def KV {κ:Type}:List (κ×V)→List (κ×Value)→Prop:=Paired fun (p:κ×V) (q:κ×Value)=>p.1=q.1∧yA p.2 q.2

noncomputable def kV:Key→V
 | .inl i=> .int i
 | .inr x=> .str x

inductive NK where
 |int (i:Int)|str (x:Str)|tup (l:List NK)
noncomputable instance:DecidableEq NK:=fun a b=>Classical.propDecidable (a=b)
mutual
noncomputable def zg2 (w:World):NK→Int
 | .int i=>zkl w (.inl i)
 | .str x=>zkl w (.inr x)
 | .tup l=>reduceHash (Builtin.Tuple.tupleHashOf (zg3 w l))
noncomputable def zg3 (w:World):List NK→List Int
 |[]=>[]
 |k::r=>zg2 w k::zg3 w r
end
mutual
noncomputable def ziy:NK→Nat
 | .int _=>0
 | .str _=>0
 | .tup l=>zjM l+1
noncomputable def zjM:List NK→Nat
 |[]=>0
 |k::r=>max (ziy k) (zjM r)
end
noncomputable def zkq (w:World) (x:NK×Addr×Value):DictEntry:={hash:=zg2 w x.1,key:= .ref x.2.1,val:=x.2.2}
inductive HO where
 /-- a list -/
 |lst (xs:List V)
 /-- a tuple (never changes) -/
 |tup (xs:List V)
 /-- a dict whose keys are ints and texts; one whose keys are tuples of ints and texts (the empty one is both) -/
 |dK (kvs:List (Key×V))|dT (kvs:List (List Key×V))
 /-- a dict whose keys are tuples of any depth: key, where it stands, value -/
 |dN (ks:List (NK×Addr×V))
 /-- a set of ints: its members, its size -/
 |set (S:Int→Bool) (n:Nat)
 /-- an instance of the class at C, its dict at dx, its attributes -/
 |ins (C dx:Addr) (fs:List (Str×V))
 /-- the dict of the instance at x -/
 |own (x:Addr)
 /-- the dict of an exception -/
 |xd (fs:List (Str×V))
 /-- a bound method, f of x -/
 |met (f x:Addr)
 /-- a range object lo, lo + 1, .. below hi -/
 |rng (lo hi:Int)
 /-- a thing that is known to the object (the script; a dict while a loop walks it): read, never written while it is so -/
 |frz (o:Obj) (u:HO)
 /-- a code object's table -/
 |tbl (ps:Array Value)
 /-- any other thing, by what is true of its one object (a def of one's own: SetO a S n := HO.ext fun h => ..) -/
 |ext (φ:Heap→Prop)

noncomputable abbrev Hp:=Addr→Option HO
noncomputable def upd (H:Hp) (a:Addr) (o:HO):Hp:=fun b=>if b=a then some o else H b
theorem yS {H:Hp} {a:Addr} {o:HO}:upd H a o a=some o:=by unfold upd;rw [if_pos rfl]
theorem yG {H:Hp} {a b:Addr} {o:HO} (h:b≠a):upd H a o b=H b:=by unfold upd;rw [if_neg h]
theorem vw {H:Hp} {a b:Addr} {o:HO} (h:H a=some o) (h':H b=none):a≠b:=by
 intro e;subst e;rw [h] at h';cases h'

noncomputable def Xl (h:Heap) (a:Addr) (items:Array Value):Prop:=∃o,h.get? a=some o∧o.cls= .type "tuple"∧∃n,o.data= .seq items n∧o.dict=none
theorem Xl.tup {h:Heap} {a:Addr} {items:Array Value} (x:Xl h a items):IsTup h a items:=by
 obtain ⟨o,e,c,n,d,_⟩:=x
 exact ⟨o,e,c,n,d⟩
theorem Xl.new (h:Heap) (items:Array Value):Xl (h.push {cls:= .type "tuple",data:= .seq items}) h.objs.size items:=⟨_,Heap.get?_push_size _ rfl,rfl,_,rfl,rfl⟩
section
variable (P:Program) (w:World)
noncomputable def xC (H:Hp) (h:Heap) (a:Addr):HO→Prop
 | .lst xs=>xs.length≤sizeLine∧∃(its:List Value) (n:Nat),yr xs its∧h.get? a=some {cls:= .type "list",data:= .seq its.toArray n}
 | .tup xs=>xs.length≤sizeLine∧∃its:List Value,yr xs its∧Xl h a its.toArray
 | .dK kvs=>kvs.length≤sizeLine∧(a==sysModules)=false∧∃vs,KV kvs vs∧h.DictOf (wC P w) a vs
 | .dT kvs=>kvs.length≤sizeLine∧(a==sysModules)=false∧∃xs:List (List Key×Addr×Value),
   Paired (fun (p:List Key×V) (q:List Key×Addr×Value)=>p.1=q.1∧H q.2.1=some (.tup (p.1.map kV))∧yA p.2 q.2.2) kvs xs∧
   ∃o es ep,h.get? a=some o∧o.ExactDict∧o.data= .dict es ep∧es.toList=xs.map (entryOfKey (tupleKind (wC P w)))∧(xs.map (·.1)).Nodup
 | .dN ks=>ks.length≤sizeLine∧(a==sysModules)=false∧∃xs:List (NK×Addr×Value),Paired (fun (p:NK×Addr×V) (q:NK×Addr×Value)=>p.1=q.1∧p.2.1=q.2.1∧yA p.2.2 q.2.2) ks xs∧
   ∃o es ep,h.get? a=some o∧o.ExactDict∧o.data= .dict es ep∧es.toList=xs.map (zkq w)∧(xs.map (·.1)).Nodup
 | .set S n=>h.SetOf (intKind P w) a S n
 | .ins C dx fs=>H dx=some (.own a)∧fs.length≤1000∧dx≠a∧h.get? a=some (PySem.W.instObj C dx)∧
   ∃mA,h.Ns1 dx mA∧(∀f,Vj (fs.lookup f) (mA f))∧PySem.Within mA (fs.map (·.1))
 | .own _=>∃o,h.get? a=some o
 | .xd fs=>∃mA,h.Ns1 a mA∧∀f,Vj (fs.lookup f) (mA f)
 | .rng lo hi=>∃t u v,h.get? a=some {cls:= .type "range",data:= .fields #[.int lo t,.int hi u,.int 1 v]}
 | .frz o u=>h.get? a=some o∧xC H h a u
 | .tbl ps=>h.get? a=some {cls:= .none,data:= .fields ps}
 | .met f x=>h.get? a=some (PySem.W.methodObj (.ref f) (.ref x))
 | .ext φ=>φ h∧(∃o,h.get? a=some o)∧∀h1 h2:Heap,φ h1→(∀o,h1.get? a=some o→h2.get? a=some o)→φ h2
noncomputable def HOk (H:Hp) (h:Heap):Prop:=∀a o,H a=some o→xC P w H h a o
end

section
variable {P:Program} {w:World} {H H':Hp} {h h':Heap} {a:Addr} {o:HO}
theorem xC.lt (x:xC P w H h a o):a<h.objs.size:=by
 cases o with
 |lst xs=>obtain ⟨_,_,_,_,e⟩:=x;exact Heap.lt_size e
 |tup xs=>obtain ⟨_,_,_,p⟩:=x;exact p.tup.lt
 |dK kvs=>obtain ⟨_,_,_,_,o,_,_,e,_⟩:=x;exact Heap.lt_size e
 |dT kvs=>obtain ⟨_,_,_,_,o,_,_,e,_⟩:=x;exact Heap.lt_size e
 |dN ks=>obtain ⟨_,_,_,_,o,_,_,e,_⟩:=x;exact Heap.lt_size e
 |set S n=>obtain ⟨o,_,_,_,e,_⟩:=x;exact Heap.lt_size e
 |ins C dx fs=>obtain ⟨_,_,_,e,_⟩:=x;exact Heap.lt_size e
 |own y=>obtain ⟨_,e⟩:=x;exact Heap.lt_size e
 |xd fs=>obtain ⟨_,⟨_,_,_,e,_⟩,_⟩:=x;exact Heap.lt_size e
 |rng lo hi=>obtain ⟨_,_,_,e⟩:=x;exact Heap.lt_size e
 |frz ob u=>obtain ⟨e,_⟩:=x;exact Heap.lt_size e
 |tbl ps=>exact Heap.lt_size (show h.get? a=some _ from x)
 |met f y=>exact Heap.lt_size (show h.get? a=some _ from x)
 |ext φ=>obtain ⟨_,⟨_,e⟩,_⟩:=x;exact Heap.lt_size e
theorem Paired.mapP {α β:Type} {F G:α→β→Prop}:∀{l₁:List α} {l₂:List β},Paired F l₁ l₂→(∀a b,F a b→G a b)→Paired G l₁ l₂
 |_,_,.nil,_=> .nil
 |_,_,.cons r t,f=> .cons (f _ _ r) (Paired.mapP t f)
theorem xC.stay (x:xC P w H h a o) (k:∀b u,(b=a∨H b=some (.own a))→h.get? b=some u→h'.get? b=some u)
  (ho:∀b,H b=some (.own a)→H' b=some (.own a)) (ht:∀b xs,H b=some (.tup xs)→H' b=some (.tup xs)):xC P w H' h' a o:=by
 induction o with
 |lst xs=>obtain ⟨z,its,n,r,e⟩:=x;exact ⟨z,its,n,r,k _ _ (.inl rfl) e⟩
 |tup xs=>obtain ⟨z,its,r,ob,e,c⟩:=x;exact ⟨z,its,r,ob,k _ _ (.inl rfl) e,c⟩
 |dK kvs=>obtain ⟨z,y,vs,r,ob,es,ep,e,c⟩:=x;exact ⟨z,y,vs,r,ob,es,ep,k _ _ (.inl rfl) e,c⟩
 |dT kvs=>
  obtain ⟨z,y,xs,r,ob,es,ep,e,c⟩:=x
  exact ⟨z,y,xs,Paired.mapP r fun p q z=>⟨z.1,ht _ _ z.2.1,z.2.2⟩,ob,es,ep,k _ _ (.inl rfl) e,c⟩
 |dN ks=>obtain ⟨z,y,xs,r,ob,es,ep,e,c⟩:=x;exact ⟨z,y,xs,r,ob,es,ep,k _ _ (.inl rfl) e,c⟩
 |set S n=>obtain ⟨ob,es,ep,t,e,c⟩:=x;exact ⟨ob,es,ep,t,k _ _ (.inl rfl) e,c⟩
 |ins C dx fs=>
  obtain ⟨d,z,ne,e,mA,⟨od,es,ep,e2,c⟩,r⟩:=x
  exact ⟨ho _ d,z,ne,k _ _ (.inl rfl) e,mA,⟨od,es,ep,k _ _ (.inr d) e2,c⟩,r⟩
 |own y=>obtain ⟨ob,e⟩:=x;exact ⟨ob,k _ _ (.inl rfl) e⟩
 |xd fs=>obtain ⟨mA,⟨od,es,ep,e,c⟩,r⟩:=x;exact ⟨mA,⟨od,es,ep,k _ _ (.inl rfl) e,c⟩,r⟩
 |rng lo hi=>obtain ⟨t,u,v,e⟩:=x;exact ⟨t,u,v,k _ _ (.inl rfl) e⟩
 |frz ob u ih=>obtain ⟨e,q⟩:=x;exact ⟨k _ _ (.inl rfl) e,ih q⟩
 |tbl ps=>
  have e:h.get? a=some {cls:= .none,data:= .fields ps}:=x
  show h'.get? a=some {cls:= .none,data:= .fields ps}
  exact k a _ (.inl rfl) e
 |met f y=>
  have e:h.get? a=some (PySem.W.methodObj (.ref f) (.ref y)):=x
  show h'.get? a=some (PySem.W.methodObj (.ref f) (.ref y))
  exact k a _ (.inl rfl) e
 |ext φ=>obtain ⟨p,⟨o,e⟩,st⟩:=x;exact ⟨st _ _ p fun o q=>k _ _ (.inl rfl) q,⟨o,k _ _ (.inl rfl) e⟩,st⟩
theorem HOk.lt (x:HOk P w H h) (e:H a=some o):a<h.objs.size:=(x a o e).lt
theorem HOk.fresh (x:HOk P w H h) (e:h.objs.size≤a):H a=none:=by
 cases q:H a with
 |none=>rfl
 |some u=>exact absurd (Nat.lt_of_lt_of_le (x.lt q) e) (Nat.lt_irrefl _)
theorem HOk.kept (x:HOk P w H h) (k:∀b u,h.get? b=some u→h'.get? b=some u):HOk P w H h':=fun a o e=>
 (x a o e).stay (fun b u _ q=>k b u q) (fun _ q=>q) fun _ _ q=>q
theorem HOk.laid (x:HOk P w H h) (k:∀b u,h.get? b=some u→h'.get? b=some u) (hp:h.objs.size≤a) (new:xC P w (upd H a o) h' a o):HOk P w (upd H a o) h':=fun b u e=>by
 have hn:=x.fresh hp
 by_cases hb:b=a
 ·subst hb;rw [yS] at e;cases e;exact new
 ·rw [yG hb] at e
  exact (x b u e).stay (fun c v _ q=>k c v q) (fun c q=>by rw [yG (vw q hn)];exact q) fun c xs q=>by rw [yG (vw q hn)];exact q
end

noncomputable def Rd (H:Hp) (a:Addr) (u:HO):Prop:=H a=some u∨∃o,H a=some (.frz o u)
theorem Rd.ok {P:Program} {w:World} {H:Hp} {h:Heap} {a:Addr} {u:HO} (r:Rd H a u) (x:HOk P w H h):xC P w H h a u:=by
 rcases r with r|⟨o,r⟩
 ·exact x a u r
 ·obtain ⟨_,q⟩:=x a _ r
  exact q
noncomputable def Mut:Option HO→Prop
 |some (.lst _)=>True
 |some (.dK _)=>True
 |some (.dT _)=>True
 |some (.dN _)=>True
 |some (.set _ _)=>True
 |some (.ins _ _ _)=>True
 |some (.ext _)=>True
 |_=>False
section
variable {P:Program} {w:World} {H:Hp} {h h':Heap} {x e:Addr} {o':HO}
theorem HOk.write (ok:HOk P w H h) (mu:Mut (H x)) (he:e=x∨H e=some (.own x)) (k:∀b u,b≠e→h.get? b=some u→h'.get? b=some u) (heo:∃u,h'.get? e=some u)
  (new:xC P w (upd H x o') h' x o'):HOk P w (upd H x o') h':=fun b u q=>by
 have nown:∀c y,H c=some (.own y)→c≠x:=fun c y r z=>by subst z;rw [r] at mu;exact mu
 have ntup:∀c xs,H c=some (.tup xs)→c≠x:=fun c xs r z=>by subst z;rw [r] at mu;exact mu
 by_cases hb:b=x
 ·subst hb;rw [yS] at q;cases q;exact new
 ·rw [yG hb] at q
  by_cases hbe:b=e
  ·have q':H b=some (.own x):=by
    rcases he with z|z
    ·exact absurd (hbe.trans z) hb
    ·rw [hbe];exact z
   rw [q] at q';cases q'
   obtain ⟨v,hv⟩:=heo
   exact ⟨v,by rw [hbe];exact hv⟩
  ·refine (ok b u q).stay (fun c v hc r=>k c v ?_ r) (fun c r=>by rw [yG (nown c b r)];exact r) fun c xs r=>by rw [yG (ntup c xs r)];exact r
   rcases hc with rfl|hc
   ·exact hbe
   ·rintro rfl
    rcases he with z|z
    ·exact nown c b hc z
    ·rw [hc] at z;cases z;exact hb rfl
end

structure Un (fs ex:List Addr) (H H':Hp) (h h':Heap):Prop where
 keep:∀b o,h.get? b=some o→H b=none→b∉fs→b∉ex→h'.get? b=some o
 slot:∀b o,h.get? b=some o→H b=none→b∈fs→b∉ex→∃sl,h'.get? b=some {o with slots:=sl}
 free:∀b o,h.get? b=some o→H b=none→b∉ex→H' b=none
 there:∀b o,h.get? b=some o→b∉ex→∃o',h'.get? b=some o'
 tups:∀b xs,H b=some (.tup xs)→H' b=some (.tup xs)
 frzs:∀b o u,H b=some (.frz o u)→H' b=some (.frz o u)
 tbls:∀b ps,H b=some (.tbl ps)→∃more,H' b=some (.tbl (ps++more))
section
variable {fs fs' ex ex':List Addr} {H H1 H2:Hp} {h h1 h2 h':Heap} {a x e:Addr} {o:HO}
theorem Un.any (u:Un fs ex H H1 h h1) {b:Addr} {ob:Obj} (q:h.get? b=some ob) (n:H b=none) (hx:b∉ex):∃sl,h1.get? b=some {ob with slots:=sl}:=by
 by_cases hb:b∈fs
 ·exact u.slot b ob q n hb hx
 ·exact ⟨ob.slots,u.keep b ob q n hb hx⟩
theorem Un.trans (a:Un fs ex H H1 h h1) (b:Un fs ex H1 H2 h1 h2):Un fs ex H H2 h h2 where
 keep:=fun c ob q n hc hx=>b.keep c ob (a.keep c ob q n hc hx) (a.free c ob q n hx) hc hx
 slot:=fun c ob q n hc hx=>by
  obtain ⟨sl,e1⟩:=a.slot c ob q n hc hx
  obtain ⟨sl',e2⟩:=b.slot c _ e1 (a.free c ob q n hx) hc hx
  exact ⟨sl',e2⟩
 free:=fun c ob q n hx=>by
  obtain ⟨o',e1⟩:=a.there c ob q hx
  exact b.free c o' e1 (a.free c ob q n hx) hx
 there:=fun c ob q hx=>by
  obtain ⟨o',e1⟩:=a.there c ob q hx
  exact b.there c o' e1 hx
 tups:=fun c xs q=>b.tups c xs (a.tups c xs q)
 frzs:=fun c ob xs q=>b.frzs c ob xs (a.frzs c ob xs q)
 tbls:=fun c ps q=>by
  obtain ⟨m1,e1⟩:=a.tbls c ps q
  obtain ⟨m2,e2⟩:=b.tbls c _ e1
  exact ⟨m1++m2,by rw [e2,Array.append_assoc]⟩
theorem Un.kept (k:∀b u,h.get? b=some u→h'.get? b=some u):Un fs ex H H h h':=
 ⟨fun b ob q _ _ _=>k b ob q,fun b ob q _ _ _=>⟨ob.slots,k b ob q⟩,fun _ _ _ n _=>n,fun b ob q _=>⟨ob,k b ob q⟩,fun _ _ q=>q,fun _ _ _ q=>q,fun _ ps q=>⟨#[],by rw [q];simp⟩⟩
theorem Un.refl:Un fs ex H H h h:=Un.kept fun _ _ q=>q
theorem Un.laid (k:∀b u,h.get? b=some u→h'.get? b=some u) (hp:h.objs.size≤a) (hn:H a=none):Un fs ex H (upd H a o) h h' where
 keep:=fun b u q _ _ _=>k b u q
 slot:=fun b u q _ _ _=>⟨u.slots,k b u q⟩
 free:=fun b u q n _=>by rw [yG (Nat.ne_of_lt (Nat.lt_of_lt_of_le (Heap.lt_size q) hp))];exact n
 there:=fun b u q _=>⟨u,k b u q⟩
 tups:=fun b xs q=>by rw [yG (vw q hn)];exact q
 frzs:=fun b u xs q=>by rw [yG (vw q hn)];exact q
 tbls:=fun b ps q=>⟨#[],by rw [yG (vw q hn),q];simp⟩
theorem Un.write (mu:Mut (H x)) (he:e=x∨H e=some (.own x)) (k:∀b u,b≠e→h.get? b=some u→h'.get? b=some u) (heo:∃u,h'.get? e=some u):Un fs ex H (upd H x o) h h':=by
 have hx:∀b,H b=none→b≠x:=fun b n z=>by subst z;rw [n] at mu;exact mu
 have hb:∀b,H b=none→b≠e:=fun b n z=>by
  subst z
  rcases he with r|r
  ·exact hx b n r
  ·rw [n] at r;cases r
 have hm:∀b u,H b=some u→¬Mut (some u)→b≠x:=fun b u q nm z=>by subst z;rw [q] at mu;exact nm mu
 refine ⟨fun b u q n _ _=>k b u (hb b n) q,fun b u q n _ _=>⟨u.slots,k b u (hb b n) q⟩,fun b u q n _=>by rw [yG (hx b n)];exact n,fun b u q _=> ?_,
  fun b xs q=>by rw [yG (hm b _ q fun z=>z)];exact q,fun b u xs q=>by rw [yG (hm b _ q fun z=>z)];exact q,fun b ps q=>⟨#[],by rw [yG (hm b _ q fun z=>z),q];simp⟩⟩
 by_cases hbe:b=e
 ·subst hbe;exact heo
 ·exact ⟨u,k b u hbe q⟩
end

noncomputable def trk (h:Heap) (H:Hp):List Addr:=(List.range h.objs.size).filter fun a=>(H a).isSome
noncomputable def zch (h:Heap) (H:Hp):Heap:=PySem.W.hideAll h (trk h H)
theorem zgg (h:Heap) (H:Hp):(zch h H).objs.size=h.objs.size:=PySem.W.hideAll_size _ _
theorem zg4 {h:Heap} {H:Hp} {b:Addr} {o:Obj} (e:h.get? b=some o) (n:H b=none):(zch h H).get? b=some o:=
 PySem.W.hideAll_get _ e fun hm=>by
  have q:(H b).isSome=true:=(List.mem_filter.mp hm).2
  rw [n] at q;simp at q
theorem ziz {h:Heap} {H:Hp} {b:Addr} {o:Obj} (e:(zch h H).get? b=some o):h.get? b=some o∧H b=none:=by
 have e':h.get? b=some o:=PySem.W.of_hideAll (trk h H) e
 refine ⟨e',?_⟩
 cases q:H b with
 |none=>rfl
 |some x=>
  have hm:b∈trk h H:=List.mem_filter.mpr ⟨List.mem_range.mpr (Heap.lt_size e'),by simp [q]⟩
  have z:(zch h H).get? b=none:=PySem.W.hideAll_none (trk h H) hm
  rw [z] at e;cases e

end L2

namespace L2
open PySem PySem.Spec PyProof.Rows

structure Mod (K:PySem.W.Frag) (mg:Str→Option Value) (base:Heap):Prop where
 kin:K.In base
 glob:base.Ns mainGlobals mg
 blt:∃mb,base.Ns builtinsNs mb∧∀x:Str,x≠"__name__"→mb x=bootBuiltins x
 nolimit:base.NoLimit

/-- the context: a def's body (or a comprehension's block) running. base: fixed through the whole law; s₀, H₀: the entry; outer: the frames whose slots others may change (a def's callers); stack: all frames that run;
   ex: iterators that were made ahead of the entry and are walked here (a comprehension's); fn: the names whose cells were made at the entry (a def: all; a comprehension's block: its own); calm: not within an except suite; pn: pins that every state bears; xe: what is wanted of an exception that leaves the code -/
structure Cx where
 prog:Program
 w:World
 K:PySem.W.Frag
 mg:Str→Option Value
 base:Heap
 A:Around
 N:List Str
 s₀:Shared
 H₀:Hp
 env:Env
 outer:List Env
 stack:List Env
 ex:List Addr
 fn:Str→Bool
 calm:Bool
 pn:List (Addr×Obj)
 xe:Value→Shared→Prop
noncomputable def frs (l:List Env):List Addr:=l.filterMap (·.frame)
noncomputable abbrev Cx.fs (X:Cx):List Addr:=frs X.outer

noncomputable def Vis (sc:Scope) (x:Str):Prop:=sc.names.lookup x=some .local∨sc.names.lookup x=some .cell∨sc.names.lookup x=some .free
noncomputable def Loc (sc:Scope) (x:Str):Prop:=sc.names.lookup x=some .local∨sc.names.lookup x=some .cell
noncomputable def zna (env:Env) (h:Heap) (m:Str→Option Value) (x:Str) (u:Value):Prop:=
 (env.kindOf x=some .local∧m x=some u)∨((env.kindOf x=some .cell∨env.kindOf x=some .free)∧∃c,env.cells.lookup x=some c∧h.IsCell c (some u))

structure Cx.Ok (X:Cx):Prop where
 mod:Mod X.K X.mg X.base
 kind:X.env.scope.kind= .function
 glob:X.env.globals=mainGlobals
 blt:X.env.builtins=builtinsNs
 above:X.s₀.heap.objs.size≤X.env.locals
 inj:∀x y c,X.env.cells.lookup x=some c→X.env.cells.lookup y=some c→x=y
 has:∀x,(X.env.kindOf x=some .cell∨X.env.kindOf x=some .free)→∃c,X.env.cells.lookup x=some c
 cab:∀x c,X.fn x=true→X.env.cells.lookup x=some c→X.s₀.heap.objs.size≤c
 hd:X.calm=true→X.A.handled=none
 frames:X.A.frames=some X.stack
 stk:X.stack=X.outer∨(X.stack=X.env::X.outer∧X.env.frame=some X.env.locals)
 exf:∀b∈X.ex,b≠X.env.locals∧∀x c,X.env.cells.lookup x=some c→c≠b
 bs:∀b o,X.base.get? b=some o→X.s₀.heap.get? b=some o∧X.H₀ b=none
 bsz:X.base.objs.size≤X.s₀.heap.objs.size
 noex:∀b o,X.base.get? b=some o→b∉X.ex
 exfs:∀b∈X.ex,b∉X.fs
 funs:X.s₀.heap.FunFrames X.base X.outer
 frf:∀b∈X.fs,X.H₀ b=none

structure Inv (X:Cx) (pins:List (Addr×Obj)) (σ:List (Option V)) (H:Hp) (s:Shared):Prop where
 ok:X.Ok
 os:s.os=X.s₀.os
 bare:AllBare s.gens
 base:Un X.fs X.ex X.H₀ H X.s₀.heap s.heap
 loc:∃m,s.heap.Ns X.env.locals m∧∀(i:Nat) (x:Str) (v:V),X.N[i]? =some x→σ[i]? =some (some v)→Vis X.env.scope x→∃u,yA v u∧zna X.env s.heap m x u
 cell:∀x c,X.env.cells.lookup x=some c→∃v,s.heap.IsCell c v
 free:H X.env.locals=none
 freeC:∀x c,X.env.cells.lookup x=some c→H c=none
 pin:∀p∈X.pn++pins,s.heap.get? p.1=some p.2∧H p.1=none∧p.1≠X.env.locals∧p.1∉X.fs∧∀v,p.2.data≠ .cell v
 hok:HOk X.prog X.w H s.heap
 len:σ.length=X.N.length

section
variable {X:Cx} {pins:List (Addr×Obj)} {σ:List (Option V)} {H H':Hp} {s:Shared} {h':Heap}

theorem Cx.Ok.nofr (ok:X.Ok) {b:Addr} {o:Obj} (e:X.base.get? b=some o):b∉X.fs:=fun hb=>by
 have:=(ok.funs.mem hb).1
 rw [e] at this;cases this
theorem Inv.bs (I:Inv X pins σ H s):∀b o,X.base.get? b=some o→s.heap.get? b=some o∧H b=none:=fun b o e=>
 ⟨I.base.keep b o (I.ok.bs b o e).1 (I.ok.bs b o e).2 (I.ok.nofr e) (I.ok.noex b o e),I.base.free b o (I.ok.bs b o e).1 (I.ok.bs b o e).2 (I.ok.noex b o e)⟩
theorem Inv.bk (I:Inv X pins σ H s):∀b o,X.base.get? b=some o→s.heap.get? b=some o:=fun b o e=>(I.bs b o e).1
theorem Inv.mod (I:Inv X pins σ H s):Mod X.K X.mg X.base:=I.ok.mod
theorem Inv.kIn (I:Inv X pins σ H s):X.K.In s.heap:=I.ok.mod.kin.keeps I.bk
theorem Inv.lt (I:Inv X pins σ H s):X.env.locals<s.heap.objs.size:=let ⟨_,hn,_⟩:=I.loc;hn.lt
theorem Inv.sz (I:Inv X pins σ H s):X.s₀.heap.objs.size≤s.heap.objs.size:=Nat.le_trans I.ok.above (Nat.le_of_lt I.lt)
theorem Inv.nofs (I:Inv X pins σ H s) {a:Addr} (h:s.heap.objs.size≤a):a∉X.fs:=fun hb=>by
 obtain ⟨_,o,ho,_⟩:=I.ok.funs.mem hb
 exact absurd (Nat.lt_of_lt_of_le (Heap.lt_size ho) (Nat.le_trans I.sz h)) (Nat.lt_irrefl _)
theorem Inv.cne (I:Inv X pins σ H s):∀x c,X.env.cells.lookup x=some c→c≠X.env.locals:=fun x c e z=>by
 obtain ⟨v,o,ho,hd⟩:=I.cell x c e
 obtain ⟨m,⟨o',es,ep,ho',hd',_⟩,_⟩:=I.loc
 rw [z,ho'] at ho;cases ho;rw [hd'] at hd;cases hd
theorem Inv.funs (I:Inv X pins σ H s):s.heap.FunFrames X.base X.outer:=by
 have all:∀(l:List Env),(∀b∈frs l,b∈X.fs)→X.s₀.heap.FunFrames X.base l→s.heap.FunFrames X.base l:=by
  intro l
  induction l with
  |nil=>intro _ _;trivial
  |cons env r ih=>
   intro hs hl
   obtain ⟨hk,⟨L,o,hf,hn,ho,hd⟩,hr⟩:=hl
   have hL:L∈X.fs:=hs L (by unfold frs;rw [List.filterMap_cons,hf];exact List.mem_cons_self)
   obtain ⟨sl,e⟩:=I.base.slot L o ho (I.ok.frf L hL) hL fun z=>I.ok.exfs L z hL
   exact ⟨hk,⟨L,_,hf,hn,e,hd⟩,ih (fun b hb=>hs b (by unfold frs;rw [List.filterMap_cons,hf];exact List.mem_cons_of_mem _ hb)) hr⟩
 exact all X.outer (fun _ hb=>hb) I.ok.funs

theorem Inv.stack (I:Inv X pins σ H s):s.heap.FunFrames X.base X.stack:=by
 rcases I.ok.stk with e|⟨e,hf⟩
 ·rw [e];exact I.funs
 ·rw [e]
  obtain ⟨m,hn,_⟩:=I.loc
  refine .cons (by rw [I.ok.kind];decide) hf hn ?_ I.funs
  exact Heap.get?_none_of_le (Nat.le_trans I.ok.bsz I.ok.above)
theorem Inv.stkSub (I:Inv X pins σ H s):∀b∈frs X.stack,b∈X.env.locals::X.fs:=fun b hb=>by
 rcases I.ok.stk with e|⟨e,hf⟩
 ·rw [e] at hb;exact List.mem_cons_of_mem _ hb
 ·rw [e] at hb
  unfold frs at hb
  rw [List.filterMap_cons,hf] at hb
  exact hb
theorem Inv.stkFree (I:Inv X pins σ H s):∀b∈frs X.stack,H b=none:=fun b hb=>by
 rcases List.mem_cons.mp (I.stkSub b hb) with e|hb
 ·rw [e];exact I.free
 ·obtain ⟨_,o,ho,_⟩:=I.ok.funs.mem hb
  exact I.base.free b o ho (I.ok.frf b hb) fun z=>I.ok.exfs b z hb

theorem Inv.step {g':Array GenState} {t':Nat} {d':Drawn} {ch:List Addr} (I:Inv X pins σ H s)
  (hch:∀b∈ch,(b∈X.ex∨X.s₀.heap.objs.size≤b)∧b≠X.env.locals∧(∀x c,X.env.cells.lookup x=some c→c≠b)∧∀p∈X.pn++pins,p.1≠b)
  (keep:∀b o,b≠X.env.locals→b∉X.fs→b∉ch→s.heap.get? b=some o→H b=none→h'.get? b=some o)
  (slot:∀b o,b≠X.env.locals→b∈X.fs→b∉ch→s.heap.get? b=some o→H b=none→∃sl,h'.get? b=some {o with slots:=sl}) (free:∀b o,b∉ch→s.heap.get? b=some o→H b=none→H' b=none)
  (there:∀b o,b∉ch→s.heap.get? b=some o→∃o',h'.get? b=some o')
  (tups:∀b xs,H b=some (.tup xs)→H' b=some (.tup xs)) (frzs:∀b o u,H b=some (.frz o u)→H' b=some (.frz o u)) (tbls:∀b ps,H b=some (.tbl ps)→∃more,H' b=some (.tbl (ps++more)))
  (ns:∀m,s.heap.Ns X.env.locals m→h'.Ns X.env.locals m) (hok:HOk X.prog X.w H' h') (hg:AllBare g'):
  Inv X pins σ H' {s with heap:=h',gens:=g',drawn:=d',toks:=t'}:=by
 have neL:∀b o,X.s₀.heap.get? b=some o→b≠X.env.locals:=fun b o e=>Nat.ne_of_lt (Nat.lt_of_lt_of_le (Heap.lt_size e) I.ok.above)
 have neC:∀b o,X.s₀.heap.get? b=some o→b∉X.ex→b∉ch:=fun b o e hx hb=>by
  rcases (hch b hb).1 with z|z
  ·exact hx z
  ·exact absurd (Nat.lt_of_lt_of_le (Heap.lt_size e) z) (Nat.lt_irrefl _)
 have cellK:∀x c,X.env.cells.lookup x=some c→∀v,s.heap.IsCell c v→h'.IsCell c v:=fun x c e v ⟨o,ho,hd⟩=>by
  have nch:c∉ch:=fun z=>(hch c z).2.2.1 x c e rfl
  by_cases hc:c∈X.fs
  ·obtain ⟨sl,q⟩:=slot c o (I.cne x c e) hc nch ho (I.freeC x c e)
   exact ⟨_,q,hd⟩
  ·exact ⟨o,keep c o (I.cne x c e) hc nch ho (I.freeC x c e),hd⟩
 refine ⟨I.ok,I.os,hg,⟨fun b o e n hb hx=> ?_,fun b o e n hb hx=> ?_,fun b o e n hx=> ?_,fun b o e hx=> ?_,fun b xs e=>tups b xs (I.base.tups b xs e),fun b o xs e=>frzs b o xs (I.base.frzs b o xs e),fun b ps e=> ?_⟩,?_,fun x c e=> ?_,?_,fun x c e=> ?_,fun p hp=> ?_,hok,I.len⟩
 ·exact keep b o (neL b o e) hb (neC b o e hx) (I.base.keep b o e n hb hx) (I.base.free b o e n hx)
 ·obtain ⟨sl,e1⟩:=I.base.slot b o e n hb hx
  obtain ⟨sl',e2⟩:=slot b _ (neL b o e) hb (neC b o e hx) e1 (I.base.free b o e n hx)
  exact ⟨sl',e2⟩
 ·obtain ⟨o',e1⟩:=I.base.there b o e hx
  exact free b o' (neC b o e hx) e1 (I.base.free b o e n hx)
 ·obtain ⟨o',e1⟩:=I.base.there b o e hx
  exact there b o' (neC b o e hx) e1
 ·obtain ⟨m1,e1⟩:=I.base.tbls b ps e
  obtain ⟨m2,e2⟩:=tbls b _ e1
  exact ⟨m1++m2,by rw [e2,Array.append_assoc]⟩
 ·obtain ⟨m,hn,hl⟩:=I.loc
  refine ⟨m,ns m hn,fun i x v e1 e2 e3=> ?_⟩
  obtain ⟨u,r,l⟩:=hl i x v e1 e2 e3
  refine ⟨u,r,?_⟩
  rcases l with l|⟨k,c,e,z⟩
  ·exact .inl l
  ·exact .inr ⟨k,c,e,cellK x c e _ z⟩
 ·obtain ⟨v,z⟩:=I.cell x c e
  exact ⟨v,cellK x c e v z⟩
 ·obtain ⟨m,⟨o,_,_,ho,_⟩,_⟩:=I.loc
  exact free _ o (fun z=>(hch _ z).2.1 rfl) ho I.free
 ·obtain ⟨v,o,ho,hd⟩:=I.cell x c e
  exact free c o (fun z=>(hch c z).2.2.1 x c e rfl) ho (I.freeC x c e)
 ·obtain ⟨e,n,ne,nf,d⟩:=I.pin p hp
  have nch:p.1∉ch:=fun z=>(hch p.1 z).2.2.2 p hp rfl
  exact ⟨keep p.1 p.2 ne nf nch e n,free p.1 p.2 nch e n,ne,nf,d⟩
theorem Inv.un {t':Nat} (I:Inv X pins σ H s) (u:Un X.fs [] H H' s.heap h') (hok:HOk X.prog X.w H' h'):Inv X pins σ H' {s with heap:=h',toks:=t'}:=by
 obtain ⟨m,⟨o,es,ep,ho,r⟩,_⟩:=id I.loc
 obtain ⟨sl,hL⟩:=u.any ho I.free (by simp)
 exact I.step (g':=s.gens) (d':=s.drawn) (ch:=[]) (fun _ z=>nomatch z) (fun b o _ hb _ e n=>u.keep b o e n hb (by simp)) (fun b o _ hb _ e n=>u.slot b o e n hb (by simp)) (fun b o _ e n=>u.free b o e n (by simp)) (fun b o _ e=>u.there b o e (by simp)) u.tups u.frzs u.tbls (fun m' hm=>by
  obtain ⟨o',es',ep',ho',r'⟩:=hm
  rw [ho] at ho';cases ho'
  exact ⟨_,es',ep',hL,r'⟩) hok I.bare
theorem Inv.call {g':Array GenState} {t':Nat} {d':Drawn} {ch:List Addr} (I:Inv X pins σ H s) (u:Un (frs X.stack) ch H H' s.heap h') (hok:HOk X.prog X.w H' h') (hg:AllBare g')
  (hch:∀b∈ch,(b∈X.ex∨X.s₀.heap.objs.size≤b)∧b≠X.env.locals∧(∀x c,X.env.cells.lookup x=some c→c≠b)∧∀p∈X.pn++pins,p.1≠b):
  Inv X pins σ H' {s with heap:=h',gens:=g',drawn:=d',toks:=t'}:=by
 obtain ⟨m,⟨o,es,ep,ho,r⟩,_⟩:=id I.loc
 obtain ⟨sl,hL⟩:=u.any ho I.free fun z=>(hch _ z).2.1 rfl
 exact I.step (ch:=ch) hch (fun b o hL hb hc e n=>u.keep b o e n (fun z=>(List.mem_cons.mp (I.stkSub b z)).elim hL hb) hc) (fun b o _ _ hc e n=>u.any e n hc) (fun b o hc e n=>u.free b o e n hc) (fun b o hc e=>u.there b o e hc) u.tups u.frzs u.tbls (fun m' hm=>by
  obtain ⟨o',es',ep',ho',r'⟩:=hm
  rw [ho] at ho';cases ho'
  exact ⟨_,es',ep',hL,r'⟩) hok hg
theorem Inv.turned {t':Nat} {it:Addr} (I:Inv X pins σ H s) (k:∀b o,b≠it→s.heap.get? b=some o→h'.get? b=some o) (hn:H it=none) (hL:it≠X.env.locals)
  (h1:it∈X.ex∨X.s₀.heap.objs.size≤it) (h2:∀x c,X.env.cells.lookup x=some c→c≠it) (h3:∀p∈X.pn++pins,p.1≠it):Inv X pins σ H {s with heap:=h',toks:=t'}:=by
 have nit:∀b u,H b=some u→b≠it:=fun b u e z=>by rw [z,hn] at e;cases e
 refine I.step (g':=s.gens) (d':=s.drawn) (ch:=[it]) (fun b hb=> ?_) (fun b o _ _ hc e _=>k b o (fun z=>hc (by simp [z])) e) (fun b o _ _ hc e _=>⟨o.slots,k b o (fun z=>hc (by simp [z])) e⟩) (fun _ _ _ _ n=>n)
  (fun b o hc e=>⟨o,k b o (fun z=>hc (by simp [z])) e⟩) (fun _ _ e=>e) (fun _ _ _ e=>e) (fun b ps e=>⟨#[],by rw [e];simp⟩) (fun m hm=> ?_) (fun b u e=> ?_) I.bare
 ·have e:b=it:=by simpa using hb
  subst e
  exact ⟨h1,hL,h2,h3⟩
 ·obtain ⟨o,es,ep,ho,r⟩:=hm
  exact ⟨o,es,ep,k _ o (Ne.symm hL) ho,r⟩
 ·refine (I.hok b u e).stay (fun c v hc q=>k c v ?_ q) (fun _ q=>q) fun _ _ q=>q
  rcases hc with z|z
  ·rw [z];exact nit b u e
  ·exact nit c _ z
theorem Inv.tok (I:Inv X pins σ H s) (t:Nat):Inv X pins σ H {s with toks:=t}:=I.un (h':=s.heap) (t':=t) Un.refl I.hok
theorem Inv.kept {t':Nat} (I:Inv X pins σ H s) (k:∀b u,s.heap.get? b=some u→h'.get? b=some u):Inv X pins σ H {s with heap:=h',toks:=t'}:=I.un (Un.kept k) (I.hok.kept k)
theorem Inv.laid {a:Addr} {o:HO} {t':Nat} (I:Inv X pins σ H s) (k:∀b u,s.heap.get? b=some u→h'.get? b=some u) (hp:s.heap.objs.size≤a) (new:xC X.prog X.w (upd H a o) h' a o):
  Inv X pins σ (upd H a o) {s with heap:=h',toks:=t'}:=I.un (Un.laid k hp (I.hok.fresh hp)) (I.hok.laid k hp new)
theorem Inv.write {x e:Addr} {o:HO} {t':Nat} (I:Inv X pins σ H s) (mu:Mut (H x)) (he:e=x∨H e=some (.own x)) (k:∀b u,b≠e→s.heap.get? b=some u→h'.get? b=some u) (heo:∃u,h'.get? e=some u)
  (new:xC X.prog X.w (upd H x o) h' x o):Inv X pins σ (upd H x o) {s with heap:=h',toks:=t'}:=I.un (Un.write mu he k heo) (I.hok.write mu he k heo new)
theorem Inv.weak {σ':List (Option V)} (I:Inv X pins σ H s) (hl:σ'.length=σ.length) (w:∀(i:Nat) v,σ'[i]? =some (some v)→σ[i]? =some (some v)):Inv X pins σ' H s:=
 ⟨I.ok,I.os,I.bare,I.base,let ⟨m,hn,hl'⟩:=I.loc;⟨m,hn,fun i x v e1 e2 e3=>hl' i x v e1 (w i v e2) e3⟩,I.cell,I.free,I.freeC,I.pin,I.hok,hl.trans I.len⟩
theorem Inv.pins_of {pins':List (Addr×Obj)} (I:Inv X pins σ H s) (h:∀p∈pins',s.heap.get? p.1=some p.2∧H p.1=none∧p.1≠X.env.locals∧p.1∉X.fs∧∀v,p.2.data≠ .cell v):Inv X pins' σ H s:=
 ⟨I.ok,I.os,I.bare,I.base,I.loc,I.cell,I.free,I.freeC,fun p hp=>(List.mem_append.mp hp).elim (fun z=>I.pin p (List.mem_append_left _ z)) (h p),I.hok,I.len⟩

theorem zdg {N:List Str} (hN:N.Nodup) {i j:Nat} {x:Str} (a:N[i]? =some x) (b:N[j]? =some x):i=j:=by
 obtain ⟨h1,e1⟩:=List.getElem?_eq_some_iff.mp a
 obtain ⟨h2,e2⟩:=List.getElem?_eq_some_iff.mp b
 exact (List.getElem_inj hN).mp (e1.trans e2.symm)

theorem zbP {M:Model} {A:Around} {E:Value→Shared→Prop} {i:Nat} {x:Str} {v:V} {u:Value} {Q:Unit→Shared→Prop} (I:Inv X pins σ H s) (hN:X.N.Nodup) (hi:X.N[i]? =some x) (hx:Loc X.env.scope x) (r:yA v u)
  (h:∀s',Inv X pins (σ.set i (some v)) H s'→(∃a,Heap.SameBut a s.heap s'.heap∧(a=X.env.locals∨X.env.cells.lookup x=some a))→Q () s') (hf:X.fn x=true∨X.env.scope.names.lookup x=some .local:=by first|exact .inl rfl|exact .inr rfl|assumption):wpAny M A (storeName X.env x u) Q E s:=by
 obtain ⟨m,hn,hl⟩:=id I.loc
 have hcls:(X.env.scope.kind== .class||(X.env.scope.kind== .module&&X.env.locals !=X.env.globals))=false:=by rw [I.ok.kind];rfl
 have hiσ:i<σ.length:=by rw [I.len];exact (List.getElem?_eq_some_iff.mp hi).1
 have cne:=I.cne
 have tracked:∀{a:Addr} {h':Heap},(∃o,s.heap.get? a=some o∧H a=none)→Heap.SameBut a s.heap h'→HOk X.prog X.w H h':=fun {a h'} ha hs b ob e=>by
  obtain ⟨_,_,hfree⟩:=ha
  refine (I.hok b ob e).stay (fun c w' hc q=>(hs.2 c ?_).trans q) (fun _ q=>q) fun _ _ q=>q
  rintro rfl
  rcases hc with rfl|hc
  ·rw [hfree] at e;cases e
  ·rw [hfree] at hc;cases hc
 rcases hx with hk|hk
 ·refine wpAny_storeName_local hk hn (fun h' hn' hs=> ?_) hcls
  obtain ⟨oL,_,_,hoL,_⟩:=id hn
  refine h _ ⟨I.ok,I.os,I.bare,⟨fun b o e n hb hx=> ?_,fun b o e n hb hx=> ?_,I.base.free,fun b o e hx=> ?_,I.base.tups,I.base.frzs,I.base.tbls⟩,⟨_,hn',fun j y v' e1 e2 e3=> ?_⟩,fun y c e=> ?_,I.free,I.freeC,fun p hp=> ?_,tracked ⟨oL,hoL,I.free⟩ hs,by simpa using I.len⟩ ⟨_,hs,.inl rfl⟩
  ·exact (hs.2 b (Nat.ne_of_lt (Nat.lt_of_lt_of_le (Heap.lt_size e) I.ok.above))).trans (I.base.keep b o e n hb hx)
  ·obtain ⟨sl,e1⟩:=I.base.slot b o e n hb hx
   exact ⟨sl,(hs.2 b (Nat.ne_of_lt (Nat.lt_of_lt_of_le (Heap.lt_size e) I.ok.above))).trans e1⟩
  ·obtain ⟨o',e1⟩:=I.base.there b o e hx
   exact ⟨o',(hs.2 b (Nat.ne_of_lt (Nat.lt_of_lt_of_le (Heap.lt_size e) I.ok.above))).trans e1⟩
  ·by_cases hj:j=i
   ·subst hj
    rw [hi] at e1;cases e1
    rw [List.getElem?_set_self hiσ] at e2
    cases e2
    exact ⟨u,r,.inl ⟨hk,by simp⟩⟩
   ·rw [List.getElem?_set_ne (Ne.symm hj)] at e2
    obtain ⟨u',r',q⟩:=hl j y v' e1 e2 e3
    refine ⟨u',r',?_⟩
    rcases q with ⟨k,e⟩|⟨k,c,e,z⟩
    ·refine .inl ⟨k,?_⟩
     have:y≠x:=fun e=>hj (zdg hN e1 (e ▸ hi))
     simp [this,e]
    ·exact .inr ⟨k,c,e,z.sameBut hs (cne y c e)⟩
  ·obtain ⟨w',z⟩:=I.cell y c e
   exact ⟨w',z.sameBut hs (cne y c e)⟩
  ·obtain ⟨e,n,ne,nf,d⟩:=I.pin p hp
   exact ⟨(hs.2 p.1 ne).trans e,n,ne,nf,d⟩
 ·have hfn:X.fn x=true:=by
   rcases hf with z|z
   ·exact z
   ·rw [z] at hk;cases hk
  obtain ⟨c,hc⟩:=I.ok.has x (.inl hk)
  obtain ⟨w',z⟩:=I.cell x c hc
  refine wpAny_storeName_cell I.ok.kind hk hc z (fun h' hc' hs=> ?_)
  obtain ⟨oc,hoc,hocd⟩:=id z
  refine h {s with heap:=h'} ⟨I.ok,I.os,I.bare,⟨fun b o e n hb hx=> ?_,fun b o e n hb hx=> ?_,I.base.free,fun b o e hx=> ?_,I.base.tups,I.base.frzs,I.base.tbls⟩,⟨m,hn.sameBut hs (Ne.symm (cne x c hc)),fun j y v' e1 e2 e3=> ?_⟩,fun y c' e=> ?_,I.free,I.freeC,fun p hp=> ?_,tracked ⟨oc,hoc,I.freeC x c hc⟩ hs,by simpa using I.len⟩ ⟨c,hs,.inr hc⟩
  ·exact (hs.2 b (Nat.ne_of_lt (Nat.lt_of_lt_of_le (Heap.lt_size e) (I.ok.cab x c hfn hc)))).trans (I.base.keep b o e n hb hx)
  ·obtain ⟨sl,e1⟩:=I.base.slot b o e n hb hx
   exact ⟨sl,(hs.2 b (Nat.ne_of_lt (Nat.lt_of_lt_of_le (Heap.lt_size e) (I.ok.cab x c hfn hc)))).trans e1⟩
  ·obtain ⟨o',e1⟩:=I.base.there b o e hx
   exact ⟨o',(hs.2 b (Nat.ne_of_lt (Nat.lt_of_lt_of_le (Heap.lt_size e) (I.ok.cab x c hfn hc)))).trans e1⟩
  ·by_cases hj:j=i
   ·subst hj
    rw [hi] at e1;cases e1
    rw [List.getElem?_set_self hiσ] at e2
    cases e2
    exact ⟨u,r,.inr ⟨.inl hk,c,hc,hc'⟩⟩
   ·rw [List.getElem?_set_ne (Ne.symm hj)] at e2
    obtain ⟨u',r',q⟩:=hl j y v' e1 e2 e3
    refine ⟨u',r',?_⟩
    rcases q with q|⟨k,c',e,z'⟩
    ·exact .inl q
    ·refine .inr ⟨k,c',e,z'.sameBut hs ?_⟩
     rintro rfl
     exact hj (zdg hN e1 (I.ok.inj _ _ _ e hc ▸ hi))
  ·by_cases hcc:c'=c
   ·subst hcc;exact ⟨_,hc'⟩
   ·obtain ⟨w2,z2⟩:=I.cell y c' e
    exact ⟨w2,z2.sameBut hs hcc⟩
  ·obtain ⟨e,n,ne,nf,d⟩:=I.pin p hp
   refine ⟨(hs.2 p.1 ?_).trans e,n,ne,nf,d⟩
   intro q
   rw [q,hoc] at e
   have q':oc=p.2:=Option.some.inj e
   exact d w' (by rw [←q'];exact hocd)
theorem zdh {M:Model} {A:Around} {E:Value→Shared→Prop} {i:Nat} {x:Str} {v:V} {u:Value} {Q:Unit→Shared→Prop} (I:Inv X pins σ H s) (hN:X.N.Nodup) (hi:X.N[i]? =some x) (hx:Loc X.env.scope x) (r:yA v u)
  (h:∀s',Inv X pins (σ.set i (some v)) H s'→Q () s') (hf:X.fn x=true∨X.env.scope.names.lookup x=some .local:=by first|exact .inl rfl|exact .inr rfl|assumption):wpAny M A (storeName X.env x u) Q E s:=
 zbP I hN hi hx r (fun s' I' _=>h s' I') hf
theorem Inv.call' {s':Shared} {ch:List Addr} (I:Inv X pins σ H s) (ho:s'.os=s.os) (u:Un (frs X.stack) ch H H' s.heap s'.heap) (hok:HOk X.prog X.w H' s'.heap) (hg:AllBare s'.gens)
  (hch:∀b∈ch,(b∈X.ex∨X.s₀.heap.objs.size≤b)∧b≠X.env.locals∧(∀x c,X.env.cells.lookup x=some c→c≠b)∧∀p∈X.pn++pins,p.1≠b):Inv X pins σ H' s':=by
 obtain ⟨h',g',d',t',o'⟩:=s'
 have e:o'=s.os:=ho
 subst e
 exact I.call (g':=g') (t':=t') (d':=d') u hok hg hch
end

noncomputable abbrev XK:=Value→Option Addr→Hp→Prop
noncomputable abbrev St:=List (Option V)
noncomputable abbrev VK:=V→Hp→Prop
noncomputable abbrev TE:=St→Hp→VK→Prop
noncomputable abbrev TT:=St→Hp→(Bool→Hp→Prop)→Prop
noncomputable abbrev TA:=St→Hp→(List V→Hp→Prop)→Prop
structure UO where
 nx:St→Hp→Prop
 rt:VK
 bk:St→Hp→Prop:=fun _ _=>False
 ct:St→Hp→Prop:=fun _ _=>False
noncomputable abbrev TS:=UO→St→Hp→Prop

noncomputable def EP (X:Cx) (pins:List (Addr×Obj)) (σ:St) (Q:VK) (u:Value) (s':Shared):Prop:=∃v H',Inv X pins σ H' s'∧yA v u∧Q v H'
noncomputable def TP (X:Cx) (pins:List (Addr×Obj)) (σ:St) (Q:Bool→Hp→Prop) (b:Bool) (s':Shared):Prop:=∃H',Inv X pins σ H' s'∧Q b H'
noncomputable def AP (X:Cx) (pins:List (Addr×Obj)) (σ:St) (Q:List V→Hp→Prop) (us:List Value) (s':Shared):Prop:=∃vs H',Inv X pins σ H' s'∧yr vs us∧Q vs H'
noncomputable def SP (X:Cx) (pins:List (Addr×Obj)) (D:UO) (f:Flow) (s':Shared):Prop:=
 match f with
 | .next=>∃σ' H',Inv X pins σ' H' s'∧D.nx σ' H'
 | .brk=>∃σ' H',Inv X pins σ' H' s'∧D.bk σ' H'
 | .cont=>∃σ' H',Inv X pins σ' H' s'∧D.ct σ' H'
 | .ret u=>∃v σ' H',Inv X pins σ' H' s'∧yA v u∧D.rt v H'

noncomputable def PE (X:Cx) (e:Expr) (t:TE):Prop:=
 ∀(pins:List (Addr×Obj)) (s:Shared) (σ:St) (H:Hp) (Q:VK),Inv X pins σ H s→t σ H Q→wpAny (model X.prog X.w) X.A (eval e X.env) (EP X pins σ Q) X.xe s
noncomputable def PT (X:Cx) (e:Expr) (t:TT):Prop:=
 ∀(pins:List (Addr×Obj)) (s:Shared) (σ:St) (H:Hp) (Q:Bool→Hp→Prop),Inv X pins σ H s→t σ H Q→wpAny (model X.prog X.w) X.A (isTrue e X.env (eval e X.env)) (TP X pins σ Q) X.xe s
noncomputable def PW (X:Cx) (e:Expr) (t:TT):Prop:=
 ∀(whole:Sem Value) (pins:List (Addr×Obj)) (s:Shared) (σ:St) (H:Hp) (Q:Bool→Hp→Prop),Inv X pins σ H s→t σ H Q→wpAny (model X.prog X.w) X.A (isTrue e X.env whole) (TP X pins σ Q) X.xe s
theorem PW.pt {X:Cx} {e:Expr} {t:TT} (h:PW X e t):PT X e t:=h _
noncomputable def PA (X:Cx) (es:List Expr) (t:TA):Prop:=
 ∀(pos:Pos) (pins:List (Addr×Obj)) (s:Shared) (σ:St) (H:Hp) (Q:List V→Hp→Prop),Inv X pins σ H s→t σ H Q→wpAny (model X.prog X.w) X.A (spliced (backTo pos (starEach es X.env))) (AP X pins σ Q) X.xe s
noncomputable def PS (X:Cx) (st:Stmt) (t:TS):Prop:=
 ∀(pins:List (Addr×Obj)) (s:Shared) (σ:St) (H:Hp) (D:UO),Inv X pins σ H s→t D σ H→wpAny (model X.prog X.w) X.A (exec st X.env) (SP X pins D) X.xe s
noncomputable def PSs (X:Cx) (st:List Stmt) (t:TS):Prop:=
 ∀(pins:List (Addr×Obj)) (s:Shared) (σ:St) (H:Hp) (D:UO),Inv X pins σ H s→t D σ H→wpAny (model X.prog X.w) X.A (execs st X.env) (SP X pins D) X.xe s
theorem thn {α:Type} {t:Sem α} {Q Q':α→Shared→Prop} {M:Model} {A:Around} {E:Value→Shared→Prop} {s:Shared} (h:wpAny M A t Q E s) (hQ:∀a s,Q a s→Q' a s):wpAny M A t Q' E s:=wpAny_mono h hQ fun _ _ x=>x
end L2

namespace L2
open PySem PySem.Spec PyProof.Rows
section
variable {X:Cx}

theorem bin {a b:Expr} {ta tb:TE} (ha:PE X a ta) (hb:PE X b tb) {pins:List (Addr×Obj)} {s:Shared} {σ:St} {H:Hp} {R:V→V→Hp→Prop} (I:Inv X pins σ H s) (h:ta σ H fun x H1=>tb σ H1 fun y H2=>R x y H2)
  {α:Type} {Q:α→Shared→Prop} {f:Value→Value→Sem α}
  (hf:∀v u s2 x y H2,Inv X pins σ H2 s2→yA x v→yA y u→R x y H2→wpAny (model X.prog X.w) X.A (f v u) Q X.xe s2):
  wpAny (model X.prog X.w) X.A (eval a X.env) (fun v s₁=>wpAny (model X.prog X.w) X.A (eval b X.env) (fun u s₂=>wpAny (model X.prog X.w) X.A (f v u) Q X.xe s₂) X.xe s₁) X.xe s:=by
 refine thn (ha pins s σ H _ I h) ?_
 rintro v s1 ⟨x,H1,I1,r1,q1⟩
 refine thn (hb pins s1 σ H1 _ I1 q1) ?_
 rintro u s2 ⟨y,H2,I2,r2,q2⟩
 exact hf v u s2 x y H2 I2 r1 r2 q2

noncomputable def zkr (i:Nat):TE:=fun σ H Q=>∃v,σ[i]? =some (some v)∧Q v H
noncomputable def tC (v:V):TE:=fun _ H Q=>Q v H
theorem zks {i:Nat} {x:Str} {pos:Pos} (hN:X.N[i]? =some x) (hv:Vis X.env.scope x) (hd:(x==("__debug__":Str))=false:=by decide) (hcd:(x==("__classdict__":Str))=false:=by decide):PE X (.Name x pos) (zkr i):=by
 intro pins s σ H Q I h
 obtain ⟨v,e,h⟩:=h
 obtain ⟨m,hn,hl⟩:=I.loc
 obtain ⟨u,r,l⟩:=hl i x v hN e hv
 have fin:EP X pins σ Q u s:=⟨v,H,I,r,h⟩
 rcases l with ⟨hk,hm⟩|⟨hk,c,hc,hcell⟩
 ·exact wpAny_Name (wpAny_loadName_local I.ok.kind hk hn hm fin) hd
 ·rcases hk with hk|hk
  ·exact wpAny_Name (wpAny_loadName_cell I.ok.kind hk hc hcell fin) hd
  ·exact wpAny_Name (wpAny_loadName_free I.ok.kind hk hc hcell fin hcd) hd
theorem zm {i j pos}:PE X (.Constant (.int i) j pos) (tC (.int i)):=fun _ _ _ H _ I h=>wpAny_Constant_int ⟨.int i,H,I.tok _,⟨_,rfl⟩,h⟩
theorem Wc {b j pos}:PE X (.Constant (.bool b) j pos) (tC (.bl b)):=fun _ _ _ H _ I h=>Constant_bool ⟨.bl b,H,I,rfl,h⟩
theorem zg5 {j pos}:PE X (.Constant .none j pos) (tC .non):=fun _ _ _ H _ I h=>Constant_none ⟨.non,H,I,rfl,h⟩
theorem zA {x j pos}:PE X (.Constant (.str x) j pos) (tC (.str x)):=fun _ _ _ H _ I h=>Calls.Constant_str ⟨.str x,H,I.tok _,⟨_,rfl⟩,h⟩

noncomputable def Gl (X:Cx) (x:Str):Prop:=X.env.kindOf x=some .globalImplicit
theorem zci {E:Value→Shared→Prop} {pins:List (Addr×Obj)} {s:Shared} {σ:St} {H:Hp} {x:Str} {u:Value} {pos:Pos} {Q:Value→Shared→Prop} (I:Inv X pins σ H s) (hg:Gl X x) (hm:X.mg x=some u) (h:Q u s)
  (hd:(x==("__debug__":Str))=false:=by decide):wpAny (model X.prog X.w) X.A (eval (.Name x pos) X.env) Q E s:=
 Calls.Name_function_global I.ok.kind hg (Calls.loadGlobal_global (by rw [I.ok.glob];exact I.mod.glob.keeps I.bk) hm h) hd
theorem Xm {E:Value→Shared→Prop} {pins:List (Addr×Obj)} {s:Shared} {σ:St} {H:Hp} {x:Str} {u:Value} {pos:Pos} {Q:Value→Shared→Prop} (I:Inv X pins σ H s) (hg:Gl X x) (hm:X.mg x=none) (hv:bootBuiltins x=some u) (h:Q u s)
  (hn:x≠"__name__":=by decide) (hd:(x==("__debug__":Str))=false:=by decide):wpAny (model X.prog X.w) X.A (eval (.Name x pos) X.env) Q E s:=by
 obtain ⟨mb,h1,h2⟩:=I.mod.blt
 exact Calls.Name_function_global I.ok.kind hg (Calls.loadGlobal_builtin (by rw [I.ok.glob];exact I.mod.glob.keeps I.bk) hm (by rw [I.ok.blt];exact h1.keeps I.bk) ((h2 x hn).trans hv) h) hd
theorem yZ {x:Str} {v:V} {u:Value} {pos:Pos} (hg:Gl X x) (hm:X.mg x=some u) (r:yA v u) (hd:(x==("__debug__":Str))=false:=by decide):PE X (.Name x pos) (tC v):=
 fun _ _ _ H _ I h=>zci I hg hm ⟨v,H,I,r,h⟩ hd
theorem zab {x:Str} {v:V} {u:Value} {pos:Pos} (hg:Gl X x) (hm:X.mg x=none) (hv:bootBuiltins x=some u) (r:yA v u) (hn:x≠"__name__":=by decide) (hd:(x==("__debug__":Str))=false:=by decide):PE X (.Name x pos) (tC v):=
 fun _ _ _ H _ I h=>Xm I hg hm hv ⟨v,H,I,r,h⟩ hn hd

noncomputable def t2I (ta tb:TE) (k:Int→Int→Hp→Prop):St→Hp→Prop:=fun σ H=>ta σ H fun x H1=>tb σ H1 fun y H2=>∃i j,x= .int i∧y= .int j∧k i j H2
variable {a b:Expr} {ta tb:TE} {pos:Pos}

noncomputable def PC (X:Cx) (op:CmpOp) (a b:Expr) (t:TE):Prop:=
 ∀(pins:List (Addr×Obj)) (s:Shared) (σ:St) (H:Hp) (Q:VK),Inv X pins σ H s→t σ H Q→
  wpAny (model X.prog X.w) X.A (eval a X.env) (fun v s₁=>wpAny (model X.prog X.w) X.A (eval b X.env) (fun u s₂=>wpAny (model X.prog X.w) X.A (compareOp op v u) (EP X pins σ Q) X.xe s₂) X.xe s₁) X.xe s
theorem zdi (b:Expr) {op:CmpOp} (h:op≠ .In) (h2:op≠ .NotIn):behindInMarks op b=false:=by
 have e1:(op==CmpOp.In)=false:=by cases op<;>first|rfl|exact absurd rfl h
 have e2:(op==CmpOp.NotIn)=false:=by cases op<;>first|rfl|exact absurd rfl h2
 cases b<;>simp [behindInMarks,e1,e2]
noncomputable def zdj (p:Int→Int→Bool) (ta tb:TE):TE:=fun σ H Q=>t2I ta tb (fun i j H2=>Q (.bl (p i j)) H2) σ H
noncomputable abbrev tLt:TE→TE→TE:=zdj fun i j=>decide (i<j)
noncomputable abbrev tLe:TE→TE→TE:=zdj fun i j=>decide (i≤j)
noncomputable abbrev tGt:TE→TE→TE:=zdj fun i j=>decide (j<i)
noncomputable abbrev tGe:TE→TE→TE:=zdj fun i j=>decide (j≤i)
noncomputable abbrev zlW:TE→TE→TE:=zdj fun i j=>decide (i=j)
noncomputable abbrev zlX:TE→TE→TE:=zdj fun i j=> !decide (i=j)
theorem zan {op:CmpOp} {p:Int→Int→Bool} (ha:PE X a ta) (hb:PE X b tb)
  (rule:∀(i j:Int) (t u:Tok) (Q:Value→Shared→Prop) (s:Shared),Q (.bool (p i j)) s→wpAny (model X.prog X.w) X.A (compareOp op (.int i t) (.int j u)) Q X.xe s):PC X op a b (zdj p ta tb):=by
 intro pins s σ H Q I h
 refine bin ha hb I h fun v u s2 x y H2 I2 rx ry q=> ?_
 obtain ⟨i,j,rfl,rfl,q⟩:=q
 obtain ⟨t,rfl⟩:=rx
 obtain ⟨t',rfl⟩:=ry
 exact rule i j t t' _ s2 ⟨.bl _,H2,I2,rfl,q⟩
theorem zfv (ha:PE X a ta) (hb:PE X b tb):PC X .Lt a b (tLt ta tb):=zan ha hb fun _ _ _ _ _ _ h=>lt_int h
theorem zg6 (ha:PE X a ta) (hb:PE X b tb):PC X .LtE a b (tLe ta tb):=zan ha hb fun _ _ _ _ _ _ h=>le_int h
theorem Wi (ha:PE X a ta) (hb:PE X b tb):PC X .Gt a b (tGt ta tb):=zan ha hb fun _ _ _ _ _ _ h=>gt_int h
theorem xR (ha:PE X a ta) (hb:PE X b tb):PC X .Eq a b (zlW ta tb):=zan ha hb fun _ _ _ _ _ _ h=>eq_int (by rw [Bool.beq_eq_decide_eq];exact h)
theorem UP (ha:PE X a ta) (hb:PE X b tb):PC X .NotEq a b (zlX ta tb):=zan ha hb fun _ _ _ _ _ _ h=>ne_int (by rw [bne,Bool.beq_eq_decide_eq];exact h)
noncomputable def zlY (ta:TE):TE:=fun σ H Q=>ta σ H fun x H1=>Q (.bl (decide (x= .non))) H1
noncomputable def zjN (ta:TE):TE:=fun σ H Q=>ta σ H fun x H1=>Q (.bl (!decide (x= .non))) H1
theorem yA.none_iff {x:V} {v:Value} (r:yA x v):(v==Value.none)=decide (x= .non):=by
 cases x with
 |non=>cases r;rfl
 |bl _=>cases r;rfl
 |int _=>obtain ⟨t,rfl⟩:=r;rfl
 |str _=>obtain ⟨t,rfl⟩:=r;rfl
 |byt _=>obtain ⟨t,rfl⟩:=r;rfl
 |flt _=>obtain ⟨t,rfl⟩:=r;rfl
 |ref _=>cases r;rfl
 |ty _=>cases r;rfl
theorem zkt {j pos'} (ha:PE X a ta):PC X .Is a (.Constant .none j pos') (zlY ta):=by
 intro pins s σ H Q I h
 refine thn (ha pins s σ H _ I h) ?_
 rintro v s1 ⟨x,H1,I1,r1,q1⟩
 exact Constant_none (is_none_gen ⟨.bl _,H1,I1,by rw [r1.none_iff];rfl,q1⟩)
theorem ziA {j pos'} (ha:PE X a ta):PC X .IsNot a (.Constant .none j pos') (zjN ta):=by
 intro pins s σ H Q I h
 refine thn (ha pins s σ H _ I h) ?_
 rintro v s1 ⟨x,H1,I1,r1,q1⟩
 exact Constant_none (isnot_none_gen ⟨.bl _,H1,I1,by rw [r1.none_iff];rfl,q1⟩)
noncomputable def tB (t:TE):TT:=fun σ H Q=>t σ H fun x H1=>∃c,x= .bl c∧Q c H1
theorem zao {op:CmpOp} {t:TE} (h:PC X op a b t) (h1:behindInMarks op b=false:=by first|exact zdi _ (by decide) (by decide)|rfl):PE X (.Compare a [op] [b] pos) t:=fun pins s σ H Q I hw=>wpAny_Compare1 (h pins s σ H Q I hw) h1
theorem ym {op:CmpOp} {t:TE} (h:PC X op a b t) (h1:behindInMarks op b=false:=by first|exact zdi _ (by decide) (by decide)|rfl):PT X (.Compare a [op] [b] pos) (tB t):=by
 intro pins s σ H Q I hw
 refine wpAny_isTrue_Compare1 (thn (h pins s σ H _ I hw) fun v s1 h1=>thn h1 fun u s2 h2=>thn h2 ?_) h1
 rintro c s3 ⟨x,H1,I1,r1,q1⟩
 obtain ⟨d,rfl,q⟩:=q1
 cases r1
 exact wpAny_truthy_bool ⟨H1,I1,q⟩
theorem wR {e:Expr} {t:TE} (h:PE X e t) (he:∀whole,isTrue e X.env whole=(do let v ←whole;standAt e.pos;holding [v] (truthy v)):=by intro _;rfl):PT X e (tB t):=by
 intro pins s σ H Q I hw
 refine isTrue_plain (thn (h pins s σ H _ I hw) ?_) (he _)
 rintro v s1 ⟨x,H1,I1,r1,q1⟩
 obtain ⟨d,rfl,q⟩:=q1
 cases r1
 exact wpAny_truthy_bool ⟨H1,I1,q⟩

variable {tA tB':TT} {rest:List Expr}
noncomputable def zlZ (t u:TT):TT:=fun σ H Q=>t σ H fun c H1=>if c=true then u σ H1 Q else Q false H1
noncomputable def tOr (t u:TT):TT:=fun σ H Q=>t σ H fun c H1=>if c=true then Q true H1 else u σ H1 Q
noncomputable def zl0 (t:TT):TT:=fun σ H Q=>t σ H fun c H1=>Q (!c) H1
theorem wD (ha:PT X a tA):PW X (.BoolOp .And [a] pos) tA:=by
 intro wh pins s σ H Q I h
 refine isTrue_and (thn (ha pins s σ H Q I h) fun c s1 e=> ?_)
 cases c with
 |true=>exact isTrue_and_nil e
 |false=>exact e
theorem Xn (ha:PT X a tA):PW X (.BoolOp .Or [a] pos) tA:=by
 intro wh pins s σ H Q I h
 refine isTrue_or (thn (ha pins s σ H Q I h) fun c s1 e=> ?_)
 cases c with
 |false=>exact isTrue_or_nil e
 |true=>exact e
theorem Zd (ha:PT X a tA) (hb:PW X (.BoolOp .And (b::rest) pos) tB'):PW X (.BoolOp .And (a::b::rest) pos) (zlZ tA tB'):=by
 intro wh pins s σ H Q I h
 refine isTrue_and (thn (ha pins s σ H _ I h) ?_)
 rintro c s1 ⟨H1,I1,q1⟩
 cases c with
 |true=>exact hb wh pins s1 σ H1 Q I1 q1
 |false=>exact ⟨H1,I1,q1⟩
theorem VT (ha:PT X a tA) (hb:PW X (.BoolOp .Or (b::rest) pos) tB'):PW X (.BoolOp .Or (a::b::rest) pos) (tOr tA tB'):=by
 intro wh pins s σ H Q I h
 refine isTrue_or (thn (ha pins s σ H _ I h) ?_)
 rintro c s1 ⟨H1,I1,q1⟩
 cases c with
 |true=>exact ⟨H1,I1,q1⟩
 |false=>exact hb wh pins s1 σ H1 Q I1 q1
theorem wS (ha:PT X a tA):PT X (.UnaryOp .Not a pos) (zl0 tA):=by
 intro pins s σ H Q I h
 exact isTrue_not (ha pins s σ H (fun c H1=>Q (!c) H1) I h)
noncomputable def zjO (ta tb:TE):TE:=fun σ H Q=>ta σ H fun x H1=>∃c,x= .bl c∧if c=true then tb σ H1 Q else Q (.bl false) H1
noncomputable def zl1 (ta tb:TE):TE:=fun σ H Q=>ta σ H fun x H1=>∃c,x= .bl c∧if c=true then Q (.bl true) H1 else tb σ H1 Q
noncomputable def zjP (ta:TE):TE:=fun σ H Q=>ta σ H fun x H1=>∃c,x= .bl c∧Q (.bl (!c)) H1
theorem zap {op} {t:TE} (h:PE X a t):PE X (.BoolOp op [a] pos) t:=fun pins s σ H Q I hw=>BoolOp_one (h pins s σ H Q I hw)
theorem zcj (ha:PE X a ta) (hb:PE X (.BoolOp .And (b::rest) pos) tb):PE X (.BoolOp .And (a::b::rest) pos) (zjO ta tb):=by
 intro pins s σ H Q I h
 refine BoolOp_and (thn (ha pins s σ H _ I h) ?_)
 rintro v s1 ⟨x,H1,I1,r1,q1⟩
 obtain ⟨c,rfl,q1⟩:=q1
 cases r1
 refine wpAny_truthy_bool ?_
 cases c with
 |true=>exact hb pins s1 σ H1 Q I1 q1
 |false=>exact ⟨.bl false,H1,I1,rfl,q1⟩
theorem zl2 (ha:PE X a ta) (hb:PE X (.BoolOp .Or (b::rest) pos) tb):PE X (.BoolOp .Or (a::b::rest) pos) (zl1 ta tb):=by
 intro pins s σ H Q I h
 refine BoolOp_or (thn (ha pins s σ H _ I h) ?_)
 rintro v s1 ⟨x,H1,I1,r1,q1⟩
 obtain ⟨c,rfl,q1⟩:=q1
 cases r1
 refine wpAny_truthy_bool ?_
 cases c with
 |false=>exact hb pins s1 σ H1 Q I1 q1
 |true=>exact ⟨.bl true,H1,I1,rfl,q1⟩
theorem zku (ha:PE X a ta):PE X (.UnaryOp .Not a pos) (zjP ta):=by
 intro pins s σ H Q I h
 refine UnaryOp_ (thn (ha pins s σ H _ I h) ?_)
 rintro v s1 ⟨x,H1,I1,r1,q1⟩
 obtain ⟨c,rfl,q1⟩:=q1
 cases r1
 exact not_of (wpAny_truthy_bool ⟨.bl (!c),H1,I1,rfl,q1⟩)
noncomputable def tIf (t:TT) (ta tb:TE):TE:=fun σ H Q=>t σ H fun c H1=>if c=true then ta σ H1 Q else tb σ H1 Q
theorem zg7 {c:Expr} (hc:PT X c tA) (ha:PE X a ta) (hb:PE X b tb):PE X (.IfExp c a b pos) (tIf tA ta tb):=by
 intro pins s σ H Q I h
 refine wpAny_IfExp (thn (hc pins s σ H _ I h) ?_)
 rintro d s1 ⟨H1,I1,q1⟩
 cases d with
 |true=>exact ha pins s1 σ H1 Q I1 q1
 |false=>exact hb pins s1 σ H1 Q I1 q1
end
end L2

namespace L2
open PySem PySem.Spec PyProof.Rows

noncomputable def SqL (K:PySem.W.Frag) (H:Hp) (a:Addr) (xs:List V):Prop:=
 Rd H a (.lst xs)∨
  ∃(o:Obj) (its:Array Value) (n:Nat),K.lookup a=some o∧o.cls= .type "list"∧o.dict=none∧o.data= .seq its n∧its.size≤sizeLine∧yr xs its.toList
noncomputable def SqT (K:PySem.W.Frag) (H:Hp) (a:Addr) (xs:List V):Prop:=
 Rd H a (.tup xs)∨
  ∃(o:Obj) (its:Array Value) (n:Nat),K.lookup a=some o∧o.cls= .type "tuple"∧o.data= .seq its n∧its.size≤sizeLine∧yr xs its.toList
noncomputable def SqX (K:PySem.W.Frag) (H:Hp) (a:Addr) (xs:List V):Prop:=
 Rd H a (.lst xs)∨∃(its:Array Value) (n:Nat),K.lookup a=some {cls:= .type "list",data:= .seq its n}∧its.size≤sizeLine∧yr xs its.toList
theorem SqX.sql {K:PySem.W.Frag} {H:Hp} {a:Addr} {xs:List V} (h:SqX K H a xs):SqL K H a xs:=by
 rcases h with h|⟨its,n,hk,hz,r⟩
 ·exact .inl h
 ·exact .inr ⟨_,its,n,hk,rfl,rfl,rfl,hz,r⟩
theorem SqX.of {K:PySem.W.Frag} {H:Hp} {a:Addr} {xs:List V} (h:H a=some (.lst xs)):SqX K H a xs:= .inl (.inl h)
noncomputable def znb:Value→Option V
 | .none=>some .non
 | .bool b=>some (.bl b)
 | .int i _=>some (.int i)
 | .str x _=>some (.str x)
 | .bytes b _=>some (.byt b)
 | .float b _=>some (.flt b)
 | .ref a=>some (.ref a)
 | .type n=>some (.ty n)
 |_=>none
theorem yA.abs {x:V} {u:Value} (r:yA x u):znb u=some x:=by
 cases x with
 |non=>cases r;rfl
 |bl _=>cases r;rfl
 |int _=>obtain ⟨t,rfl⟩:=r;rfl
 |str _=>obtain ⟨t,rfl⟩:=r;rfl
 |byt _=>obtain ⟨t,rfl⟩:=r;rfl
 |flt _=>obtain ⟨t,rfl⟩:=r;rfl
 |ref _=>cases r;rfl
 |ty _=>cases r;rfl
theorem yA.inj {x y:V} {u:Value} (r:yA x u) (q:yA y u):x=y:=Option.some.inj (r.abs.symm.trans q.abs)
theorem yr.inj:∀{xs ys:List V} {us:List Value},yr xs us→yr ys us→xs=ys
 |_,_,_,.nil,.nil=>rfl
 |_,_,_,.cons r t,.cons r' t'=>by rw [r.inj r',yr.inj t t']
section
variable {X:Cx} {pins:List (Addr×Obj)} {σ:St} {H:Hp} {s:Shared} {a:Addr} {xs ys:List V}
theorem SqT.of {K:PySem.W.Frag} (h:H a=some (.tup xs)):SqT K H a xs:= .inl (.inl h)
theorem Inv.list (I:Inv X pins σ H s) (h:SqL X.K H a xs):∃its:List Value,yr xs its∧PlainL s.heap a its.toArray∧xs.length≤sizeLine:=by
 rcases h with h|⟨o,its,n,hk,hc,hd,hs,hz,r⟩
 ·obtain ⟨z,its,n,r,e⟩:=h.ok I.hok
  exact ⟨its,r,⟨_,n,e,rfl,rfl,rfl⟩,z⟩
 ·refine ⟨its.toList,r,⟨o,n,I.kIn a o hk,hc,hd,by simpa using hs⟩,?_⟩
  have e:=r.length
  simp only [Array.length_toList] at e
  omega
theorem Inv.tuple (I:Inv X pins σ H s) (h:SqT X.K H a xs):∃its:List Value,yr xs its∧IsTup s.heap a its.toArray∧xs.length≤sizeLine:=by
 rcases h with h|⟨o,its,n,hk,hc,hs,hz,r⟩
 ·obtain ⟨z,its,r,p⟩:=h.ok I.hok
  exact ⟨its,r,p.tup,z⟩
 ·refine ⟨its.toList,r,⟨o,I.kIn a o hk,hc,n,by simpa using hs⟩,?_⟩
  have e:=r.length
  simp only [Array.length_toList] at e
  omega
theorem Inv.list_inj (I:Inv X pins σ H s) (h:SqL X.K H a xs) (h':SqL X.K H a ys):xs=ys:=by
 obtain ⟨its,r,⟨o,n,e,_,_,d⟩,_⟩:=I.list h
 obtain ⟨its',r',⟨o',n',e',_,_,d'⟩,_⟩:=I.list h'
 rw [e] at e';cases e'
 rw [d] at d'
 injection d' with d1 _
 have:its=its':=by simpa using congrArg Array.toList d1
 subst this
 exact r.inj r'
theorem Inv.tuple_inj (I:Inv X pins σ H s) (h:SqT X.K H a xs) (h':SqT X.K H a ys):xs=ys:=by
 obtain ⟨its,r,⟨o,e,_,n,d⟩,_⟩:=I.tuple h
 obtain ⟨its',r',⟨o',e',_,n',d'⟩,_⟩:=I.tuple h'
 rw [e] at e';cases e'
 rw [d] at d'
 injection d' with d1 _
 have:its=its':=by simpa using congrArg Array.toList d1
 subst this
 exact r.inj r'
end

noncomputable abbrev Cx.wish (X:Cx) (E:Value→Shared→Prop):Cx:={X with xe:=E}
noncomputable abbrev Cx.nox (X:Cx):Cx:=X.wish fun _ _=>False
section
variable {X:Cx} {pins:List (Addr×Obj)} {σ:St} {H:Hp} {s:Shared} {E:Value→Shared→Prop}
end

section
variable {X:Cx} {st:Stmt} {rest:List Stmt} {t u:TS} {e:Expr} {te:TE} {pos:Pos}
noncomputable def zjQ:TS:=fun D σ H=>D.nx σ H
noncomputable def zl3 (t u:TS):TS:=fun D σ H=>t {D with nx:=u D} σ H
theorem zB:PSs X [] zjQ:=fun _ _ σ H _ I h=>wpAny_execs_nil ⟨σ,H,I,h⟩
theorem zk (h1:PS X st t) (h2:PSs X rest u):PSs X (st::rest) (zl3 t u):=by
 intro pins s σ H D I h
 refine wpAny_execs_cons (thn (h1 pins s σ H {D with nx:=u D} I h) fun f s1 q=> ?_)
 cases f with
 |next=>
  obtain ⟨σ',H',I',q⟩:=q
  exact h2 pins s1 σ' H' D I' q
 |ret v=>exact q
 |brk=>exact q
 |cont=>exact q
theorem zn (h1:PS X st t):PSs X [st] t:=by
 intro pins s σ H D I h
 refine wpAny_execs_cons (thn (h1 pins s σ H D I h) fun f s1 q=> ?_)
 cases f with
 |next=>exact wpAny_execs_nil q
 |ret v=>exact q
 |brk=>exact q
 |cont=>exact q
theorem Inv.quiet {pins:List (Addr×Obj)} {σ:St} {H:Hp} {s:Shared} (I:Inv X pins σ H s):interactive X.env=false:=by simp [interactive,I.ok.kind]
noncomputable def zjR (te:TE):TS:=fun D σ H=>te σ H fun _ H1=>D.nx σ H1
theorem xE (he:PE X e te) (hs:swapsWith e none pos.line X.env=pure false:=by rfl):PS X (.Expr e pos) (zjR te):=by
 intro pins s σ H D I h
 refine wpAny_Expr_any (thn (he pins s σ H _ I h) ?_) I.quiet hs
 rintro v s1 ⟨x,H1,I1,r1,q1⟩
 exact ⟨σ,H1,I1,q1⟩
noncomputable def zl4 (te:TE):TS:=fun D σ H=>te σ H D.rt
theorem zw (he:PE X e te):PS X (.Return (some e) pos) (zl4 te):=by
 intro pins s σ H D I h
 refine wpAny_Return_some (thn (he pins s σ H _ I h) ?_)
 rintro v s1 ⟨x,H1,I1,r1,q1⟩
 exact ⟨x,σ,H1,I1,r1,q1⟩
noncomputable def zl5 (c:TT) (t u:TS):TS:=fun D σ H=>c σ H fun b H1=>if b=true then t D σ H1 else u D σ H1
theorem ya {c:Expr} {a b:List Stmt} {tc:TT} (hc:PT X c tc) (ha:PSs X a t) (hb:PSs X b u):PS X (.If c a b pos) (zl5 tc t u):=by
 intro pins s σ H D I h
 refine wpAny_If (thn (hc pins s σ H _ I h) ?_)
 rintro d s1 ⟨H1,I1,q1⟩
 cases d with
 |true=>exact ha pins s1 σ H1 D I1 q1
 |false=>exact hb pins s1 σ H1 D I1 q1
noncomputable def zkv:TS:=fun _ _ _=>False
theorem wa:PS X st zkv:=fun _ _ _ _ _ _ h=>h.elim
end

noncomputable abbrev TG:=V→St→Hp→(St→Hp→Prop)→Prop
noncomputable abbrev TGs:=List V→St→Hp→(St→Hp→Prop)→Prop
noncomputable def PG (X:Cx) (target:Expr) (t:TG):Prop:=
 ∀(pins:List (Addr×Obj)) (s:Shared) (σ:St) (H:Hp) (v:V) (u:Value) (Q:St→Hp→Prop),Inv X pins σ H s→yA v u→t v σ H Q→
  wpAny (model X.prog X.w) X.A (assign target X.env u) (fun _ s'=>∃σ' H',Inv X pins σ' H' s'∧Q σ' H') X.xe s
noncomputable def PGs (X:Cx) (ts:List Expr) (t:TGs):Prop:=
 ∀(pins:List (Addr×Obj)) (s:Shared) (σ:St) (H:Hp) (vs:List V) (us:List Value) (Q:St→Hp→Prop),Inv X pins σ H s→yr vs us→t vs σ H Q→
  wpAny (model X.prog X.w) X.A (assignInOrder ((assignEach ts X.env).map (·.2)) us) (fun _ s'=>∃σ' H',Inv X pins σ' H' s'∧Q σ' H') X.xe s
noncomputable abbrev zkw:=V→V→V→Hp→(Hp→Prop)→Prop
noncomputable def zl6 (X:Cx) (t:zkw):Prop:=
 ∀(pins:List (Addr×Obj)) (s:Shared) (σ:St) (H:Hp) (o i v:V) (ov iv u:Value) (Q:Hp→Prop),Inv X pins σ H s→yA o ov→yA i iv→yA v u→t o i v H Q→
  wpAny (model X.prog X.w) X.A (setItem ov iv u) (fun _ s'=>∃H',Inv X pins σ H' s'∧Q H') X.xe s
noncomputable abbrev TIp:=V→V→Hp→VK→Prop
section
variable {X:Cx} {pos:Pos}
noncomputable def zbQ (i:Nat):TG:=fun v σ H Q=>Q (σ.set i (some v)) H
theorem yk {i:Nat} {x:Str} (hN:X.N.Nodup) (hi:X.N[i]? =some x) (hx:Loc X.env.scope x) (hf:X.fn x=true∨X.env.scope.names.lookup x=some .local:=by first|exact .inl rfl|exact .inr rfl|assumption):PG X (.Name x pos) (zbQ i):=by
 intro pins s σ H v u Q I r h
 exact wpAny_assign_Name (zdh I hN hi hx r (fun s' I'=>⟨_,H,I',h⟩) hf)
noncomputable def zkx:TGs:=fun vs σ H Q=>vs=[]∧Q σ H
noncomputable def zg8 (t:TG) (u:TGs):TGs:=fun vs σ H Q=>∃v r,vs=v::r∧t v σ H fun σ' H'=>u r σ' H' Q
theorem WQ:PGs X [] zkx:=by
 intro pins s σ H vs us Q I r h
 obtain ⟨e,h⟩:=h
 subst e
 cases r
 exact assignInOrder_nil ⟨σ,H,I,h⟩
theorem xO {e:Expr} {es:List Expr} {t:TG} {u:TGs} (h1:PG X e t) (h2:PGs X es u)
  (hs:(assignEach (e::es) X.env).map (·.2)=assign e X.env::(assignEach es X.env).map (·.2):=by rfl):PGs X (e::es) (zg8 t u):=by
 intro pins s σ H vs us Q I r h
 obtain ⟨v,vr,e1,h⟩:=h
 subst e1
 cases r with
 |cons r rr=>
  rw [hs]
  refine assignInOrder_cons (thn (h1 pins s σ H _ _ _ I r h) ?_)
  rintro _ s1 ⟨σ1,H1,I1,q1⟩
  exact h2 pins s1 σ1 H1 _ _ Q I1 rr q1
noncomputable def ziB (K:PySem.W.Frag) (n:Nat) (t:TGs):TG:=fun v σ H Q=>∃a xs,v= .ref a∧SqT K H a xs∧xs.length=n∧t xs σ H Q
theorem zky {es:List Expr} {k:Nat} {t:TGs} {n:Nat} (hc:X.calm=true) (h:PGs X es t)
  (hn:(assignEach es X.env).length=n:=by rfl) (hst:(assignEach es X.env).findIdx? (·.1)=none:=by rfl):PG X (.Tuple es k pos) (ziB X.K n t):=by
 intro pins s σ H v u Q I r hw
 obtain ⟨a,xs,e1,hq,hl,hw⟩:=hw
 subst e1
 cases r
 obtain ⟨its,rv,ht,hz⟩:=I.tuple hq
 refine assign_Tuple_tuple (I.ok.hd hc) ht (by simp [hn,←hl,rv.length]) hst fun h' hx=> ?_
 have I1:Inv X pins σ H {s with heap:=h'}:=I.kept (t':=s.toks) fun b o e=>hx b o (Nat.ne_of_lt (Heap.lt_size e)) e
 exact h pins _ σ H xs _ Q I1 (by simpa using rv) hw
noncomputable def zl7 (to ti:TE) (t:zkw):TG:=fun v σ H Q=>to σ H fun o H1=>ti σ H1 fun i H2=>t o i v H2 fun H3=>Q σ H3
theorem zew {o i:Expr} {to ti:TE} {t:zkw} (ho:PE X o to) (hi:PE X i ti) (hs:zl6 X t)
  (ha:∀v,assign (.Subscript o i pos) X.env v=(do
   let ov ←holding [v] (eval o X.env)
   let iv ←holding [v,ov] (eval i X.env)
   standAt pos
   holding [v,ov,iv] (setItem ov iv v)
   release [v,ov,iv] []):=by intro _;rfl):PG X (.Subscript o i pos) (zl7 to ti t):=by
 intro pins s σ H v u Q I r h
 rw [ha]
 refine wpAny_bind (wpAny_holding (thn (ho pins s σ H _ I h) ?_))
 rintro ov s1 ⟨x,H1,I1,r1,q1⟩
 refine wpAny_bind (wpAny_holding (thn (hi pins s1 σ H1 _ I1 q1) ?_))
 rintro iv s2 ⟨y,H2,I2,r2,q2⟩
 refine wpAny_bind (wpAny_standAt (wpAny_bind (wpAny_holding (thn (hs pins s2 σ H2 x y v ov iv u _ I2 r1 r2 r q2) ?_))))
 rintro _ s3 ⟨H3,I3,q3⟩
 exact wpAny_release ⟨σ,H3,I3,q3⟩
noncomputable def zkz (te:TE) (g:TG):TS:=fun D σ H=>te σ H fun x H1=>g x σ H1 D.nx
theorem zck {tg e:Expr} {te:TE} {g:TG} (he:PE X e te) (hg:PG X tg g) (hs:swapsWithSole [tg] e pos.line X.env=pure false:=by rfl) (hw:swappedStores [tg] e X.env=pure none:=by rfl)
  (h1:(assignEach [tg] X.env).map (·.2)=[assign tg X.env]:=by rfl):PS X (.Assign [tg] e pos) (zkz te g):=by
 intro pins s σ H D I h
 refine wpAny_Assign_stores (thn (he pins s σ H _ I h) ?_) hs hw
 rintro v s1 ⟨x,H1,I1,r1,q1⟩
 rw [h1]
 exact thn (hg pins s1 σ H1 x v _ I1 r1 q1) fun _ s2 q=>q
theorem zV {i:Nat} {x:Str} {e:Expr} {te:TE} {pos':Pos} (hN:X.N.Nodup) (hi:X.N[i]? =some x) (hx:Loc X.env.scope x) (he:PE X e te) (hs:swapsWith e (some (.Name x pos')) pos.line X.env=pure false:=by rfl) (hf:X.fn x=true∨X.env.scope.names.lookup x=some .local:=by first|exact .inl rfl|exact .inr rfl|assumption):
  PS X (.Assign [.Name x pos'] e pos) (zkz te (zbQ i)):=by
 intro pins s σ H D I h
 refine wpAny_Assign_Name (thn (he pins s σ H _ I h) ?_) hs
 rintro v s1 ⟨y,H1,I1,r1,q1⟩
 exact zdh I1 hN hi hx r1 (fun s2 I2=>⟨_,H1,I2,q1⟩) hf
end

section
variable {X:Cx} {pos:Pos}
noncomputable def zg9 (c:TT) (tb:TS):TS:=fun D σ H=>∃W:Nat→St→Hp→Prop,(∃m,W m σ H)∧∀m σ H,W m σ H→
 c σ H fun b H1=>if b=true then ∃N:St→Hp→Prop,(∀σ' H',N σ' H'→∃m',m'<m∧W m' σ' H')∧tb {D with nx:=N,ct:=N,bk:=D.nx} σ H1 else D.nx σ H1
theorem zaq {c:Expr} {body:List Stmt} {tc:TT} {tb:TS} (hp:PassesOwn (model X.prog X.w) X.A X.env X.xe) (hc:PT X c tc) (hb:PSs X body tb):PS X (.While c body [] pos) (zg9 tc tb):=by
 intro pins s σ H D I h
 obtain ⟨W,⟨m0,w0⟩,turn⟩:=h
 refine wpAny_While (codeAny_whileLoop (fun n s'=>∃σ' H',Inv X pins σ' H' s'∧W n σ' H') ?_ m0 ⟨σ,H,I,w0⟩)
 rintro n s1 ⟨σ1,H1,I1,w1⟩
 refine wpAny_passesOwn hp (thn (hc pins s1 σ1 H1 _ I1 (turn n σ1 H1 w1)) ?_)
 rintro b s2 ⟨H2,I2,q2⟩
 cases b with
 |true=>
  obtain ⟨N,hN,q2⟩:=q2
  rw [if_pos rfl]
  refine wpAny_passesOwn hp (thn (hb pins s2 σ1 H2 _ I2 q2) fun f s3 q3=> ?_)
  cases f with
  |next=>
   obtain ⟨σ3,H3,I3,n3⟩:=q3
   obtain ⟨m',hm,w3⟩:=hN σ3 H3 n3
   exact ⟨m',hm,σ3,H3,I3,w3⟩
  |cont=>
   obtain ⟨σ3,H3,I3,n3⟩:=q3
   obtain ⟨m',hm,w3⟩:=hN σ3 H3 n3
   exact ⟨m',hm,σ3,H3,I3,w3⟩
  |brk=>exact q3
  |ret v=>exact q3
 |false=>
  rw [if_neg Bool.false_ne_true]
  exact wpAny_execs_nil ⟨σ1,H2,I2,q2⟩
end

structure It where
 go:Nat→Hp→Prop
 yld:Nat→Hp→V→Hp→Prop
 stop:Nat→Hp→Prop
noncomputable def zbj (X:Cx) (pins:List (Addr×Obj)) (H:Hp) (b:Addr):Prop:=
 H b=none∧b≠X.env.locals∧b∉X.fs∧(b∈X.ex∨X.s₀.heap.objs.size≤b)∧(∀x c,X.env.cells.lookup x=some c→c≠b)∧∀p∈X.pn++pins,p.1≠b
theorem Inv.fpOk {X:Cx} {pins:List (Addr×Obj)} {σ:St} {H H':Hp} {s:Shared} {b:Addr} (I:Inv X pins σ H s) (hb:s.heap.objs.size≤b) (hn:H' b=none):zbj X pins H' b:=by
 refine ⟨hn,Nat.ne_of_gt (Nat.lt_of_lt_of_le I.lt hb),I.nofs hb,.inr (Nat.le_trans I.sz hb),fun x c e z=> ?_,fun p hp z=> ?_⟩
 ·obtain ⟨v,q⟩:=I.cell x c e
  exact absurd (Nat.lt_of_lt_of_le q.lt (by rw [z];exact hb)) (Nat.lt_irrefl _)
 ·exact absurd (Nat.lt_of_lt_of_le (Heap.lt_size (I.pin p hp).1) (by rw [z];exact hb)) (Nat.lt_irrefl _)
structure zex (P:Program) (w:World) (K:PySem.W.Frag) (tg:Expr) (J:It) (fp:List Addr) (it:Addr) (tn:Nat→Heap→Prop):Prop where
 mem:it∈fp
 obj:∀i h,tn i h→∀b∈fp,∃o,h.get? b=some o∧∀v,o.data≠ .cell v
 keep:∀i h h',tn i h→(∀b∈fp,∀o,h.get? b=some o→h'.get? b=some o)→tn i h'
 item:∀(X:Cx),X.prog=P→X.w=w→X.K=K→X.calm=true→∀(i:Nat) (pins:List (Addr×Obj)) (s:Shared) (σ:St) (H:Hp) (E:Value→Shared→Prop),Inv X pins σ H s→(∀b∈fp,zbj X pins H b)→tn i s.heap→J.go i H→
  wpAny (model P w) X.A (pyNext (.ref it)) (fun r s1=>∃u,r=some u∧
   wpAny (model P w) X.A (letOwnedTupleGo tg (.ref it) u) (fun _ s2=>∃x H',Inv X pins σ H' s2∧yA x u∧J.yld i H x H'∧tn (i+1) s2.heap∧∀b∈fp,H' b=none) E s1) E s
 done:∀(X:Cx),X.prog=P→X.w=w→X.K=K→X.calm=true→∀(i:Nat) (pins:List (Addr×Obj)) (s:Shared) (σ:St) (H:Hp) (E:Value→Shared→Prop),Inv X pins σ H s→(∀b∈fp,zbj X pins H b)→tn i s.heap→J.stop i H→
  wpAny (model P w) X.A (pyNext (.ref it)) (fun r s1=>r=none∧Inv X pins σ H s1) E s
 self:∀(A:Around) (i:Nat) (s:Shared) (Q:Value→Shared→Prop) (E:Value→Shared→Prop),tn i s.heap→Q (.ref it) s→wpAny (model P w) A (pyIter (.ref it)) Q E s
noncomputable abbrev TI:=St→Hp→(It→Hp→Prop)→Prop
noncomputable def PIE (X:Cx) (pins:List (Addr×Obj)) (σ:St) (tg:Expr) (R:It→Hp→Prop) (itv:Value) (s2:Shared):Prop:=
 ∃(it:Addr) (fp:List Addr) (tn:Nat→Heap→Prop) (J:It) (H':Hp),itv= .ref it∧Inv X pins σ H' s2∧zex X.prog X.w X.K tg J fp it tn∧tn 0 s2.heap∧(∀b∈fp,zbj X pins H' b)∧R J H'
noncomputable def PI (X:Cx) (tg iter:Expr) (wi:TI):Prop:=
 ∀(pins:List (Addr×Obj)) (s:Shared) (σ:St) (H:Hp) (R:It→Hp→Prop),Inv X pins σ H s→wi σ H R→
  wpAny (model X.prog X.w) X.A (eval iter X.env) (fun v s1=>wpAny (model X.prog X.w) X.A (pyIter v) (PIE X pins σ tg R) X.xe s1) X.xe s

theorem zdk {M:Model} {A:Around} {E:Value→Shared→Prop} {s:Shared} {tg:Expr} {it:Addr} {u:Value} {o:Obj} {n:String} {vs:Array Value} {Q:Unit→Shared→Prop} (ho:s.heap.get? it=some o) (hc:o.cls= .type n) (hd:o.data= .fields vs)
    (hn:["enumerate","zip","dict_itemiterator","dict_reverseitemiterator","odict_iterator","itertools.zip_longest","itertools.pairwise"].contains n=false) (hQ:Q () s):wpAny M A (letOwnedTupleGo tg (.ref it) u) Q E s:=by
  unfold letOwnedTupleGo
  cases tg<;>first
    |exact wpAny_pure hQ
    | (cases u <;> first
        |exact wpAny_pure hQ
        | (refine wpAny_bind (wpAny_load ho ?_)
           rw [hc,hd]
           show wpAny M A (if (["enumerate","zip","dict_itemiterator","dict_reverseitemiterator","odict_iterator","itertools.zip_longest","itertools.pairwise"].contains n&&vs[0]? ==some (rawInt _))=true then _ else _) Q E s
           rw [if_neg (by intro h;rw [hn,Bool.false_and] at h;cases h)]
           exact wpAny_pure hQ))

noncomputable def Itl (K:PySem.W.Frag) (a:Addr):It:=
 ⟨fun i H=>∃xs x,SqL K H a xs∧xs[i]? =some x,fun i H x H'=>H'=H∧∀xs,SqL K H a xs→xs[i]? =some x,fun i H=>∃xs,SqL K H a xs∧xs.length≤i⟩
noncomputable def Itt (K:PySem.W.Frag) (a:Addr):It:=
 ⟨fun i H=>∃xs x,SqT K H a xs∧xs[i]? =some x,fun i H x H'=>H'=H∧∀xs,SqT K H a xs→xs[i]? =some x,fun i H=>∃xs,SqT K H a xs∧xs.length≤i⟩
noncomputable def Itr (lo:Int) (n:Nat):It:=⟨fun i _=>i<n,fun i H x H'=>H'=H∧x= .int (lo+i),fun i _=>n≤i⟩
theorem zgh {P:Program} {w:World} {K:PySem.W.Frag} {tg:Expr} (a it:Addr):zex P w K tg (Itl K a) [it] it (fun i h=>h.IsListIter it a i) where
 mem:=by simp
 obj:=fun i h st b hb=>by
  have e:b=it:=by simpa using hb
  subst e
  obtain ⟨o,e,c,d⟩:=st
  exact ⟨o,e,fun v z=>by rw [d] at z;cases z⟩
 keep:=fun i h h' st k=>st.at fun o e=>k it (by simp) o e
 item:=by
  intro X hP hw hK hc i pins s σ H E I hf st hg
  subst hP hw hK
  obtain ⟨xs,x,hq,hx⟩:=hg
  obtain ⟨its,rv,p,hz⟩:=I.list hq
  obtain ⟨u,hu,ru⟩:=rv.get hx
  obtain ⟨f0,f1,f2,f3,f4,f5⟩:=hf it (by simp)
  refine wpAny_pyNext_list_item st p.isList (x:=u) (by simpa using hu) fun h' st' sb=> ?_
  have I1:Inv X pins σ H {s with heap:=h'}:=I.turned (t':=s.toks) (fun b o hb e=>(sb.2 b hb).trans e) f0 f1 f3 f4 f5
  obtain ⟨o,e,c,d⟩:=id st'
  exact ⟨u,rfl,zdk (s:={s with heap:=h'}) e c d (by decide) ⟨x,H,I1,ru,⟨rfl,fun ys hy=>by rw [I.list_inj hy hq];exact hx⟩,st',fun b hb=>(hf b hb).1⟩⟩
 done:=by
  intro X hP hw hK hc i pins s σ H E I hf st hg
  subst hP hw hK
  obtain ⟨xs,hq,hx⟩:=hg
  obtain ⟨its,rv,p,hz⟩:=I.list hq
  obtain ⟨f0,f1,f2,f3,f4,f5⟩:=hf it (by simp)
  have hl:=rv.length
  exact wpAny_pyNext_list_end (I.ok.hd hc) st p.isList (by simp;omega) fun h' eb=>⟨rfl,I.turned (t':=s.toks) (fun b o hb e=>eb b o hb e) f0 f1 f3 f4 f5⟩
 self:=fun _ _ _ _ _ st h=>wpAny_pyIter_listiter st h
theorem zey {P:Program} {w:World} {K:PySem.W.Frag} {tg:Expr} (a it:Addr):zex P w K tg (Itt K a) [it] it (fun i h=>h.IsTupleIter it a i) where
 mem:=by simp
 obj:=fun i h st b hb=>by
  have e:b=it:=by simpa using hb
  subst e
  obtain ⟨o,e,c,d⟩:=st
  exact ⟨o,e,fun v z=>by rw [d] at z;cases z⟩
 keep:=fun i h h' st k=>st.at fun o e=>k it (by simp) o e
 item:=by
  intro X hP hw hK hc i pins s σ H E I hf st hg
  subst hP hw hK
  obtain ⟨xs,x,hq,hx⟩:=hg
  obtain ⟨its,rv,p,hz⟩:=I.tuple hq
  obtain ⟨u,hu,ru⟩:=rv.get hx
  obtain ⟨f0,f1,f2,f3,f4,f5⟩:=hf it (by simp)
  refine wpAny_pyNext_tuple_item st (show s.heap.IsTuple a its.toArray from p) (x:=u) (by simpa using hu) fun h' st' sb=> ?_
  have I1:Inv X pins σ H {s with heap:=h'}:=I.turned (t':=s.toks) (fun b o hb e=>(sb.2 b hb).trans e) f0 f1 f3 f4 f5
  obtain ⟨o,e,c,d⟩:=id st'
  exact ⟨u,rfl,zdk (s:={s with heap:=h'}) e c d (by decide) ⟨x,H,I1,ru,⟨rfl,fun ys hy=>by rw [I.tuple_inj hy hq];exact hx⟩,st',fun b hb=>(hf b hb).1⟩⟩
 done:=by
  intro X hP hw hK hc i pins s σ H E I hf st hg
  subst hP hw hK
  obtain ⟨xs,hq,hx⟩:=hg
  obtain ⟨its,rv,p,hz⟩:=I.tuple hq
  obtain ⟨f0,f1,f2,f3,f4,f5⟩:=hf it (by simp)
  have hl:=rv.length
  exact wpAny_pyNext_tuple_end (I.ok.hd hc) st (show s.heap.IsTuple a its.toArray from p) (by simp;omega) fun h' eb=>⟨rfl,I.turned (t':=s.toks) (fun b o hb e=>eb b o hb e) f0 f1 f3 f4 f5⟩
 self:=fun _ _ _ _ _ st h=>wpAny_pyIter_tupleiter st h
theorem zez {P:Program} {w:World} {K:PySem.W.Frag} {tg:Expr} (it:Addr) (lo:Int) (n:Nat):zex P w K tg (Itr lo n) [it] it (fun i h=>IsRangeIter h it (lo+(i:Nat)*1) ((n:Int)-(i:Nat)) 1) where
 mem:=by simp
 obj:=fun i h st b hb=>by
  have e:b=it:=by simpa using hb
  subst e
  exact ⟨_,st,fun v z=>by
   have z':Data.fields _=Data.cell v:=z
   cases z'⟩
 keep:=fun i h h' st k=>k it (by simp) _ st
 item:=by
  intro X hP hw hK hc i pins s σ H E I hf st hg
  subst hP hw hK
  obtain ⟨f0,f1,f2,f3,f4,f5⟩:=hf it (by simp)
  have W:=Walks.range (prog:=X.prog) (w:=X.w) (I.ok.hd hc) it lo 1 n
  refine W.item i s _ _ hg st fun v h' tk hv st' kk=> ?_
  obtain ⟨t,rfl⟩:=hv
  have I1:Inv X pins σ H {s with heap:=h',toks:=tk}:=I.turned (fun b o hb e=>kk b o (by simpa using hb) e) f0 f1 f3 f4 f5
  refine ⟨_,rfl,zdk (s:={s with heap:=h',toks:=tk}) (n:="range_iterator") st' rfl rfl (by decide) ⟨.int (lo+i),H,I1,⟨t,?_⟩,⟨rfl,rfl⟩,st',fun b hb=>(hf b hb).1⟩⟩
  rw [Int.mul_one]
 done:=by
  intro X hP hw hK hc i pins s σ H E I hf st hg
  subst hP hw hK
  obtain ⟨f0,f1,f2,f3,f4,f5⟩:=hf it (by simp)
  exact wpAny_pyNext_range_end (I.ok.hd hc) st (by have:n≤i:=hg;omega) fun h' eb=>⟨rfl,I.turned (t':=s.toks) (fun b o hb e=>eb b o hb e) f0 f1 f3 f4 f5⟩
 self:=fun _ _ _ _ _ st h=>wpAny_pyIter_rangeiter st h
end L2

namespace L2
open PySem PySem.Spec PyProof.Rows
section
variable {X:Cx} {tg:Expr}
noncomputable def zha (K:PySem.W.Frag) (tl:TE):TI:=fun σ H R=>tl σ H fun x H1=>∃a,x= .ref a∧(∃xs,SqL K H1 a xs)∧R (Itl K a) H1
noncomputable def zkA (K:PySem.W.Frag) (tl:TE):TI:=fun σ H R=>tl σ H fun x H1=>∃a,x= .ref a∧(∃xs,SqT K H1 a xs)∧R (Itt K a) H1
theorem ziC {l:Expr} {tl:TE} (hl:PE X l tl):PI X tg l (zha X.K tl):=by
 intro pins s σ H R I h
 refine thn (hl pins s σ H _ I h) ?_
 rintro v s1 ⟨x,H1,I1,r1,q1⟩
 obtain ⟨a,e,⟨xs,hq⟩,q⟩:=q1
 subst e
 cases r1
 obtain ⟨its,rv,p,hz⟩:=I1.list hq
 refine wpAny_pyIter_list p.isList ?_
 refine ⟨s1.heap.objs.size,[s1.heap.objs.size],_,_,H1,rfl,I1.kept (t':=s1.toks) fun b o e=>Heap.get?_push_of_some _ e,zgh a _,⟨_,Heap.get?_push_size _ rfl,rfl,rfl⟩,fun b hb=> ?_,q⟩
 have e:b=s1.heap.objs.size:=by simpa using hb
 subst e
 exact I1.fpOk (Nat.le_refl _) (I1.hok.fresh (Nat.le_refl _))
theorem zkB {l:Expr} {tl:TE} (hl:PE X l tl):PI X tg l (zkA X.K tl):=by
 intro pins s σ H R I h
 refine thn (hl pins s σ H _ I h) ?_
 rintro v s1 ⟨x,H1,I1,r1,q1⟩
 obtain ⟨a,e,⟨xs,hq⟩,q⟩:=q1
 subst e
 cases r1
 obtain ⟨its,rv,p,hz⟩:=I1.tuple hq
 refine wpAny_pyIter_tuple (show s1.heap.IsTuple a its.toArray from p) ?_
 refine ⟨s1.heap.objs.size,[s1.heap.objs.size],_,_,H1,rfl,I1.kept (t':=s1.toks) fun b o e=>Heap.get?_push_of_some _ e,zey a _,⟨_,Heap.get?_push_size _ rfl,rfl,rfl⟩,fun b hb=> ?_,q⟩
 have e:b=s1.heap.objs.size:=by simpa using hb
 subst e
 exact I1.fpOk (Nat.le_refl _) (I1.hok.fresh (Nat.le_refl _))
theorem zhb {pins:List (Addr×Obj)} {σ:St} {H:Hp} {s:Shared} {R:It→Hp→Prop} {E:Value→Shared→Prop} {lo hi:Int} {t u v:Tok} {tk:Nat} (I:Inv X pins σ H s) (h1: -(2^62)≤lo) (h2:lo<2^62) (h3: -(2^62)≤hi) (h4:hi<2^62)
  (q:R (Itr lo (hi-lo).toNat) H):wpAny (model X.prog X.w) X.A (pyIter (.ref s.heap.objs.size)) (PIE X pins σ tg R) E {s with heap:=s.heap.push {cls:= .type "range",data:= .fields #[.int lo t,.int hi u,.int 1 v]},toks:=tk}:=by
 refine wpAny_pyIter_range (IsRange.new ..) (small_one h1 h2 h3 h4) ?_
 have I1:Inv X pins σ H {s with heap:=s.heap.push {cls:= .type "range",data:= .fields #[.int lo t,.int hi u,.int 1 v]},toks:=tk}:=I.kept fun b o e=>Heap.get?_push_of_some _ e
 refine ⟨(s.heap.push {cls:= .type "range",data:= .fields #[.int lo t,.int hi u,.int 1 v]}).objs.size,[(s.heap.push {cls:= .type "range",data:= .fields #[.int lo t,.int hi u,.int 1 v]}).objs.size],_,_,H,rfl,
  I1.kept (t':=tk) fun b o e=>Heap.get?_push_of_some _ e,zez _ lo (hi-lo).toNat,?_,fun b hb=> ?_,q⟩
 ·have e1:lo+((0:Nat):Int)*1=lo:=by simp
  have e2:(((hi-lo).toNat:Nat):Int)-((0:Nat):Int)=Builtin.Range.rangeSize lo hi 1:=by rw [rangeSize_one];split<;>omega
  show IsRangeIter _ _ (lo+((0:Nat):Int)*1) ((((hi-lo).toNat:Nat):Int)-((0:Nat):Int)) 1
  rw [e1,e2]
  exact Heap.get?_push_size _ rfl
 ·have e:b=(s.heap.push {cls:= .type "range",data:= .fields #[.int lo t,.int hi u,.int 1 v]}).objs.size:=by simpa using hb
  subst e
  exact I1.fpOk (Nat.le_refl _) (I1.hok.fresh (Nat.le_refl _))
noncomputable def zjS (ta:TA):TI:=fun σ H R=>ta σ H fun vs H1=>∃j:Int,vs=[.int j]∧ -(2^62)≤j∧j<2^62∧R (Itr 0 j.toNat) H1
theorem UQ {a:Expr} {ta:TA} {p pos:Pos} (hg:Gl X "range") (hm:X.mg "range"=none) (ha:PA X [a] ta) (hs:starEach [a] X.env=[(false,eval a X.env)]:=by rfl):PI X tg (.Call (.Name "range" p) [a] [] pos) (zjS ta):=by
 intro pins s σ H R I h
 refine Call_ (Xm I hg hm boot_range (PyProof.Rows.callWith_type1 (thn (ha pos pins s σ H _ I h) ?_) hs rfl))
 rintro us s1 ⟨vs,H1,I1,r1,q1⟩
 obtain ⟨j,e,q1,q2,q⟩:=q1
 subst e
 cases r1 with
 |cons r rr=>
  cases rr
  obtain ⟨t,rfl⟩:=r
  exact call_range_1 (zhb I1 (by omega) (by omega) q1 q2 (by simpa using q))

noncomputable def zl8 (wi:TI) (g:TG) (tb:TS):TS:=fun D σ H=>wi σ H fun J H1=>∃W:Nat→Nat→St→Hp→Prop,(∃m,W 0 m σ H1)∧∀i m σ H,W i m σ H→
 (J.stop i H∧D.nx σ H)∨(J.go i H∧∃N:St→Hp→Prop,(∀σ' H',N σ' H'→∃m',m'<m∧W (i+1) m' σ' H')∧∀x H',J.yld i H x H'→g x σ H' fun σ2 H2=>tb {D with nx:=N,ct:=N,bk:=D.nx} σ2 H2)
noncomputable def zar (fp:List Addr) (h:Heap):List (Addr×Obj):=fp.filterMap fun b=>(h.get? b).map fun o=>(b,o)
theorem Xo {fp:List Addr} {h:Heap} {b:Addr} {o:Obj} (hb:b∈fp) (e:h.get? b=some o):(b,o)∈zar fp h:=List.mem_filterMap.mpr ⟨b,hb,by rw [e];rfl⟩
theorem zgi {fp:List Addr} {h:Heap} {p:Addr×Obj} (hp:p∈zar fp h):p.1∈fp∧h.get? p.1=some p.2:=by
 obtain ⟨b,hb,e⟩:=List.mem_filterMap.mp hp
 cases q:h.get? b with
 |none=>rw [q] at e;cases e
 |some o=>
  rw [q] at e
  have e':(b,o)=p:=Option.some.inj e
  subst e'
  exact ⟨hb,q⟩
theorem Inv.pinned {pins:List (Addr×Obj)} {σ:St} {H:Hp} {s:Shared} {fp:List Addr} (I:Inv X pins σ H s) (hf:∀b∈fp,zbj X pins H b) (ho:∀b∈fp,∃o,s.heap.get? b=some o∧∀v,o.data≠ .cell v):Inv X (pins++zar fp s.heap) σ H s:=
 I.pins_of fun p hp=>(List.mem_append.mp hp).elim (fun z=>I.pin p (List.mem_append_right _ z)) fun z=>by
  obtain ⟨hb,e⟩:=zgi z
  obtain ⟨f0,f1,f2,_⟩:=hf p.1 hb
  obtain ⟨o,e',d⟩:=ho p.1 hb
  rw [e] at e';cases e'
  exact ⟨e,f0,f1,f2,d⟩
theorem Inv.unpinned {pins pl:List (Addr×Obj)} {σ:St} {H:Hp} {s:Shared} (I:Inv X (pins++pl) σ H s):Inv X pins σ H s:=I.pins_of fun p hp=>I.pin p (List.mem_append_right _ (List.mem_append_left _ hp))
theorem VA {iter:Expr} {body:List Stmt} {wi:TI} {g:TG} {tb:TS} {pos:Pos} (hp:PassesOwn (model X.prog X.w) X.A X.env X.xe) (hc:X.calm=true) (hi:PI X tg iter wi) (hg:PG X tg g) (hb:PSs X body tb)
  (hs:∀x,foldedSetIterable iter X.env x=pure x:=by intro _;rfl):PS X (.For tg iter body [] pos) (zl8 wi g tb):=by
 intro pins s σ H D I h
 refine wpAny_For (thn (hi pins s σ H _ I h) fun v s1 h1=>thn h1 fun itv s2 h2=> ?_) hs
 obtain ⟨it,fp,tn,J,H2,e,I2,T,st2,f2,W,⟨m0,w0⟩,turn⟩:=h2
 subst e
 have stat:∀{H':Hp},(∀b∈fp,H' b=none)→∀b∈fp,zbj X pins H' b:=fun hn b hb=>⟨hn b hb,(f2 b hb).2⟩
 refine codeAny_forLoop_any (fun n s'=>∃i σ' H',Inv X pins σ' H' s'∧tn i s'.heap∧(∀b∈fp,H' b=none)∧W i n σ' H') ?_ m0 ⟨0,σ,H2,I2,st2,fun b hb=>(f2 b hb).1,w0⟩
 rintro n s3 ⟨i,σ3,H3,I3,st3,fr3,w3⟩
 rcases turn i n σ3 H3 w3 with ⟨stop,qn⟩|⟨go,N,hN,step⟩
 ·refine wpAny_passesOwn hp (thn (T.done X rfl rfl rfl hc i pins s3 σ3 H3 X.xe I3 (stat fr3) st3 stop) fun r s4 ⟨hr,I4⟩=> ?_)
  subst hr
  exact wpAny_execs_nil ⟨σ3,H3,I4,qn⟩
 ·refine wpAny_passesOwn hp (thn (T.item X rfl rfl rfl hc i pins s3 σ3 H3 X.xe I3 (stat fr3) st3 go) fun r s4 ⟨u,hr,h4⟩=> ?_)
  subst hr
  refine wpAny_passesOwn hp (thn h4 ?_)
  rintro _ s5 ⟨x,H5,I5,r5,y5,st5,fr5⟩
  have I5':=I5.pinned (stat fr5) (T.obj _ _ st5)
  refine wpAny_passesOwn hp (thn (hg _ s5 σ3 H5 x u _ I5' r5 (step x H5 y5)) ?_)
  rintro _ s6 ⟨σ6,H6,I6,q6⟩
  refine wpAny_passesOwn hp (thn (hb _ s6 σ6 H6 _ I6 q6) fun f s7 q7=> ?_)
  have again:∀{σ7:St} {H7:Hp},Inv X (pins++zar fp s5.heap) σ7 H7 s7→N σ7 H7→∃m,m<n∧∃i σ' H',Inv X pins σ' H' s7∧tn i s7.heap∧(∀b∈fp,H' b=none)∧W i m σ' H':=fun {σ7 H7} I7 n7=>by
   obtain ⟨m',hm,w7⟩:=hN σ7 H7 n7
   refine ⟨m',hm,i+1,σ7,H7,I7.unpinned,T.keep _ _ _ st5 fun b hb o e=>(I7.pin (b,o) (List.mem_append_right _ (List.mem_append_right _ (Xo hb e)))).1,fun b hb=> ?_,w7⟩
   obtain ⟨o,e,d⟩:=T.obj _ _ st5 b hb
   exact (I7.pin (b,o) (List.mem_append_right _ (List.mem_append_right _ (Xo hb e)))).2.1
  cases f with
  |next=>obtain ⟨σ7,H7,I7,n7⟩:=q7;exact again I7 n7
  |cont=>obtain ⟨σ7,H7,I7,n7⟩:=q7;exact again I7 n7
  |brk=>obtain ⟨σ7,H7,I7,q7⟩:=q7;exact ⟨σ7,H7,I7.unpinned,q7⟩
  |ret v=>obtain ⟨x7,σ7,H7,I7,r7,q7⟩:=q7;exact ⟨x7,σ7,H7,I7.unpinned,r7,q7⟩
end

end L2

namespace L2
open PySem PySem.Spec PyProof.Rows

noncomputable abbrev R2:=V→V→Hp→VK→Prop
noncomputable def OpR (X:Cx) (f:Value→Value→Sem Value) (r:R2):Prop:=
 ∀(pins:List (Addr×Obj)) (s:Shared) (σ:St) (H:Hp) (x y:V) (v u:Value) (Q:VK),Inv X pins σ H s→yA x v→yA y u→r x y H Q→
  wpAny (model X.prog X.w) X.A (f v u) (EP X pins σ Q) X.xe s
noncomputable def UnR (X:Cx) (f:Value→Sem Value) (r:V→Hp→VK→Prop):Prop:=
 ∀(pins:List (Addr×Obj)) (s:Shared) (σ:St) (H:Hp) (x:V) (v:Value) (Q:VK),Inv X pins σ H s→yA x v→r x H Q→
  wpAny (model X.prog X.w) X.A (f v) (EP X pins σ Q) X.xe s
noncomputable def vq (X:Cx) (f:Value) (r:List V→Hp→VK→Prop):Prop:=
 ∀(pins:List (Addr×Obj)) (s:Shared) (σ:St) (H:Hp) (xs:List V) (us:List Value) (Q:VK),Inv X pins σ H s→yr xs us→r xs H Q→
  wpAny (model X.prog X.w) X.A (call f us) (EP X pins σ Q) X.xe s

noncomputable def tOp (r:R2) (ta tb:TE):TE:=fun σ H Q=>ta σ H fun x H1=>tb σ H1 fun y H2=>r x y H2 Q
noncomputable def tUn (r:V→Hp→VK→Prop) (ta:TE):TE:=fun σ H Q=>ta σ H fun x H1=>r x H1 Q
noncomputable def rI (C:Int→Int→Prop) (g:Int→Int→V):R2:=fun x y H Q=>∃i j,x= .int i∧y= .int j∧C i j∧Q (g i j) H
noncomputable def rI0 (g:Int→Int→V):R2:=fun x y H Q=>∃i j,x= .int i∧y= .int j∧Q (g i j) H
noncomputable def rU (g:Int→V):V→Hp→VK→Prop:=fun x H Q=>∃i,x= .int i∧Q (g i) H

section
variable {X:Cx} {a b c:Expr} {ta tb tc:TE} {pos:Pos}

theorem zkC (ha:PE X a ta) (hb:PE X b tb) {pins:List (Addr×Obj)} {s:Shared} {σ:St} {H:Hp} {R:V→V→Hp→Prop} (I:Inv X pins σ H s)
  (h:ta σ H fun x H1=>tb σ H1 fun y H2=>R x y H2) {Q:Value→Shared→Prop} {f:Value→Value→Sem Value}
  (hf:∀v u s2 x y H2,Inv X pins σ H2 s2→yA x v→yA y u→R x y H2→wpAny (model X.prog X.w) X.A (f v u) Q X.xe s2):
  wpAny (model X.prog X.w) X.A (eval a X.env) (fun v s₁=>wpAny (model X.prog X.w) X.A (eval b X.env) (fun u s₂=>wpAny (model X.prog X.w) X.A (f v u) Q X.xe s₂) X.xe s₁) X.xe s:=by
 refine thn (ha pins s σ H _ I h) ?_
 rintro v s1 ⟨x,H1,I1,r1,q1⟩
 refine thn (hb pins s1 σ H1 _ I1 q1) ?_
 rintro u s2 ⟨y,H2,I2,r2,q2⟩
 exact hf v u s2 x y H2 I2 r1 r2 q2

theorem yh {op:Operator} {r:R2} (ho:OpR X (binaryOp op) r) (ha:PE X a ta) (hb:PE X b tb):PE X (.BinOp a op b pos) (tOp r ta tb):=by
 intro pins s σ H Q I h
 exact wpAny_BinOp (zkC ha hb I h fun v u s2 x y H2 I2 rx ry q=>ho pins s2 σ H2 x y v u Q I2 rx ry q)
theorem zl9 {op:UnaryOp} {r:V→Hp→VK→Prop} (ho:UnR X (unaryOp op) r) (ha:PE X a ta):PE X (.UnaryOp op a pos) (tUn r ta):=by
 intro pins s σ H Q I h
 refine UnaryOp_ (thn (ha pins s σ H _ I h) ?_)
 rintro v s1 ⟨x,H1,I1,r1,q1⟩
 exact ho pins s1 σ H1 x v Q I1 r1 q1

theorem opI {f:Value→Value→Sem Value} {C:Int→Int→Prop} {g:Int→Int→Int}
  (rule:∀(i j:Int) (t u:Tok) (s:Shared) (Q:Value→Shared→Prop) (E:Value→Shared→Prop),C i j→Q (.int (g i j) s.toks) {s with toks:=s.toks+1}→wpAny (model X.prog X.w) X.A (f (.int i t) (.int j u)) Q E s):
  OpR X f (rI C fun i j=> .int (g i j)):=by
 intro pins s σ H x y v u Q I rx ry h
 obtain ⟨i,j,rfl,rfl,hc,q⟩:=h
 obtain ⟨t,rfl⟩:=rx
 obtain ⟨t',rfl⟩:=ry
 exact rule i j t t' s _ _ hc ⟨.int (g i j),H,I.tok _,⟨_,rfl⟩,q⟩
theorem zma {f:Value→Value→Sem Value} {g:Int→Int→Int}
  (rule:∀(i j:Int) (t u:Tok) (s:Shared) (Q:Value→Shared→Prop) (E:Value→Shared→Prop),Q (.int (g i j) s.toks) {s with toks:=s.toks+1}→wpAny (model X.prog X.w) X.A (f (.int i t) (.int j u)) Q E s):
  OpR X f (rI0 fun i j=> .int (g i j)):=by
 intro pins s σ H x y v u Q I rx ry h
 obtain ⟨i,j,rfl,rfl,q⟩:=h
 obtain ⟨t,rfl⟩:=rx
 obtain ⟨t',rfl⟩:=ry
 exact rule i j t t' s _ _ ⟨.int (g i j),H,I.tok _,⟨_,rfl⟩,q⟩
theorem znc {f:Value→Value→Sem Value} {g:Int→Int→Bool}
  (rule:∀(i j:Int) (t u:Tok) (s:Shared) (Q:Value→Shared→Prop) (E:Value→Shared→Prop),Q (.bool (g i j)) s→wpAny (model X.prog X.w) X.A (f (.int i t) (.int j u)) Q E s):
  OpR X f (rI0 fun i j=> .bl (g i j)):=by
 intro pins s σ H x y v u Q I rx ry h
 obtain ⟨i,j,rfl,rfl,q⟩:=h
 obtain ⟨t,rfl⟩:=rx
 obtain ⟨t',rfl⟩:=ry
 exact rule i j t t' s _ _ ⟨.bl (g i j),H,I,rfl,q⟩

noncomputable def zkD (i j:Int):Prop:=0≤j∧j≤1000000∧i.natAbs<2^64
noncomputable def zhc (i j:Int):Prop:=(-(2^64)<i∧i<2^64)∨(-(2^64)<j∧j<2^64)
theorem zhc.ok {i j:Int} (h:zhc i j):IntMulOk i j:=by
 rcases h with ⟨h1,h2⟩|⟨h1,h2⟩
 ·exact .of_left (intBits_le_64 h1 h2)
 ·exact .of_right (intBits_le_64 h1 h2)

theorem yP:OpR X (binaryOp .Add) (rI0 fun i j=> .int (i+j)):=zma fun _ _ _ _ _ _ _ q=>add_int q
theorem zeA:OpR X (binaryOp .Sub) (rI0 fun i j=> .int (i-j)):=zma fun _ _ _ _ _ _ _ q=>sub_int q
theorem zkE:OpR X (binaryOp .Mult) (rI zhc fun i j=> .int (i*j)):=opI fun _ _ _ _ _ _ _ hc q=>mul_int q hc.ok
theorem Wj:OpR X (binaryOp .Mod) (rI (fun _ j=>0<j) fun i j=> .int (i % j)):=opI fun i j _ _ _ _ _ hc q=>by
 have h1:(0:Int)<j:=hc
 exact mod_int' (by omega) (by rw [Int.fmod_eq_emod_of_nonneg i (by omega)];exact q)
theorem zeB:OpR X (binaryOp .Pow) (rI zkD fun i j=> .int (i^j.toNat)):=opI fun _ _ _ _ _ _ _ hc q=>pow_int_small hc.1 hc.2.1 hc.2.2 q


theorem unI {f:Value→Sem Value} {g:Int→Int}
  (rule:∀(i:Int) (t:Tok) (s:Shared) (Q:Value→Shared→Prop) (E:Value→Shared→Prop),Q (.int (g i) s.toks) {s with toks:=s.toks+1}→wpAny (model X.prog X.w) X.A (f (.int i t)) Q E s):
  UnR X f (rU fun i=> .int (g i)):=by
 intro pins s σ H x v Q I rx h
 obtain ⟨i,rfl,q⟩:=h
 obtain ⟨t,rfl⟩:=rx
 exact rule i t s _ _ ⟨.int (g i),H,I.tok _,⟨_,rfl⟩,q⟩
theorem zkF:UnR X (unaryOp .USub) (rU fun i=> .int (-i)):=unI fun _ _ _ _ _ q=>neg_int q

end

noncomputable def zmb:V→V→Bool
 | .non,.non=>true| .non,.int _=>true| .int _,.non=>true| .non,.bl _=>true| .bl _,.non=>true| .non,.str _=>true| .str _,.non=>true
 | .int _,.int _=>true| .bl _,.bl _=>true| .str _,.str _=>true| .byt _,.byt _=>true
 | .int _,.str _=>true| .str _,.int _=>true| .bl _,.str _=>true| .str _,.bl _=>true
 |_,_=>false
noncomputable def rEq:R2:=fun x y H Q=>zmb x y=true∧Q (.bl (decide (x=y))) H
noncomputable def rNe:R2:=fun x y H Q=>zmb x y=true∧Q (.bl (!decide (x=y))) H

theorem zfw {i j:Int}:decide (V.int i=V.int j)=(i==j):=by
 rw [Bool.eq_iff_iff]
 simp
theorem zhd {i j:Bool}:decide (V.bl i=V.bl j)=(i==j):=by
 rw [Bool.eq_iff_iff]
 simp
theorem zfx {i j:Str}:decide (V.str i=V.str j)=(i==j):=by
 rw [Bool.eq_iff_iff]
 simp
theorem zfy {i j:Array UInt8}:decide (V.byt i=V.byt j)=(i.toList==j.toList):=by
 rw [Bool.eq_iff_iff]
 cases i
 cases j
 simp

section
variable {X:Cx} {a b c:Expr} {ta tb tc:TE} {pos:Pos}
theorem yM {pins:List (Addr×Obj)} {σ:St} {H:Hp} {s:Shared} {Q:VK} {k k':Bool} (I:Inv X pins σ H s) (q:Q (.bl k) H) (e:k=k'):EP X pins σ Q (.bool k') s:=by
 subst e
 exact ⟨.bl k,H,I,rfl,q⟩
theorem xp:OpR X (compareOp .Eq) rEq:=by
 intro pins s σ H x y v u Q I rx ry h
 obtain ⟨hs,q⟩:=h
 cases x with
 |non=>
  cases rx
  cases y with
  |non=>cases ry;exact PySem.EqNone.eq_none_none (yM I q (by simp))
  |bl j=>cases ry;exact PySem.EqNone.eq_none_bool (yM I q (by simp))
  |int j=>obtain ⟨t',rfl⟩:=ry;exact PySem.EqNone.eq_none_int (yM I q (by simp))
  |str j=>obtain ⟨t',rfl⟩:=ry;exact PySem.EqNone.eq_none_str (yM I q (by simp))
  |_=>exact absurd (show false=true from hs) Bool.false_ne_true
 |bl i=>
  cases rx
  cases y with
  |non=>cases ry;exact PySem.EqNone.eq_bool_none (yM I q (by simp))
  |bl j=>cases ry;exact eq_bool (yM I q zhd)
  |str j=>obtain ⟨t',rfl⟩:=ry;exact PySem.EqMixed.eq_bool_str (yM I q (by simp))
  |_=>exact absurd (show false=true from hs) Bool.false_ne_true
 |int i=>
  obtain ⟨t,rfl⟩:=rx
  cases y with
  |non=>cases ry;exact PySem.EqNone.eq_int_none (yM I q (by simp))
  |int j=>obtain ⟨t',rfl⟩:=ry;exact eq_int (yM I q zfw)
  |str j=>obtain ⟨t',rfl⟩:=ry;exact PySem.EqMixed.eq_int_str (yM I q (by simp))
  |_=>exact absurd (show false=true from hs) Bool.false_ne_true
 |str i=>
  obtain ⟨t,rfl⟩:=rx
  cases y with
  |non=>cases ry;exact PySem.EqNone.eq_str_none (yM I q (by simp))
  |bl j=>cases ry;exact PySem.EqMixed.eq_str_bool (yM I q (by simp))
  |int j=>obtain ⟨t',rfl⟩:=ry;exact PySem.EqMixed.eq_str_int (yM I q (by simp))
  |str j=>obtain ⟨t',rfl⟩:=ry;exact eq_str (yM I q zfx)
  |_=>exact absurd (show false=true from hs) Bool.false_ne_true
 |byt i=>
  obtain ⟨t,rfl⟩:=rx
  cases y with
  |byt j=>obtain ⟨t',rfl⟩:=ry;exact PySem.W.eq_bytes (yM I q zfy)
  |_=>exact absurd (show false=true from hs) Bool.false_ne_true
 |_=>cases y<;>exact absurd (show false=true from hs) Bool.false_ne_true
theorem zhe:OpR X (compareOp .NotEq) rNe:=by
 intro pins s σ H x y v u Q I rx ry h
 obtain ⟨hs,q⟩:=h
 cases x with
 |non=>
  cases rx
  cases y with
  |non=>cases ry;exact PySem.EqNone.ne_none_none (yM I q (by simp))
  |bl j=>cases ry;exact PySem.EqNone.ne_none_bool (yM I q (by simp))
  |int j=>obtain ⟨t',rfl⟩:=ry;exact PySem.EqNone.ne_none_int (yM I q (by simp))
  |str j=>obtain ⟨t',rfl⟩:=ry;exact PySem.EqNone.ne_none_str (yM I q (by simp))
  |_=>exact absurd (show false=true from hs) Bool.false_ne_true
 |bl i=>
  cases rx
  cases y with
  |non=>cases ry;exact PySem.EqNone.ne_bool_none (yM I q (by simp))
  |bl j=>cases ry;exact ne_bool (yM I q (congrArg not zhd))
  |str j=>obtain ⟨t',rfl⟩:=ry;exact PySem.EqMixed.ne_bool_str (yM I q (by simp))
  |_=>exact absurd (show false=true from hs) Bool.false_ne_true
 |int i=>
  obtain ⟨t,rfl⟩:=rx
  cases y with
  |non=>cases ry;exact PySem.EqNone.ne_int_none (yM I q (by simp))
  |int j=>obtain ⟨t',rfl⟩:=ry;exact ne_int (yM I q (congrArg not zfw))
  |str j=>obtain ⟨t',rfl⟩:=ry;exact PySem.EqMixed.ne_int_str (yM I q (by simp))
  |_=>exact absurd (show false=true from hs) Bool.false_ne_true
 |str i=>
  obtain ⟨t,rfl⟩:=rx
  cases y with
  |non=>cases ry;exact PySem.EqNone.ne_str_none (yM I q (by simp))
  |bl j=>cases ry;exact PySem.EqMixed.ne_str_bool (yM I q (by simp))
  |int j=>obtain ⟨t',rfl⟩:=ry;exact PySem.EqMixed.ne_str_int (yM I q (by simp))
  |str j=>obtain ⟨t',rfl⟩:=ry;exact ne_str (yM I q (congrArg not zfx))
  |_=>exact absurd (show false=true from hs) Bool.false_ne_true
 |byt i=>
  obtain ⟨t,rfl⟩:=rx
  cases y with
  |byt j=>obtain ⟨t',rfl⟩:=ry;exact PySem.W.ne_bytes (yM I q (congrArg not zfy))
  |_=>exact absurd (show false=true from hs) Bool.false_ne_true
 |_=>cases y<;>exact absurd (show false=true from hs) Bool.false_ne_true

theorem Tw:OpR X (compareOp .LtE) (rI0 fun i j=> .bl (decide (i≤j))):=znc fun _ _ _ _ _ _ _ q=>le_int q
theorem zgj:OpR X (compareOp .In) (fun x y H Q=>∃i j,x= .str i∧y= .str j∧Q (.bl (!(Builtin.Str.occurrences j i 0 j.length 1).isEmpty)) H):=by
 intro pins s σ H x y v u Q I rx ry h
 obtain ⟨i,j,rfl,rfl,q⟩:=h
 obtain ⟨t,rfl⟩:=rx
 obtain ⟨t',rfl⟩:=ry
 exact in_str (yM I q rfl)




theorem zac {op:CmpOp} {r:R2} (ho:OpR X (compareOp op) r) (ha:PE X a ta) (hb:PE X b tb) (hm:behindInMarks op b=false):PE X (.Compare a [op] [b] pos) (tOp r ta tb):=by
 intro pins s σ H Q I h
 exact wpAny_Compare1 (zkC ha hb I h fun v u s2 x y H2 I2 rx ry q=>ho pins s2 σ H2 x y v u Q I2 rx ry q) hm
noncomputable def zhf (t:TE):TT:=fun σ H Q=>t σ H fun x H'=>∃k,x= .bl k∧Q k H'
theorem yf {op:CmpOp} {r:R2} (ho:OpR X (compareOp op) r) (ha:PE X a ta) (hb:PE X b tb) (hm:behindInMarks op b=false):PT X (.Compare a [op] [b] pos) (zhf (tOp r ta tb)):=by
 intro pins s σ H Q I h
 refine wpAny_isTrue_Compare1 (thn (ha pins s σ H _ I h) fun v s1 ⟨x,H1,I1,r1,q1⟩=>thn (hb pins s1 σ H1 _ I1 q1) fun u s2 ⟨y,H2,I2,r2,q2⟩=>
  thn (ho pins s2 σ H2 x y v u _ I2 r1 r2 q2) fun c s3 ⟨z,H3,I3,r3,k,e,q3⟩=> ?_) hm
 subst e
 cases r3
 exact wpAny_truthy_bool ⟨H3,I3,q3⟩
noncomputable def zeC (r r':R2) (ta tb tc:TE):TE:=fun σ H Q=>ta σ H fun x H1=>tb σ H1 fun y H2=>r x y H2 fun z H3=>∃k,z= .bl k∧
 (if k=true then tc σ H3 fun w' H4=>r' y w' H4 Q else Q (.bl false) H3)
theorem zdl {op op':CmpOp} {r r':R2} (ho:OpR X (compareOp op) r) (ho':OpR X (compareOp op') r') (ha:PE X a ta) (hb:PE X b tb) (hc:PE X c tc)
  (hm:lastMarks [op,op'] [b,c]=false:=by with_unfolding_all rfl):PE X (.Compare a [op,op'] [b,c] pos) (zeC r r' ta tb tc):=by
 intro pins s σ H Q I h
 refine Compare_chain (thn (ha pins s σ H _ I h) fun v s1 ⟨x,H1,I1,r1,q1⟩=>chain_link (thn (hb pins s1 σ H1 _ I1 q1) fun u s2 ⟨y,H2,I2,r2,q2⟩=>
  thn (ho pins s2 σ H2 x y v u _ I2 r1 r2 q2) fun d s3 ⟨z,H3,I3,r3,k,e,q3⟩=> ?_)) hm
 subst e
 cases r3
 refine wpAny_truthy_bool ?_
 cases k with
 |false=>exact ite_ff ⟨.bl false,H3,I3,rfl,q3⟩
 |true=>exact ite_tt (chain_last (thn (hc pins s3 σ H3 _ I3 q3) fun w' s4 ⟨z',H4,I4,r4,q4⟩=>ho' pins s4 σ H4 y z' u w' Q I4 r2 r4 q4))
theorem zdm {op op':CmpOp} {r r':R2} (ho:OpR X (compareOp op) r) (ho':OpR X (compareOp op') r') (ha:PE X a ta) (hb:PE X b tb) (hc:PE X c tc)
  (hm:lastMarks [op,op'] [b,c]=false:=by with_unfolding_all rfl):PT X (.Compare a [op,op'] [b,c] pos) (zhf (zeC r r' ta tb tc)):=by
 intro pins s σ H Q I h
 refine isTrue_chain (thn (ha pins s σ H _ I h) fun v s1 ⟨x,H1,I1,r1,q1⟩=>test_link (thn (hb pins s1 σ H1 _ I1 q1) fun u s2 ⟨y,H2,I2,r2,q2⟩=>
  thn (ho pins s2 σ H2 x y v u _ I2 r1 r2 q2) fun d s3 ⟨z,H3,I3,r3,k,e,q3⟩=> ?_)) hm
 subst e
 cases r3
 refine wpAny_truthy_bool ?_
 cases k with
 |false=>
  obtain ⟨k',e',q'⟩:=q3
  cases e'
  exact ite_ff ⟨H3,I3,q'⟩
 |true=>
  refine ite_tt (test_last (thn (hc pins s3 σ H3 _ I3 q3) ?_))
  rintro w' s4 ⟨z',H4,I4,r4,q4⟩
  refine thn (ho' pins s4 σ H4 y z' u w' _ I4 r2 r4 q4) ?_
  rintro d' s5 ⟨z2,H5,I5,r5,k2,e2,q5⟩
  subst e2
  cases r5
  exact wpAny_truthy_bool ⟨H5,I5,q5⟩

theorem UR:(sizeLine:Nat)<2^63:=by rw [sizeLine_eq];decide

theorem xk:OpR X (binaryOp .Add) (fun x y H Q=>∃i j,x= .str i∧y= .str j∧i.length+j.length≤sizeLine∧Q (.str (i++j)) H):=by
 intro pins s σ H x y v u Q I rx ry h
 obtain ⟨i,j,rfl,rfl,hz,q⟩:=h
 obtain ⟨t,rfl⟩:=rx
 obtain ⟨t',rfl⟩:=ry
 exact add_str (fun t' tk=>⟨.str (i++j),H,I.tok _,⟨_,rfl⟩,q⟩) hz


theorem Xb {x:V} {us:List Value} (r:yr [x] us):∃u,us=[u]∧yA x u:=by
 cases r with
 |cons r1 r2=>cases r2;exact ⟨_,rfl,r1⟩
theorem zfz {x y:V} {us:List Value} (r:yr [x,y] us):∃u w',us=[u,w']∧yA x u∧yA y w':=by
 cases r with
 |cons r1 r2=>
  cases r2 with
  |cons r3 r4=>cases r4;exact ⟨_,_,rfl,r1,r3⟩
theorem zgk (hc:X.calm=true):vq X (.builtin "max") (fun xs H Q=>∃i j,xs=[.int i,.int j]∧Q (.int (if j>i then j else i)) H):=by
 intro pins s σ H xs us Q I r h
 obtain ⟨i,j,rfl,q⟩:=h
 obtain ⟨u,w',rfl,⟨t,rfl⟩,⟨t',rfl⟩⟩:=zfz r
 refine max_two_ints (I.ok.hd hc) fun h' tk k=>⟨_,H,I.kept k,?_,q⟩
 by_cases hj:j>i
 ·rw [if_pos hj,if_pos hj];exact ⟨_,rfl⟩
 ·rw [if_neg hj,if_neg hj];exact ⟨_,rfl⟩
theorem zgl (hc:X.calm=true):vq X (.builtin "min") (fun xs H Q=>∃i j,xs=[.int i,.int j]∧Q (.int (if j<i then j else i)) H):=by
 intro pins s σ H xs us Q I r h
 obtain ⟨i,j,rfl,q⟩:=h
 obtain ⟨u,w',rfl,⟨t,rfl⟩,⟨t',rfl⟩⟩:=zfz r
 refine min_two_ints (I.ok.hd hc) fun h' tk k=>⟨_,H,I.kept k,?_,q⟩
 by_cases hj:j<i
 ·rw [if_pos hj,if_pos hj];exact ⟨_,rfl⟩
 ·rw [if_neg hj,if_neg hj];exact ⟨_,rfl⟩
end
end L2

namespace L2
open PySem PySem.Spec PyProof.Rows

structure zeD (h:Heap) (x dx C:Addr) (mA:Str→Option Value):Prop where
 obj:h.get? x=some (PySem.W.instObj C dx)
 ns:h.Ns1 dx mA
 ne:dx≠x

theorem zgm {h:Heap} {dx:Addr} {mA:Str→Option Value} (n:h.Ns1 dx mA):∃od,h.get? dx=some od∧∀name,PySem.W.lookIn name od=some (mA name):=by
 obtain ⟨o,es,ep,ho,hd,hk,_,hm⟩:=n
 refine ⟨o,ho,fun name=> ?_⟩
 have e:=hm name
 unfold nsFind findBy at e
 rw [←Array.find?_toList] at e
 unfold PySem.W.lookIn
 rw [hd]
 dsimp only
 split
 ·rename_i y q
  rw [q] at e
  exact congrArg some e
 ·rename_i q
  rw [q] at e
  have a:es.toList.any (·.refKey)=false:=by
   rw [List.any_eq_false]
   intro y hy
   obtain ⟨z,t,hkey⟩:=hk y (Array.mem_toList_iff.mp hy)
   simp [DictEntry.refKey,hkey]
  have a':¬es.toList.any (·.refKey)=true:=by rw [a];exact Bool.false_ne_true
  rw [if_neg a']
  exact congrArg some e

theorem zeD.look {h:Heap} {x dx C:Addr} {mA:Str→Option Value} (I:zeD h x dx C mA):∃od,PySem.W.InstAt h x (PySem.W.instObj C dx) C (some od)∧∀name,PySem.W.lookIn name od=some (mA name):=
 let ⟨od,ho,hl⟩:=zgm I.ns
 ⟨od,⟨I.obj,rfl,rfl,ho⟩,hl⟩

section
variable {prog:Program} {w:World} {A:Around} {E:Value→Shared→Prop} {s:Shared} {K:PySem.W.Frag} {x dx C f:Addr} {mA:Str→Option Value} {name:Str} {v:Value}

theorem ziD {expr:Bool} {Q:Value→Shared→Prop} (X:K.In s.heap) (I:zeD s.heap x dx C mA) (hg:PySem.W.plainGet K C name=true) (hh:PySem.W.hasDictIn K C=true)
  (ha:PySem.W.findIn K (.ref C) name=some none) (hv:mA name=some v) (hv':PySem.W.handedIn v=true) (h:Q v {s with toks:=s.toks+1}):
  wpAny (model prog w) A (getAttr (.ref x) name expr) Q E s:=by
 obtain ⟨od,J,hl⟩:=I.look
 exact PySem.W.get_value X J (PySem.W.plainGet_of hg).1 (PySem.W.findObj_own hh ha rfl (by rw [hl,hv])) hv' h


theorem zhg {pl:Sem Bool} {Q:Value×List Value→Shared→Prop} (X:K.In s.heap) (I:zeD s.heap x dx C mA) (hg:PySem.W.plainGet K C name=true)
  (hf:PySem.W.findIn K (.ref C) name=some (some (.ref f))) (ht:PySem.W.isFn K (.ref f)=true) (hv:mA name=none) (h:Q (.ref f,[.ref x]) s):
  wpAny (model prog w) A (getMethod (.ref x) name pl) Q E s:=by
 obtain ⟨od,J,hl⟩:=I.look
 exact PySem.W.method_fn X J (PySem.W.plainGet_of hg).1 (PySem.W.plainGet_of hg).2 hf (beq_iff_eq.mp ht) (by show (PySem.W.lookIn name od).map (·.isSome)=some false;rw [hl,hv];rfl) h

theorem ziE {ns:List Str} {Q:Unit→Shared→Prop} (X:K.In s.heap) (I:zeD s.heap x dx C mA)
  (hs:PySem.W.findIn K (.ref C) "__setattr__"=some (some (.builtin "object.__setattr__"))) (hp:PySem.W.plainOver K C=true) (ht:PySem.W.takerIn K C name=some none) (hh:PySem.W.hasDictIn K C=true)
  (hw:PySem.Within mA ns) (hsz:ns.length≤sizeLine)
  (h:∀h',zeD h' x dx C (fun y=>if y=name then some v else mA y)→Heap.SameBut dx s.heap h'→Q () {s with heap:=h',toks:=s.toks+2}):
  wpAny (model prog w) A (setAttr (.ref x) name v) Q E s:=by
 obtain ⟨od,J,hl⟩:=I.look
 refine PySem.W.set_plain X J hs (PySem.W.osa_open (s:={s with toks:=s.toks+1}) (r:=none) X J hp ht fun b=> ?_)
 obtain ⟨cd,hc,hd'⟩:=PySem.W.any_some hh
 have hx:s.heap.get? x=some ⟨.ref C,some dx,.plain,#[]⟩:=I.obj
 refine wpAny_bind (wpAny_pure (wpAny_bind (wpAny_bind (wpAny_loadPart hx (wpAny_bind (PySem.W.Looks.here (s:={s with toks:=s.toks+1}) (PySem.W.looks_clsIn X hc) ?_))))))
 rw [hd']
 refine wpAny_pure (a:=some dx) (wpAny_bind (wpAny_pure (wpAny_bind ?_)))
 refine wpAny_nsSet1 (s:={s with toks:=s.toks+1}) I.ns fun h' hn2 hs2=> ?_
 obtain ⟨oD,esD,epD,hoD,hdD,hcD⟩:=hn2.count (PySem.Within.cons name v hw)
 refine wpAny_bind (wpAny_lookBehind hoD (by rw [hdD];exact pastItsLine_dict (Nat.le_trans hcD (by rw [List.length_cons];omega))) ?_)
 exact wpAny_pure (h _ ⟨(hs2.2 _ (Ne.symm I.ne)).trans I.obj,hn2,I.ne⟩ hs2)

theorem zhh {R:Result→Shared→Prop} {vs:List Value} {kw:List (Str×Value)} (X:K.In s.heap) (hm:PySem.W.makesIn K C=true)
  (hi:PySem.W.findIn K (.ref C) "__init__"=some (some (.ref f))) (hf:PySem.W.typeIn K (.ref f)=some (.type "function"))
  (h:codeAny (model prog w) (A.under (.builtin "type.__call__" ⟨.ref C::vs,kw⟩)) (.call (.ref f) ⟨.ref (s.heap.objs.size+1)::vs,kw⟩) (PySem.W.InitBack (s.heap.objs.size+1) R)
   {s with heap:=(s.heap.push PySem.W.emptyDict).push (PySem.W.instObj C s.heap.objs.size)}):
  codeAny (model prog w) A (.call (.ref C) ⟨vs,kw⟩) R s:=by
 obtain ⟨hh,g,d,t,os⟩:=s
 exact PySem.W.make_core (PySem.W.makes_of X hm) (PySem.W.looks_findIn X hi) (fun self=>PySem.W.bind_fn X self hf) (.inl rfl) h
end

noncomputable def Yx (f:Str) (v:V):List (Str×V)→List (Str×V)
 |[]=>[(f,v)]
 |(g,x)::r=>if g=f then (g,v)::r else (g,x)::Yx f v r
theorem Tz (f g:Str) (v:V):∀fs:List (Str×V),(Yx f v fs).lookup g=if g=f then some v else fs.lookup g
 |[]=>by
  show List.lookup g [(f,v)]=_
  by_cases h:g=f
  ·have hb:(g==f)=true:=beq_iff_eq.mpr h
   simp only [List.lookup,hb,if_pos h]
  ·have hb:(g==f)=false:=beq_eq_false_iff_ne.mpr h
   simp only [List.lookup,hb,if_neg h]
 |(k,x)::r=>by
  have ih:=Tz f g v r
  rw [show Yx f v ((k,x)::r)=(if k=f then (k,v)::r else (k,x)::Yx f v r) from rfl]
  by_cases hk:k=f
  ·rw [if_pos hk]
   by_cases h:g=k
   ·have hb:(g==k)=true:=beq_iff_eq.mpr h
    simp only [List.lookup,hb,if_pos (h.trans hk)]
   ·have hb:(g==k)=false:=beq_eq_false_iff_ne.mpr h
    simp only [List.lookup,hb,if_neg (fun e:g=f=>h (e.trans hk.symm))]
  ·rw [if_neg hk]
   by_cases h:g=k
   ·have hb:(g==k)=true:=beq_iff_eq.mpr h
    simp only [List.lookup,hb,if_neg (fun e:g=f=>hk (h.symm.trans e))]
   ·have hb:(g==k)=false:=beq_eq_false_iff_ne.mpr h
    simp only [List.lookup,hb]
    exact ih
theorem US (f:Str) (v:V):∀fs:List (Str×V),f∈(Yx f v fs).map (·.1)∧∀g,g∈fs.map (·.1)→g∈(Yx f v fs).map (·.1)
 |[]=>⟨by simp [Yx],fun g h=>by simp at h⟩
 |(k,x)::r=>by
  obtain ⟨i1,i2⟩:=US f v r
  rw [show Yx f v ((k,x)::r)=(if k=f then (k,v)::r else (k,x)::Yx f v r) from rfl]
  by_cases hk:k=f
  ·rw [if_pos hk]
   subst hk
   exact ⟨by simp,fun g h=>by simpa using h⟩
  ·rw [if_neg hk]
   refine ⟨?_,fun g h=> ?_⟩
   ·rw [List.map_cons]
    exact List.mem_cons_of_mem _ i1
   ·rw [List.map_cons] at h ⊢
    rcases List.mem_cons.mp h with e|e
    ·exact List.mem_cons.mpr (.inl e)
    ·exact List.mem_cons_of_mem _ (i2 g e)
theorem TB (f:Str) (v:V):∀fs:List (Str×V),(Yx f v fs).length≤fs.length+1
 |[]=>by simp [Yx]
 |(k,x)::r=>by
  have ih:=TB f v r
  rw [show Yx f v ((k,x)::r)=(if k=f then (k,v)::r else (k,x)::Yx f v r) from rfl]
  by_cases hk:k=f
  ·rw [if_pos hk,List.length_cons,List.length_cons];omega
  ·rw [if_neg hk,List.length_cons,List.length_cons];omega

theorem Vj.some_of {v:V} {o:Option Value} (r:Vj (some v) o):∃u,o=some u∧yA v u:=by
 cases o with
 |none=>exact (show False from r).elim
 |some u=>exact ⟨u,rfl,r⟩
theorem Vj.none_of {o:Option Value} (r:Vj none o):o=none:=by
 cases o with
 |none=>rfl
 |some u=>exact (show False from r).elim
theorem zgn {v:V} {u:Value} (r:yA v u):PySem.W.handedIn u=true:=by
 cases v with
 |non=>cases (show u=Value.none from r);rfl
 |bl b=>cases (show u=Value.bool b from r);rfl
 |int i=>obtain ⟨t,e⟩:=(show ∃t,u=Value.int i t from r);cases e;rfl
 |str x=>obtain ⟨t,e⟩:=(show ∃t,u=Value.str x t from r);cases e;rfl
 |byt b=>obtain ⟨t,e⟩:=(show ∃t,u=Value.bytes b t from r);cases e;rfl
 |flt b=>obtain ⟨t,e⟩:=(show ∃t,u=Value.float b t from r);cases e;rfl
 |ref a=>cases (show u=Value.ref a from r);rfl
 |ty n=>cases (show u=Value.type n from r);rfl

section
variable {P:Program} {w:World} {H H':Hp} {h h':Heap} {a C dx:Addr} {fs fs':List (Str×V)}
theorem zad (hok:HOk P w H h) (e:H a=some (.ins C dx fs)):∃mA,zeD h a dx C mA∧(∀f,Vj (fs.lookup f) (mA f))∧PySem.Within mA (fs.map (·.1))∧fs.length≤1000∧H dx=some (.own a):=by
 obtain ⟨d,z,ne,ob,mA,n,r,q⟩:=(show xC P w H h a (.ins C dx fs) from hok a _ e)
 exact ⟨mA,⟨ob,n,ne⟩,r,q,z,d⟩
end

structure Cls (K:PySem.W.Frag) (C:Addr):Prop where
 pg:PySem.W.plainGet K C Str.empty=true
 hd:PySem.W.hasDictIn K C=true
 po:PySem.W.plainOver K C=true
 sa:PySem.W.findIn K (.ref C) "__setattr__"=some (some (.builtin "object.__setattr__"))
theorem Cls.get {K:PySem.W.Frag} {C:Addr} (c:Cls K C) (f:Str):PySem.W.plainGet K C f=true:=c.pg
noncomputable def Ze (K:PySem.W.Frag) (C:Addr) (f:Str):Prop:=PySem.W.findIn K (.ref C) f=some none
theorem Ze.taker {K:PySem.W.Frag} {C:Addr} {f:Str} (n:Ze K C f):PySem.W.takerIn K C f=some none:=by
 unfold PySem.W.takerIn
 rw [show PySem.W.findIn K (.ref C) f=some none from n]
 rfl
structure Con (K:PySem.W.Frag) (C:Addr) (f:Str) (v:V) (u:Value):Prop where
 at_:PySem.W.findIn K (.ref C) f=some (some u)
 rel:yA v u
 get:PySem.W.specialIn K u "__get__"=some none
 cp:PySem.W.copiedNames.contains f=false
structure ziF (K:PySem.W.Frag) (C:Addr) (m:Str) (f:Addr):Prop where
 at_:PySem.W.findIn K (.ref C) m=some (some (.ref f))
 fn:PySem.W.isFn K (.ref f)=true
 kp:PySem.W.keepIn K (.ref f)=true

section
variable {X:Cx} {pins:List (Addr×Obj)} {σ:St} {H:Hp} {s:Shared} {a C dx:Addr} {fs:List (Str×V)} {f:Str} {v:V} {A:Around} {E:Value→Shared→Prop}

theorem zas {b:Bool} {Q:Value→Shared→Prop} (I:Inv X pins σ H s) (e:H a=some (.ins C dx fs)) (c:Cls X.K C) (n:Ze X.K C f) (l:fs.lookup f=some v)
  (h:∀u s',Inv X pins σ H s'→yA v u→Q u s'):wpAny (model X.prog X.w) A (getAttr (.ref a) f b) Q E s:=by
 obtain ⟨mA,O,r,_,_,_⟩:=zad I.hok e
 obtain ⟨u,hu,ru⟩:=Vj.some_of (v:=v) (o:=mA f) (by rw [←l];exact r f)
 exact ziD I.kIn O (c.get f) c.hd n hu (zgn ru) (h u _ (I.tok _) ru)


theorem zat {m:Str} {g:Addr} {pl:Sem Bool} {Q:Value×List Value→Shared→Prop} (I:Inv X pins σ H s) (e:H a=some (.ins C dx fs)) (c:Cls X.K C) (k:ziF X.K C m g) (l:fs.lookup m=none)
  (h:Q (.ref g,[.ref a]) s):wpAny (model X.prog X.w) A (getMethod (.ref a) m pl) Q E s:=by
 obtain ⟨mA,O,r,_,_,_⟩:=zad I.hok e
 have hn:mA m=none:=Vj.none_of (by rw [←l];exact r m)
 exact zhg I.kIn O (c.get m) k.at_ k.fn hn h

theorem zau {y:V} {u:Value} {Q:Unit→Shared→Prop} (I:Inv X pins σ H s) (e:H a=some (.ins C dx fs)) (c:Cls X.K C) (n:Ze X.K C f) (hl:fs.length<1000) (ry:yA y u)
  (h:∀s',Inv X pins σ (upd H a (.ins C dx (Yx f y fs))) s'→Q () s'):wpAny (model X.prog X.w) A (setAttr (.ref a) f u) Q E s:=by
 obtain ⟨mA,O,r,wi,_,ho⟩:=zad I.hok e
 have hz:(fs.map (·.1)).length≤sizeLine:=by rw [List.length_map,sizeLine_eq];omega
 refine ziE I.kIn O c.sa c.po n.taker c.hd wi hz fun h' O' sb=>h _ ?_
 have hd:∃o,h'.get? dx=some o:=let ⟨o,_,_,e',_⟩:=O'.ns;⟨o,e'⟩
 refine I.write (x:=a) (e:=dx) (by rw [e];exact True.intro) (.inr ho) (fun b q hb z=>(sb.2 b hb).trans z) hd ?_
 refine ⟨by rw [yG O.ne];exact ho,?_,O.ne,O'.obj,_,O'.ns,fun g=> ?_,fun g hg=> ?_⟩
 ·have:=TB f y fs;omega
 ·show Vj ((Yx f y fs).lookup g) (if g=f then some u else mA g)
  rw [Tz]
  by_cases q:g=f
  ·rw [if_pos q,if_pos q];exact ry
  ·rw [if_neg q,if_neg q];exact r g
 ·by_cases q:g=f
  ·rw [q];exact (US f y fs).1
  ·refine (US f y fs).2 g (wi g fun z=>hg ?_)
   show (if g=f then some u else mA g)=none
   rw [if_neg q];exact z

theorem Inv.made (I:Inv X pins σ H s):Inv X pins σ (upd (upd H s.heap.objs.size (.own (s.heap.objs.size+1))) (s.heap.objs.size+1) (.ins C s.heap.objs.size []))
  {s with heap:=(s.heap.push PySem.W.emptyDict).push (PySem.W.instObj C s.heap.objs.size)}:=by
 have e1:(s.heap.push PySem.W.emptyDict).get? s.heap.objs.size=some PySem.W.emptyDict:=Heap.get?_push_size s.heap rfl
 have e2:((s.heap.push PySem.W.emptyDict).push (PySem.W.instObj C s.heap.objs.size)).get? (s.heap.objs.size+1)=some (PySem.W.instObj C s.heap.objs.size):=by
  have:=Heap.get?_push_size (s.heap.push PySem.W.emptyDict) (o:=PySem.W.instObj C s.heap.objs.size) rfl
  rwa [Heap.size_push] at this
 have e3:(s.heap.push PySem.W.emptyDict).Ns s.heap.objs.size (fun _=>none):=⟨PySem.W.emptyDict,#[],_,e1,rfl,(fun e he=>absurd he (by simp)),fun _=>rfl⟩
 have I1:=I.laid (a:=s.heap.objs.size) (o:= .own (s.heap.objs.size+1)) (h':=s.heap.push PySem.W.emptyDict) (t':=s.toks) (fun b u q=>Heap.get?_push_of_some _ q) (Nat.le_refl _) ⟨_,e1⟩
 refine I1.laid (a:=s.heap.objs.size+1) (o:= .ins C s.heap.objs.size []) (t':=s.toks) (fun b u q=>Heap.get?_push_of_some _ q) (Nat.le_of_eq (Heap.size_push _ _)) ?_
 have ne:s.heap.objs.size≠s.heap.objs.size+1:=Nat.ne_of_lt (Nat.lt_succ_self _)
 refine ⟨by rw [yG ne,yS],Nat.zero_le _,ne,e2,fun _=>none,(Heap.Ns1.of_empty e3).at fun o q=>Heap.get?_push_of_some _ q,fun _=>True.intro,fun y hy=>absurd rfl hy⟩

theorem ziG {prog:Program} {w:World} {env:Env} {e:Expr} {f:Str} {pos:Pos} {s:Shared} {Q:Value→Shared→Prop} (hb:attributeBase e f env (eval e env)=eval e env)
  (h:wpAny (model prog w) A (eval e env) (fun o s₁=>wpAny (model prog w) A (getAttr o f true) Q E s₁) E s):wpAny (model prog w) A (eval (.Attribute e f pos) env) Q E s:=
 Attribute_any_ h (by rw [arm_eval_Attribute,hb])
end

noncomputable def zmc (K:PySem.W.Frag) (ta:TE) (f:Str):TE:=fun σ H Q=>ta σ H fun x H1=>∃a C dx fs v,x= .ref a∧H1 a=some (.ins C dx fs)∧Cls K C∧Ze K C f∧fs.lookup f=some v∧Q v H1
noncomputable def zmd (K:PySem.W.Frag) (ta tv:TE) (f:Str):TS:=fun D σ H=>tv σ H fun y H1=>ta σ H1 fun x H2=>∃a C dx fs,x= .ref a∧H2 a=some (.ins C dx fs)∧Cls K C∧Ze K C f∧fs.length<1000∧
 D.nx σ (upd H2 a (.ins C dx (Yx f y fs)))
noncomputable def zme (X:Cx) (op:Operator) (rd:V→V→Hp→VK→Prop):Prop:=
 ∀(pins:List (Addr×Obj)) (s:Shared) (σ:St) (H:Hp) (x y:V) (u v:Value) (Q:VK),Inv X pins σ H s→yA x u→yA y v→rd x y H Q→wpAny (model X.prog X.w) X.A (inplaceOp op u v) (EP X pins σ Q) X.xe s
noncomputable def zfA (K:PySem.W.Frag) (ta tv:TE) (rd:V→V→Hp→VK→Prop) (f:Str):TS:=fun D σ H=>ta σ H fun x H1=>∃a C dx fs v,x= .ref a∧H1 a=some (.ins C dx fs)∧Cls K C∧Ze K C f∧fs.lookup f=some v∧
 tv σ H1 fun y H2=>rd v y H2 fun z H3=>∃dx' fs',H3 a=some (.ins C dx' fs')∧fs'.length<1000∧D.nx σ (upd H3 a (.ins C dx' (Yx f z fs')))

section
variable {X:Cx} {o e value:Expr} {f:Str} {pos pos' tpos:Pos} {ta tv:TE}
theorem UT (he:PE X e ta) (hb:attributeBase e f X.env (eval e X.env)=eval e X.env):PE X (.Attribute e f pos) (zmc X.K ta f):=by
 intro pins s σ H Q I h
 refine ziG hb (thn (he pins s σ H _ I h) ?_)
 rintro u s1 ⟨x,H1,I1,rx,a,C,dx,fs,v,ex,ea,c,n,l,q⟩
 subst ex
 obtain rfl:u=Value.ref a:=rx
 exact zas I1 ea c n l fun u' s2 I2 ru=>⟨v,H1,I2,ru,q⟩
theorem zeE (ha:PE X o ta) (hv:PE X value tv) (hs:swapsWith value (some (.Attribute o f pos')) pos.line X.env=pure false):PS X (.Assign [.Attribute o f pos'] value pos) (zmd X.K ta tv f):=by
 intro pins s σ H D I h
 refine plainObj_wpAny_Assign_Attribute (thn (hv pins s σ H _ I h) ?_) hs
 rintro u s1 ⟨y,H1,I1,ry,q⟩
 refine thn (ha pins s1 σ H1 _ I1 q) ?_
 rintro ov s2 ⟨x,H2,I2,rx,a,C,dx,fs,ex,ea,c,n,l,q2⟩
 subst ex
 obtain rfl:ov=Value.ref a:=rx
 exact zau I2 ea c n l ry fun s3 I3=>⟨σ,_,I3,q2⟩
theorem zgo {op:Operator} {rd:V→V→Hp→VK→Prop} (ha:PE X o ta) (hv:PE X value tv) (hop:zme X op rd):PS X (.AugAssign (.Attribute o f tpos) op value pos) (zfA X.K ta tv rd f):=by
 intro pins s σ H D I h
 refine wpAny_AugAssign_AttributeAny (thn (ha pins s σ H _ I h) ?_)
 rintro ov s1 ⟨x,H1,I1,rx,a,C,dx,fs,v,ex,ea,c,n,l,q⟩
 subst ex
 obtain rfl:ov=Value.ref a:=rx
 refine zas I1 ea c n l fun u s2 I2 ru=>thn (hv pins s2 σ H1 _ I2 q) ?_
 rintro w3 s3 ⟨y,H2,I3,ry,q3⟩
 refine thn (hop pins s3 σ H2 v y u w3 _ I3 ru ry q3) ?_
 rintro w4 s4 ⟨z,H3,I4,rz,dx',fs',ea',l',q4⟩
 exact zau I4 ea' c n l' rz fun s5 I5=>⟨σ,_,I5,q4⟩
noncomputable def zmf:V→V→Hp→VK→Prop:=fun x y H Q=>∃i j,x= .int i∧y= .int j∧Q (.int (i+j)) H
theorem zkG:zme X .Add zmf:=by
 rintro pins s σ H x y u v Q I rx ry ⟨i,j,rfl,rfl,q⟩
 obtain ⟨t,rfl⟩:=(show ∃t,u=Value.int i t from rx)
 obtain ⟨t',rfl⟩:=(show ∃t',v=Value.int j t' from ry)
 exact PyProof.Rows.iadd_int ⟨.int (i+j),H,I.tok _,⟨_,rfl⟩,q⟩

end

section
variable {X:Cx} {pins:List (Addr×Obj)} {σ:St} {H:Hp} {s:Shared} {A:Around} {E:Value→Shared→Prop} {Q:Value→Shared→Prop} {c:Value} {b:Bool}
inductive TH (K:PySem.W.Frag) (H:Hp):V→Value→Prop where
 |non:TH K H .non (.type "NoneType")
 |bl (x:Bool):TH K H (.bl x) (.type "bool")
 |int (i:Int):TH K H (.int i) (.type "int")
 |str (x:Str):TH K H (.str x) (.type "str")
 |flt (x:UInt64):TH K H (.flt x) (.type "float")
 |lst {a:Addr} {xs:List V} (e:H a=some (.lst xs)):TH K H (.ref a) (.type "list")
 |frz {a:Addr} {o:Obj} {xs:List V} (e:H a=some (.frz o (.lst xs))):TH K H (.ref a) (.type "list")
 |tup {a:Addr} {xs:List V} (e:H a=some (.tup xs)):TH K H (.ref a) (.type "tuple")
 |dK {a:Addr} {kvs:List (Key×V)} (e:H a=some (.dK kvs)):TH K H (.ref a) (.type "dict")
 |dT {a:Addr} {kvs:List (List Key×V)} (e:H a=some (.dT kvs)):TH K H (.ref a) (.type "dict")
 |ins {a C dx:Addr} {fs:List (Str×V)} (e:H a=some (.ins C dx fs)) (cl:Cls K C) (ha:PySem.W.findIn K (.ref C) "__class__"=some (some (.builtin "object.__class__")))
   (hn:PySem.W.specialIn K (.builtin "object.__class__") "__get__"=some (some (.builtin "getset_descriptor.__get__"))) (htk:PySem.W.takesIn K (.builtin "object.__class__")=some true)
   (hm:PySem.W.mroIn K C (.type "object")=some true):TH K H (.ref a) (.ref C)
end
end L2

namespace L2
open PySem PySem.Spec PyProof.Rows

structure vx (k:Nat) (A:Around):Prop where
 hd:A.handled=none
 dp:A.depth+3*k+5<recursionLimit
 un:A.units+16*k+200<cLine
 gd:A.guards=some []
theorem vx.mono {j k:Nat} {A:Around} (r:vx k A) (h:j≤k):vx j A:=⟨r.hd,by have:=r.dp;omega,by have:=r.un;omega,r.gd⟩
theorem vx.deeper {k:Nat} {A:Around} (r:vx (k+1) A) (env:Env):vx k (A.deeper env):=
 ⟨r.hd,by have:=r.dp;show A.depth+1+3*k+5<_;omega,by have:=r.un;show A.units+3+16*k+200<_;omega,r.gd⟩
theorem zeF {A:Around} {C:Addr} {us:List Value} {kw:List (Str×Value)}:(A.under (.builtin "type.__call__" ⟨.ref C::us,kw⟩)).depth=A.depth+1:=by
 first|rfl|simp [Around.under,Code.weight,Code.isCreation,Code.isGuard,Code.isCaller,Code.frames,Code.isFrame,guardIds]
theorem zeG {A:Around} {C:Addr} {us:List Value} {kw:List (Str×Value)}:(A.under (.builtin "type.__call__" ⟨.ref C::us,kw⟩)).units=A.units+1:=by
 first|rfl|simp [Around.under,Code.cUnits,Code.frames,Code.isFrame]
theorem vx.make {k:Nat} {A:Around} (r:vx (k+1) A) (C:Addr) (us:List Value) (kw:List (Str×Value)):vx k (A.under (.builtin "type.__call__" ⟨.ref C::us,kw⟩)):=
 ⟨r.hd,by have:=r.dp;rw [zeF];omega,by have:=r.un;rw [zeG];omega,r.gd⟩
theorem vx.depth {k:Nat} {A:Around} (r:vx k A):A.depth<recursionLimit:=by have:=r.dp;omega
theorem vx.units {k:Nat} {A:Around} (r:vx k A):A.units+64<cLine:=by have:=r.un;omega

noncomputable def zeH:TA:=fun _ H Q=>Q [] H
noncomputable def VU (ta:TE) (tr:TA):TA:=fun σ H Q=>ta σ H fun x H1=>tr σ H1 fun xs H2=>Q (x::xs) H2
section
variable {X:Cx} {e:Expr} {es:List Expr} {te:TE} {t:TA} {pos:Pos}
theorem zg:PA X [] zeH:=fun _ _ _ _ H Q I h=>Calls.spliced_nil ⟨[],H,I,.nil,h⟩
theorem za (ha:PE X e te) (hr:PA X es t) (hs:starEach (e::es) X.env=(false,eval e X.env)::starEach es X.env:=by rfl):PA X (e::es) (VU te t):=by
 intro pos pins s σ H Q I h
 rw [hs]
 show wpAny _ _ (spliced ((false,eval e X.env)::backTo pos (starEach es X.env))) _ _ s
 refine Calls.spliced_cons (thn (ha pins s σ H _ I h) ?_)
 rintro u s1 ⟨x,H1,I1,r1,q1⟩
 refine thn (hr pos pins s1 σ H1 _ I1 q1) ?_
 rintro us s2 ⟨xs,H2,I2,r2,q2⟩
 exact ⟨x::xs,H2,I2,.cons r1 r2,q2⟩

noncomputable def zmg (t:TA):TE:=fun σ H Q=>t σ H fun xs H1=>xs.length≤sizeLine∧∀p,H1 p=none→Q (.ref p) (upd H1 p (.tup xs))
noncomputable def zmh (t:TA):TE:=fun σ H Q=>t σ H fun xs H1=>xs.length≤sizeLine∧∀p,H1 p=none→Q (.ref p) (upd H1 p (.lst xs))
theorem yv {x1} (h:PA X es t):PE X (.Tuple es x1 pos) (zmg t):=by
 intro pins s σ H Q I hq
 refine wpAny_Tuple_spliced (thn (h pos pins s σ H _ I hq) fun us s1 ⟨xs,H1,I1,r,z,q⟩=>⟨by rw [←r.length];exact z,?_⟩)
 have hf:H1 s1.heap.objs.size=none:=I1.hok.fresh (Nat.le_refl _)
 refine ⟨.ref s1.heap.objs.size,upd H1 s1.heap.objs.size (.tup xs),I1.laid (t':=s1.toks) (fun b u e=>Heap.get?_push_of_some _ e) (Nat.le_refl _) ?_,rfl,q _ hf⟩
 exact ⟨z,us,r,⟨_,Heap.get?_push_size _ rfl,rfl,_,rfl,rfl⟩⟩
theorem Yy (h:PA X es t):PE X (.List es pos) (zmh t):=by
 intro pins s σ H Q I hq
 refine wpAny_List_spliced (thn (h pos pins s σ H _ I hq) fun us s1 ⟨xs,H1,I1,r,z,q⟩=>⟨by rw [←r.length];exact z,?_⟩)
 have hf:H1 s1.heap.objs.size=none:=I1.hok.fresh (Nat.le_refl _)
 refine ⟨.ref s1.heap.objs.size,upd H1 s1.heap.objs.size (.lst xs),I1.laid (t':=s1.toks) (fun b u e=>Heap.get?_push_of_some _ e) (Nat.le_refl _) ?_,rfl,q _ hf⟩
 exact ⟨z,us,0,r,Heap.get?_push_size _ rfl⟩
end

noncomputable abbrev Sp:=List V→Hp→VK→XK→Prop
noncomputable abbrev CXT:=List Env→Hp→Shared→XK→Value→Shared→Prop

structure zeI (P:Program) (w:World) (K:PySem.W.Frag) (mg:Str→Option Value) (base:Heap) (A:Around) (outer:List Env) (s:Shared) (H:Hp):Prop where
 frames:A.frames=some outer
 mod:Mod K mg base
 bs:∀b o,base.get? b=some o→s.heap.get? b=some o∧H b=none
 bsz:base.objs.size≤s.heap.objs.size
 funs:s.heap.FunFrames base outer
 frf:∀b∈frs outer,H b=none
 hok:HOk P w H s.heap
 bare:AllBare s.gens
noncomputable def CE (outer:List Env) (P:Program) (w:World) (H:Hp) (s:Shared) (Q:VK) (u:Value) (s':Shared):Prop:=
 ∃v H',s'.os=s.os∧AllBare s'.gens∧Un (frs outer) [] H H' s.heap s'.heap∧HOk P w H' s'.heap∧yA v u∧Q v H'
noncomputable def CR (CX:CXT) (outer:List Env) (P:Program) (w:World) (H:Hp) (s:Shared) (Q:VK) (E:XK) (r:Result) (s':Shared):Prop:=
 match r with
 | .ok (.ret u)=>CE outer P w H s Q u s'
 | .ok _=>False
 | .error e=>CX outer H s E e s'
structure yB (P:Program) (w:World) (K:PySem.W.Frag) (mg:Str→Option Value) (base:Heap) (CX:CXT) (k:Nat) (f:Addr) (fd:FuncData) (ps:List Str) (sp:Sp):Prop where
 len:∀vs H Q E,sp vs H Q E→vs.length=ps.length
 run:∀(A:Around) (outer:List Env) (s:Shared) (H:Hp) (args:Args) (us:List Value) (vs:List V) (Q:VK) (E:XK),vx k A→zeI P w K mg base A outer s H→BindsTo s fd args (ps.zip us)→yr vs us→sp vs H Q E→
  codeAny (model P w) A (.call (.ref f) args) (CR CX outer P w H s Q E) s
theorem yB.imp {P:Program} {w:World} {K:PySem.W.Frag} {mg:Str→Option Value} {base:Heap} {CX:CXT} {k:Nat} {f:Addr} {fd:FuncData} {ps:List Str} {sp sp':Sp} (F:yB P w K mg base CX k f fd ps sp)
  (h:∀vs H Q E,sp' vs H Q E→sp vs H Q E):yB P w K mg base CX k f fd ps sp':=
 ⟨fun vs H Q E q=>F.len vs H Q E (h _ _ _ _ q),fun A outer s H args us vs Q E hr he hb hv hs=>F.run A outer s H args us vs Q E hr he hb hv (h _ _ _ _ hs)⟩

theorem zeI.make {P:Program} {w:World} {K:PySem.W.Frag} {mg:Str→Option Value} {base:Heap} {A:Around} {outer:List Env} {s:Shared} {H:Hp} (e:zeI P w K mg base A outer s H) (C:Addr) (us:List Value) (kw:List (Str×Value)):
  zeI P w K mg base (A.under (.builtin "type.__call__" ⟨.ref C::us,kw⟩)) outer s H:=⟨by first|exact e.frames|(simpa [Around.under,Code.envs,Code.isFrame,pushEnvs] using e.frames),e.mod,e.bs,e.bsz,e.funs,e.frf,e.hok,e.bare⟩

section
variable {X:Cx} {pins:List (Addr×Obj)} {σ:St} {H:Hp} {s s':Shared}
theorem Inv.env0 (I:Inv X pins σ H s):zeI X.prog X.w X.K X.mg X.base X.A X.stack s H:=
 ⟨I.ok.frames,I.ok.mod,I.bs,Nat.le_trans I.ok.bsz I.sz,I.stack,I.stkFree,I.hok,I.bare⟩
theorem Inv.after {Q:VK} {u:Value} (I:Inv X pins σ H s) (h:CE X.stack X.prog X.w H s Q u s'):EP X pins σ Q u s':=by
 obtain ⟨v,H',os,bare,un,hok,r,q⟩:=h
 obtain ⟨hh,g,d,t,os'⟩:=s'
 obtain rfl:os'=s.os:=os
 exact ⟨v,H',I.call (h':=hh) (g':=g) (d':=d) (t':=t) (ch:=[]) un hok bare (fun b z=>absurd z (by simp)),r,q⟩
end

noncomputable def zjT (sp:Sp) (dvs:List V) (E:XK) (t:TA):TE:=fun σ H Q=>t σ H fun vs H1=>sp (vs++dvs) H1 Q E
noncomputable def zhi (C:Addr) (m:Str) (sp:Sp) (dvs:List V) (E:XK) (ta:TE) (t:TA):TE:=fun σ H Q=>ta σ H fun x H1=>∃a dx fs,x= .ref a∧H1 a=some (.ins C dx fs)∧fs.lookup m=none∧
 t σ H1 fun vs H2=>sp (x::(vs++dvs)) H2 Q E
noncomputable def zjU (C:Addr) (sp:Sp) (dvs:List V) (E:XK) (t:TA):TE:=fun σ H Q=>t σ H fun vs H1=>∀x dx,H1 x=none→H1 dx=none→dx≠x→
 sp (.ref x::(vs++dvs)) (upd (upd H1 dx (.own x)) x (.ins C dx [])) (fun v H2=>v= .non∧Q (.ref x) H2) E

noncomputable def Wk (K:PySem.W.Frag) (fd:FuncData) (ps:List Str) (ds:List Value):Prop:=
 ∀(s:Shared) (us:List Value),K.In s.heap→(us++ds).length=ps.length→BindsTo s fd ⟨us,[]⟩ (ps.zip (us++ds))
theorem Wk.all {K:PySem.W.Frag} {fd:FuncData} {ps:List Str} (h:∀us:List Value,us.length=ps.length→bindArgs fd ⟨us,[]⟩=pure (ps.zip us)):Wk K fd ps []:=fun s us _ hl=>by
 rw [List.append_nil] at hl ⊢
 exact .of_eq (h us hl)

noncomputable def Wl (CX:CXT) (X:Cx) (E:XK):Prop:=∀(pins:List (Addr×Obj)) (σ:St) (H:Hp) (s:Shared) (e:Value) (s':Shared),Inv X pins σ H s→CX X.stack H s E e s'→X.xe e s'

section
variable {X:Cx} {CX:CXT} {k:Nat} {f C:Addr} {fd:FuncData} {ps:List Str} {sp:Sp} {dvs:List V} {ds:List Value} {E:XK} {x m:Str} {p pos apos:Pos} {e o:Expr} {es:List Expr} {ta:TE} {t:TA}

theorem zeJ {pins:List (Addr×Obj)} {σ:St} {H:Hp} {s:Shared} {Q:VK} {us:List Value} {vs:List V} (F:yB X.prog X.w X.K X.mg X.base CX k f fd ps sp) (hr:vx k X.A) (hb:Wk X.K fd ps ds) (hd:yr dvs ds) (hx:Wl CX X E)
  (I:Inv X pins σ H s) (r:yr vs us) (h:sp (vs++dvs) H Q E):wpAny (model X.prog X.w) X.A (call (.ref f) us) (EP X pins σ Q) X.xe s:=by
 have r2:yr (vs++dvs) (us++ds):=r.append hd
 have hl:(us++ds).length=ps.length:=by rw [←r2.length];exact F.len _ _ _ _ h
 refine wpAny_call (codeAny_mono (F.run X.A X.stack s H ⟨us,[]⟩ (us++ds) (vs++dvs) Q E hr I.env0 (hb s us I.kIn hl) r2 h) fun r s' hq=> ?_)
 cases r with
 |error e=>exact hx pins σ H s e s' I hq
 |ok fl=>
  cases fl with
  |ret u=>exact I.after hq
  |next=>exact False.elim hq
  |brk=>exact False.elim hq
  |cont=>exact False.elim hq

theorem zq (F:yB X.prog X.w X.K X.mg X.base CX k f fd ps sp) (hr:vx k X.A) (hg:Gl X x) (hm:X.mg x=some (.ref f)) (hk:PySem.W.keepIn X.K (.ref f)=true) (hb:Wk X.K fd ps ds) (hd:yr dvs ds) (hx:Wl CX X E)
  (ha:PA X (e::es) t) (hdb:(x==("__debug__":Str))=false:=by decide) (he:starEach (e::es) X.env=(false,eval e X.env)::starEach es X.env:=by rfl) (hpl:(backTo pos (starEach es X.env)).any (·.1)=false:=by rfl):
  PE X (.Call (.Name x p) (e::es) [] pos) (zjT sp dvs E t):=by
 intro pins s σ H Q I h
 refine wpAny_Call_Name_kw (zci I hg hm ?_ hdb)
 refine PySem.W.callWith_K (h₀:=X.base) I.ok.mod.kin hk (thn (ha pos pins s σ H _ I h) ?_) he hpl
 rintro us s1 ⟨vs,H1,I1,r,q⟩
 refine ⟨I1.kIn,?_⟩
 exact zeJ F hr hb hd hx I1 r q

theorem VW {pl:Sem Bool} (he:PE X o ta) (c:Cls X.K C) (hm:ziF X.K C m f) (F:yB X.prog X.w X.K X.mg X.base CX k f fd ps sp) (hr:vx k X.A) (hb:Wk X.K fd ps ds) (hd:yr dvs ds) (hx:Wl CX X E) (ha:PA X (e::es) t)
  (hst:starEach (e::es) X.env=(false,eval e X.env)::starEach es X.env:=by rfl) (hpl:(backTo pos (starEach es X.env)).any (·.1)=false:=by rfl)
  (ht:eval (.Call (.Attribute o m apos) (e::es) [] pos) X.env=(do
   let ov ←eval o X.env
   standAt apos.atName
   let (f,first) ←holding [ov] (getMethod ov m pl)
   callWith pos f first (backTo pos (starEach (e::es) X.env)) (backToKw pos (keywordEach [] X.env))):=by rfl):
  PE X (.Call (.Attribute o m apos) (e::es) [] pos) (zhi C m sp dvs E ta t):=by
 intro pins s σ H Q I h
 refine PySem.W.methodCall_KW (pl:=pl) (thn (he pins s σ H _ I h) ?_) ht
 rintro u s1 ⟨x,H1,I1,rx,a,dx,fs,ex,ea,l,q⟩
 subst ex
 obtain rfl:u=Value.ref a:=rx
 refine zat I1 ea c hm l ?_
 refine PySem.W.callWith_K (first:=[.ref a]) (h₀:=X.base) I.ok.mod.kin hm.kp (thn (ha pos pins s1 σ H1 _ I1 q) ?_) hst hpl
 rintro us s2 ⟨vs,H2,I2,r,q2⟩
 refine ⟨I2.kIn,?_⟩
 exact zeJ (us:= .ref a::us) (vs:= .ref a::vs) F hr hb hd hx I2 (.cons rfl r) q2
theorem vV {pl:Sem Bool} (he:PE X o ta) (c:Cls X.K C) (hm:ziF X.K C m f) (F:yB X.prog X.w X.K X.mg X.base CX k f fd ps sp) (hr:vx k X.A) (hb:Wk X.K fd ps ds) (hd:yr dvs ds) (hx:Wl CX X E)
  (ht:eval (.Call (.Attribute o m apos) [] [] pos) X.env=(do
   let ov ←eval o X.env
   standAt apos.atName
   let (f,first) ←holding [ov] (getMethod ov m pl)
   callWith pos f first (backTo pos (starEach [] X.env)) (backToKw pos (keywordEach [] X.env))):=by rfl):
  PE X (.Call (.Attribute o m apos) [] [] pos) (zhi C m sp dvs E ta zeH):=by
 intro pins s σ H Q I h
 refine PySem.W.methodCall_KW (pl:=pl) (thn (he pins s σ H _ I h) ?_) ht
 rintro u s1 ⟨x,H1,I1,rx,a,dx,fs,ex,ea,l,q⟩
 subst ex
 obtain rfl:u=Value.ref a:=rx
 refine zat I1 ea c hm l ?_
 exact PySem.W.callWith_K0 (first:=[.ref a]) I1.kIn hm.kp (zeJ (us:=[.ref a]) (vs:=[.ref a]) F hr hb hd hx I1 (.cons rfl .nil) q)

structure Mk (K:PySem.W.Frag) (C f:Addr):Prop where
 makes:PySem.W.makesIn K C=true
 init:PySem.W.findIn K (.ref C) "__init__"=some (some (.ref f))
 fn:PySem.W.isFn K (.ref f)=true
 kp:PySem.W.keepIn K (.ref C)=true

theorem zhj {pins:List (Addr×Obj)} {σ:St} {H:Hp} {s:Shared} {Q:VK} {us:List Value} {vs:List V} (M:Mk X.K C f) (F:yB X.prog X.w X.K X.mg X.base CX k f fd ps sp) (hr:vx (k+1) X.A) (hb:Wk X.K fd ps ds) (hd:yr dvs ds)
  (hx:Wl CX X E) (I:Inv X pins σ H s) (r:yr vs us)
  (h:∀x dx,H x=none→H dx=none→dx≠x→sp (.ref x::(vs++dvs)) (upd (upd H dx (.own x)) x (.ins C dx [])) (fun v H2=>v= .non∧Q (.ref x) H2) E):
  wpAny (model X.prog X.w) X.A (call (.ref C) us) (EP X pins σ Q) X.xe s:=by
 have hq:=h (s.heap.objs.size+1) s.heap.objs.size (I.hok.fresh (Nat.le_succ _)) (I.hok.fresh (Nat.le_refl _)) (Nat.ne_of_lt (Nat.lt_succ_self _))
 have I2:=Inv.made (C:=C) I
 have r2:yr (V.ref (s.heap.objs.size+1)::(vs++dvs)) (Value.ref (s.heap.objs.size+1)::(us++ds)):= .cons rfl (r.append hd)
 have hl:(Value.ref (s.heap.objs.size+1)::us++ds).length=ps.length:=by
  have e:=r2.length
  rw [F.len _ _ _ _ hq] at e
  exact e.symm
 refine wpAny_call (zhh (f:=f) I.kIn M.makes M.init (beq_iff_eq.mp M.fn) (codeAny_mono (F.run _ X.stack _ _ ⟨Value.ref (s.heap.objs.size+1)::us,[]⟩ (Value.ref (s.heap.objs.size+1)::(us++ds)) _ _ E (hr.make C us [])
  (I2.env0.make C us []) (hb _ (Value.ref (s.heap.objs.size+1)::us) I2.kIn hl) r2 hq) fun r s' hq'=> ?_))
 cases r with
 |error e=>exact hx pins σ _ _ e s' I2 hq'
 |ok fl=>
  cases fl with
  |ret u=>
   obtain ⟨v,H',I3,rv,ev,q3⟩:=I2.after hq'
   subst ev
   exact ⟨rv,⟨V.ref (s.heap.objs.size+1),H',I3,rfl,q3⟩⟩
  |next=>exact False.elim hq'
  |brk=>exact False.elim hq'
  |cont=>exact False.elim hq'
theorem ziH (M:Mk X.K C f) (F:yB X.prog X.w X.K X.mg X.base CX k f fd ps sp) (hr:vx (k+1) X.A) (hg:Gl X x) (hm:X.mg x=some (.ref C)) (hb:Wk X.K fd ps ds) (hd:yr dvs ds) (hx:Wl CX X E)
  (ha:PA X (e::es) t) (hdb:(x==("__debug__":Str))=false:=by decide) (he:starEach (e::es) X.env=(false,eval e X.env)::starEach es X.env:=by rfl) (hpl:(backTo pos (starEach es X.env)).any (·.1)=false:=by rfl):
  PE X (.Call (.Name x p) (e::es) [] pos) (zjU C sp dvs E t):=by
 intro pins s σ H Q I h
 refine wpAny_Call_Name_kw (zci I hg hm ?_ hdb)
 refine PySem.W.callWith_K (h₀:=X.base) I.ok.mod.kin M.kp (thn (ha pos pins s σ H _ I h) ?_) he hpl
 rintro us s1 ⟨vs,H1,I1,r,q⟩
 refine ⟨I1.kIn,?_⟩
 exact zhj M F hr hb hd hx I1 r q
end

section
variable {X:Cx} {CX:CXT} {k:Nat} {f C:Addr} {fd:FuncData} {ps ks:List Str} {sp:Sp} {E:XK} {x m:Str} {p pos apos kpos:Pos} {e o:Expr} {es:List Expr} {kws:List Keyword} {te ta:TE} {t tk:TA} {nm:Option Str}

structure znd (K:PySem.W.Frag) (fd:FuncData) (ps ks:List Str) (g:List Value→List Value→List Value) (gV:List V→List V→List V):Prop where
 to:∀(s:Shared) (us ws:List Value),K.In s.heap→(g us ws).length=ps.length→BindsTo s fd ⟨us,ks.zip ws⟩ (ps.zip (g us ws))
 rel:∀{vs:List V} {us:List Value} {zs:List V} {ws:List Value},yr vs us→yr zs ws→yr (gV vs zs) (g us ws)
variable {g:List Value→List Value→List Value} {gV:List V→List V→List V}
end

structure zM (N P:List Str) (sc:Scope):Prop where
 kind:sc.kind= .function
 co:sc.isCoroutine=false
 gen:sc.isGenerator=false
 nd:N.Nodup
 pre:N.take P.length=P
 par:∀x∈P,sc.names.lookup x=some .local∨sc.names.lookup x=some .cell
 nofree:∀y∈sc.names,y.2≠ .free

theorem zbR {kindOf:Str→Option NameKind} {x:Str}:∀{binds:List (Str×Value)} {m:Str→Option Value},(∀v,(x,v)∉binds)→bindL kindOf binds m x=m x
 |[],_,_=>rfl
 |(n,v)::r,m,h=>by
  unfold bindL
  rw [zbR fun w hw=>h w (List.mem_cons_of_mem _ hw)]
  split
  ·have:x≠n:=by rintro rfl;exact h v List.mem_cons_self
   simp [this]
  ·rfl
theorem zbS {kindOf:Str→Option NameKind} {x:Str}:∀{binds:List (Str×Value)} {m:Str→Option Value},(∀v,(x,v)∉binds)→bindC kindOf binds m x=m x
 |[],_,_=>rfl
 |(n,v)::r,m,h=>by
  unfold bindC
  rw [zbS fun w hw=>h w (List.mem_cons_of_mem _ hw)]
  split
  ·rfl
  ·have:x≠n:=by rintro rfl;exact h v List.mem_cons_self
   simp [this]
theorem zbT {kindOf:Str→Option NameKind} {x:Str} {v:Value}:∀{P:List Str} {vs:List Value} {i:Nat} {m:Str→Option Value},P.Nodup→P[i]? =some x→vs[i]? =some v→kindOf x=some .local→
  bindL kindOf (P.zip vs) m x=some v
 |[],_,_,_,_,h,_,_=>by simp at h
 |_::_,[],_,_,_,_,h,_=>by simp at h
 |p::P,w::vs,0,m,nd,h1,h2,hk=>by
  simp at h1 h2;subst h1;subst h2
  show bindL kindOf ((p,w)::P.zip vs) m p=_
  unfold bindL
  rw [zbR fun v hv=>(List.nodup_cons.mp nd).1 (List.of_mem_zip hv).1,if_pos hk]
  simp
 |p::P,w::vs,i+1,m,nd,h1,h2,hk=>by
  show bindL kindOf ((p,w)::P.zip vs) m x=_
  unfold bindL
  exact zbT (i:=i) (List.nodup_cons.mp nd).2 (by simpa using h1) (by simpa using h2) hk
theorem zbU {kindOf:Str→Option NameKind} {x:Str} {v:Value}:∀{P:List Str} {vs:List Value} {i:Nat} {m:Str→Option Value},P.Nodup→P[i]? =some x→vs[i]? =some v→kindOf x≠some .local→
  bindC kindOf (P.zip vs) m x=some v
 |[],_,_,_,_,h,_,_=>by simp at h
 |_::_,[],_,_,_,_,h,_=>by simp at h
 |p::P,w::vs,0,m,nd,h1,h2,hk=>by
  simp at h1 h2;subst h1;subst h2
  show bindC kindOf ((p,w)::P.zip vs) m p=_
  unfold bindC
  rw [zbS fun v hv=>(List.nodup_cons.mp nd).1 (List.of_mem_zip hv).1,if_neg hk]
  simp
 |p::P,w::vs,i+1,m,nd,h1,h2,hk=>by
  show bindC kindOf ((p,w)::P.zip vs) m x=_
  unfold bindC
  exact zbU (i:=i) (List.nodup_cons.mp nd).2 (by simpa using h1) (by simpa using h2) hk

noncomputable def Wm (N:List Str) (vs:List V):St:=vs.map some++List.replicate (N.length-vs.length) none

noncomputable def zdn (CX:CXT) (P:Program) (w:World) (K:PySem.W.Frag) (mg:Str→Option Value) (base:Heap) (N:List Str) (qual:Str) (scope:Scope) (f:Addr) (cd:Value) (A:Around) (outer:List Env) (s:Shared) (H:Hp) (E:XK):Cx where
 prog:=P
 w:=w
 K:=K
 mg:=mg
 base:=base
 A:=A.deeper (envOfC qual scope s.heap.objs.size f cd)
 N:=N
 s₀:=s
 H₀:=H
 env:=envOfC qual scope s.heap.objs.size f cd
 outer:=outer
 stack:=envOfC qual scope s.heap.objs.size f cd::outer
 ex:=[]
 calm:=true
 fn:=fun _=>true
 pn:=[]
 xe:=fun e s'=>wpAny (model P w) (A.deeper (envOfC qual scope s.heap.objs.size f cd)) (leaving (envOfC qual scope s.heap.objs.size f cd) e) (fun _ s''=>CX outer H s E e s'') (fun e' s''=>CX outer H s E e' s'') s'

theorem zdo {sc:Scope} {n:Nat} {x:Str} (h:sc.names.lookup x=some .cell):∃c,(cellsFrom n sc.names []).lookup x=some c:=by
 have q:=PySem.W.cellsFrom_some sc.names n [] (.inl h)
 exact Option.isSome_iff_exists.mp q

theorem zgp {CX:CXT} {P:Program} {w:World} {K:PySem.W.Frag} {mg:Str→Option Value} {base:Heap} {N ps:List Str} {qual:Str} {scope:Scope} {f:Addr} {cd:Value} {A:Around} {outer:List Env} {s s1:Shared} {H:Hp} {E:XK} {us:List Value} {vs:List V}
  (S:zM N ps scope) (hd:A.handled=none) (e0:zeI P w K mg base A outer s H) (hl:vs.length=ps.length) (r:yr vs us)
  (x:InCallC s s.heap.objs.size (bindL (envOfC qual scope s.heap.objs.size f cd).kindOf (ps.zip us) fun _=>none) (cellsFrom (s.heap.objs.size+1) scope.names []) (bindC (envOfC qual scope s.heap.objs.size f cd).kindOf (ps.zip us) fun _=>none) s1):
  Inv (zdn CX P w K mg base N qual scope f cd A outer s H E) [] (Wm N vs) H s1:=by
 have hpl:ps.length≤N.length:=by have:=congrArg List.length S.pre;rw [List.length_take] at this;omega
 obtain ⟨h1,tk,rfl,hk⟩:=x.done
 have noA:∀b:Addr,b∉(zdn CX P w K mg base N qual scope f cd A outer s H E).ex:=fun b z=>absurd (show b∈([]:List Addr) from z) (by simp)
 refine ⟨⟨e0.mod,S.kind,rfl,rfl,Nat.le_refl _,fun y z c h1 h2=> ?_,fun y hy=> ?_,fun y c _ h=> ?_,fun _=>hd,Around.frames_deeper e0.frames,.inr ⟨rfl,rfl⟩,fun b z=>absurd z (noA b),e0.bs,e0.bsz,fun b _ _=>noA b,fun b z=>absurd z (noA b),e0.funs,e0.frf⟩,
  rfl,e0.bare,Un.kept hk,⟨_,x.toInCall.ns,fun i y v h1 h2 h3=> ?_⟩,fun y c h=>⟨_,x.cell y c h⟩,e0.hok.fresh (Nat.le_refl _),fun y c h=> ?_,fun p hp=>absurd (show p∈([]:List (Addr×Obj)) from hp) (by simp),e0.hok.kept hk,?_⟩
 ·exact name_of_addr x.apart (PySem.mem_of_lookup h1) (PySem.mem_of_lookup h2)
 ·have hy:scope.names.lookup y=some .cell∨scope.names.lookup y=some .free:=hy
  rcases hy with hy|hy
  ·exact zdo hy
  ·exact absurd rfl (S.nofree _ (PySem.mem_of_lookup hy))
 ·exact Nat.le_of_lt (x.above y c (PySem.mem_of_lookup h))
 ·have hi:i<vs.length:=by
   unfold Wm at h2
   by_cases hi:i<vs.length
   ·exact hi
   ·rw [List.getElem?_append_right (by simpa using hi)] at h2
    rw [List.getElem?_replicate] at h2
    split at h2<;>cases h2
  have ha:vs[i]? =some v:=by
   unfold Wm at h2
   rw [List.getElem?_append_left (by simpa using hi),List.getElem?_map] at h2
   cases e:vs[i]? with
   |none=>rw [e] at h2;cases h2
   |some a=>rw [e] at h2;cases h2;rfl
  obtain ⟨u,hu,rv⟩:=r.get ha
  have hp:ps[i]? =some y:=by
   rw [←S.pre,List.getElem?_take_of_lt (by omega)];exact h1
  have ndP:ps.Nodup:=by rw [←S.pre];exact S.nd.sublist (List.take_sublist _ _)
  refine ⟨u,rv,?_⟩
  rcases S.par y (List.mem_of_getElem? hp) with k|k
  ·exact .inl ⟨k,zbT ndP hp hu k⟩
  ·obtain ⟨c,e⟩:=zdo (n:=s.heap.objs.size+1) k
   refine .inr ⟨.inl k,c,e,?_⟩
   have q:=x.cell y c e
   rw [zbU ndP hp hu (by show scope.names.lookup y≠_;rw [k];decide)] at q
   exact q
 ·exact e0.hok.fresh (Nat.le_of_lt (x.above y c (PySem.mem_of_lookup h)))
 ·unfold Wm
  show _=N.length
  rw [List.length_append,List.length_map,List.length_replicate]
  omega

theorem zmi {CX:CXT} {P:Program} {w:World} {K:PySem.W.Frag} {mg:Str→Option Value} {base:Heap} {k:Nat} {f:Addr} {name qual:Str} {params:Arguments} {body:List Stmt} {scope:Scope} {dV kV doc pm cdv ct oc:Value} {an od:Option Addr}
  {osl:Array (Option Value)} {N ps:List Str} {sp:Sp} (lk:K.lookup f=some ⟨oc,od,.func (PySem.W.fnOf name qual params body scope dV kV doc pm an cdv ct),osl⟩) (hcd:PySem.W.codeIn K cdv qual=true) (S:zM N ps scope)
  (len:∀vs H Q E,sp vs H Q E→vs.length=ps.length)
  (hbody:∀(A:Around) (outer:List Env) (s:Shared) (H:Hp) (vs:List V) (Q:VK) (E:XK),vx k (A.deeper (envOfC qual scope s.heap.objs.size f cdv))→sp vs H Q E→
   ∃t,PSs (zdn CX P w K mg base N qual scope f cdv A outer s H E) body t∧t {nx:=fun _ H'=>Q .non H',rt:=Q} (Wm N vs) H):
  yB P w K mg base CX (k+1) f (PySem.W.fnOf name qual params body scope dV kV doc pm an cdv ct) ps sp:=by
 refine ⟨len,fun A outer s H args us vs Q E hr e0 hb r hsp=> ?_⟩
 have hl:=len _ _ _ _ hsp
 have KX:K.In s.heap:=e0.mod.kin.keeps fun b o e=>(e0.bs b o e).1
 have lim:s.heap.NoLimit:=e0.mod.nolimit.keeps fun b o e=>(e0.bs b o e).1
 have hkind:∀y∈ps.zip us,scope.names.lookup y.1=some .local∨(scope.names.lookup y.1=some .cell∧((cellsFrom (s.heap.objs.size+1) scope.names []).lookup y.1).isSome=true):=fun ⟨n,v⟩ hy=>by
  rcases S.par n (List.of_mem_zip hy).1 with q|q
  ·exact .inl q
  ·exact .inr ⟨q,PySem.W.cellsFrom_some _ _ _ (.inl q)⟩
 refine codeAny_call_function hr.depth (KX _ _ lk) rfl S.co S.gen rfl (PySem.W.codeRec_of KX hcd) (hb _ _ _ _ ?_)
 refine wpAny_newFunctionEnv_cells S.kind hkind fun env he s1 x=> ?_
 subst he
 refine ⟨lim.keeps x.toInCall.keep,codeAny_func ?_⟩
 obtain ⟨t,ht,hq⟩:=hbody A outer s H vs Q E (hr.deeper _) hsp
 have I:Inv (zdn CX P w K mg base N qual scope f cdv A outer s H E) [] (Wm N vs) H s1:=zgp S hr.hd e0 hl r x
 refine wpAny_mono (ht [] s1 (Wm N vs) H _ I hq) (fun fl s' hs=> ?_) fun e s' hs=>hs
 have fin:∀{σ':St} {H':Hp} {v:V} {u:Value},Inv (zdn CX P w K mg base N qual scope f cdv A outer s H E) [] σ' H' s'→yA v u→Q v H'→CE outer P w H s Q u s':=
  fun {σ' H' v u} J rv q=>⟨v,H',J.os,J.bare,J.base,J.hok,rv,q⟩
 cases fl with
 |ret u=>
  obtain ⟨v,σ',H',J,rv,q⟩:=hs
  exact fin J rv q
 |next=>
  obtain ⟨σ',H',J,q⟩:=hs
  exact fin (v:=V.non) (u:=Value.none) J rfl q
 |brk=>
  obtain ⟨_,_,_,q⟩:=hs
  exact False.elim q
 |cont=>
  obtain ⟨_,_,_,q⟩:=hs
  exact False.elim q
end L2

namespace L2
open PySem PySem.Spec PyProof.Rows
section
variable {X:Cx} {x:Str} {p pos:Pos} {e:Expr} {es:List Expr} {t:TA} {id T:String} {r:List V→Hp→VK→Prop}

noncomputable def tCB (r:List V→Hp→VK→Prop) (t:TA):TE:=fun σ H Q=>t σ H fun vs H1=>r vs H1 Q
theorem zK (hc:vq X (.builtin id) r) (hg:Gl X x) (hm:X.mg x=none) (hv:bootBuiltins x=some (.builtin id)) (ha:PA X (e::es) t) (hn:x≠"__name__":=by decide) (hdb:(x==("__debug__":Str))=false:=by decide)
  (he:starEach (e::es) X.env=(false,eval e X.env)::starEach es X.env:=by rfl) (hpl:(backTo pos (starEach es X.env)).any (·.1)=false:=by rfl):PE X (.Call (.Name x p) (e::es) [] pos) (tCB r t):=by
 intro pins s σ H Q I h
 refine wpAny_Call_Name_kw (Xm I hg hm hv ?_ hn hdb)
 refine PyProof.Rows.callWith_builtin1 (thn (ha pos pins s σ H _ I h) ?_) he hpl
 rintro us s1 ⟨vs,H1,I1,r1,q1⟩
 exact hc pins s1 σ H1 vs us Q I1 r1 q1
theorem yU (hc:vq X (.type T) r) (hg:Gl X x) (hm:X.mg x=none) (hv:bootBuiltins x=some (.type T)) (ha:PA X (e::es) t) (hn:x≠"__name__":=by decide) (hdb:(x==("__debug__":Str))=false:=by decide)
  (he:starEach (e::es) X.env=(false,eval e X.env)::starEach es X.env:=by rfl) (hpl:(backTo pos (starEach es X.env)).any (·.1)=false:=by rfl):PE X (.Call (.Name x p) (e::es) [] pos) (tCB r t):=by
 intro pins s σ H Q I h
 refine wpAny_Call_Name_kw (Xm I hg hm hv ?_ hn hdb)
 refine PyProof.Rows.callWith_type1 (thn (ha pos pins s σ H _ I h) ?_) he hpl
 rintro us s1 ⟨vs,H1,I1,r1,q1⟩
 exact hc pins s1 σ H1 vs us Q I1 r1 q1
end
end L2
namespace HT
open PySem PyProof.Rows



section
open PySem.SeqAt
open PySem.AutoSeq1 (wpAny_loadPart')
open PySem.MeetsSeq PySem.MeetsSeq2 PySem.MeetsSeq3

end

section
variable {prog:Program} {w:World} {A:Around} {E:Value→Shared→Prop} {s:Shared}


theorem ziI {t b:Addr} {vs ws:List Value} {Q:Value→Shared→Prop} (ht:IsTup s.heap t vs.toArray) (hb:IsTup s.heap b ws.toArray) (hv:vs≠[])
  (h1:ws=[]→Q (.ref t) s) (h2:ws≠[]→Q (.ref s.heap.objs.size) {s with heap:=s.heap.push {cls:= .type "tuple",data:= .seq (vs++ws).toArray}})
  (hsz:vs.length+ws.length≤sizeLine):wpAny (model prog w) A (binaryOp .Add (.ref t) (.ref b)) Q E s:=by
 obtain ⟨⟨cls,dd,data,sl⟩,ho,hc,n,hd⟩:=id ht
 obtain ⟨⟨cls2,dd2,data2,sl2⟩,ho2,hc2,n2,hd2⟩:=id hb
 simp only at hc hd hc2 hd2
 subst hc hd hc2 hd2
 have e:vs.toArray++ws.toArray=(vs++ws).toArray:=by simp
 by_cases hw:ws=[]
 ·exact concat_meets ⟨_,ho,rfl⟩ ⟨_,ho2,rfl⟩ noFill_tuple_add seq_tuple_add PySem.F.slot_tuple_add PySem.F.entry_tuple_add (PySem.F.args_tuple_add_2 _ _)
   (tuple_addW1 t b vs.toArray ws.toArray n n2 dd dd2 sl sl2 (by simpa using hv) (by simp [hw])) ⟨ho,ho2,h1 hw⟩
 ·refine concat_meets ⟨_,ho,rfl⟩ ⟨_,ho2,rfl⟩ noFill_tuple_add seq_tuple_add PySem.F.slot_tuple_add PySem.F.entry_tuple_add (PySem.F.args_tuple_add_2 _ _)
   (tuple_addW2 t b vs.toArray ws.toArray n n2 dd dd2 sl sl2 (by simpa using hv) (by simpa using hw) (by rw [List.size_toArray,List.size_toArray];exact hsz)) ⟨ho,ho2,?_⟩
  rw [e]
  exact h2 hw

noncomputable def sIx (n d:Nat):Option Int→Nat
 |none=>d
 |some v=>if v<0 then (v+(n:Int)).toNat else min v.toNat n
theorem zhk (n d:Nat):sIx n d none=d:=rfl
theorem ziJ (n d k:Nat):sIx n d (some (k:Int))=min k n:=by
 show (if (k:Int)<0 then ((k:Int)+(n:Int)).toNat else min (k:Int).toNat n)=min k n
 rw [if_neg (by omega),Int.toNat_natCast]
theorem VB {v:Value} {o:Option Int} {Q:Option Int→Shared→Prop} (p:IsPart v o) (h:Q o s):wpAny (model prog w) A (Builtin.Slice.slicePartIndex v) Q E s:=by
 cases p with
 |none=>exact slicePart_none h
 |int i t=>exact slicePart_int h

end
end HT

namespace L2
open PySem PySem.Spec PyProof.Rows

noncomputable abbrev TO:=St→Hp→(Option Int→Hp→Prop)→Prop
noncomputable def PO (X:Cx) (e:Option Expr) (t:TO):Prop:=
 ∀(pins:List (Addr×Obj)) (s:Shared) (σ:St) (H:Hp) (Q:Option Int→Hp→Prop),Inv X pins σ H s→t σ H Q→
  wpAny (model X.prog X.w) X.A (evalPart e X.env) (fun u s'=>∃o H',Inv X pins σ H' s'∧IsPart u o∧Q o H') X.xe s
noncomputable def zfB:TO:=fun _ H Q=>Q none H
noncomputable def zjV (t:TE):TO:=fun σ H Q=>t σ H fun x H1=>∃i,x= .int i∧Q (some i) H1


section
variable {X:Cx} {e:Expr} {te:TE} {lo hi:Option Expr} {tl th:TO} {pos p2:Pos}

theorem Xp:PO X none zfB:=by
 intro pins s σ H Q I h
 rw [evalPart_none]
 exact wpAny_pure ⟨none,H,I,.none,h⟩
theorem Xq (h:PE X e te):PO X (some e) (zjV te):=by
 intro pins s σ H Q I hw
 rw [evalPart_some]
 refine thn (h pins s σ H _ I hw) ?_
 rintro u s1 ⟨x,H1,I1,r1,q1⟩
 obtain ⟨i,rfl,q⟩:=q1
 obtain ⟨t,rfl⟩:=r1
 exact ⟨some i,H1,I1,.int i t,q⟩

noncomputable def SlR (X:Cx) (r:V→Option Int→Option Int→Hp→VK→Prop):Prop:=
 ∀(pins:List (Addr×Obj)) (s:Shared) (σ:St) (H:Hp) (x:V) (v vl vu:Value) (lo hi:Option Int) (sl:Addr) (Q:VK),Inv X pins σ H s→yA x v→s.heap.IsSliceOf sl vl vu .none→IsPart vl lo→IsPart vu hi→r x lo hi H Q→
  ∃T id,typeLookup (.type T) "__getitem__"=pure (some (.builtin id))∧s.TypeIs v T∧wpAny (model X.prog X.w) X.A (getItem v (.ref sl)) (EP X pins σ Q) X.xe s
noncomputable def tSl (r:V→Option Int→Option Int→Hp→VK→Prop) (te:TE) (tl th:TO):TE:=fun σ H Q=>te σ H fun x H1=>tl σ H1 fun l H2=>th σ H2 fun u H3=>r x l u H3 Q
theorem ZJ {r:V→Option Int→Option Int→Hp→VK→Prop} (hr:SlR X r) (he:PE X e te) (hl:PO X lo tl) (hu:PO X hi th):PE X (.Subscript e (.Slice lo hi none p2) pos) (tSl r te tl th):=by
 intro pins s σ H Q I h
 refine Subscript_ (thn (he pins s σ H _ I h) ?_)
 rintro v s1 ⟨x,H1,I1,r1,q1⟩
 refine wpAny_Slice (thn (hl pins s1 σ H1 _ I1 q1) ?_)
 rintro vl s2 ⟨l,H2,I2,pl,q2⟩
 refine thn (hu pins s2 σ H2 _ I2 q2) ?_
 rintro vu s3 ⟨u,H3,I3,pu,q3⟩
 rw [evalPart_none]
 refine wpAny_pure ?_
 have I4:Inv X pins σ H3 {s3 with heap:=s3.heap.push {cls:= .type "slice",data:= .fields #[vl,vu,.none]}}:=I3.kept (t':=s3.toks) fun b ob q=>Heap.get?_push_of_some _ q
 obtain ⟨T,id,hT,ht,hg⟩:=hr pins {s3 with heap:=s3.heap.push {cls:= .type "slice",data:= .fields #[vl,vu,.none]}} σ H3 x v vl vu l u s3.heap.objs.size Q I4 r1 (Heap.IsSliceOf.new ..) pl pu q3
 show wpAny (model X.prog X.w) X.A (subscriptTail e (.Slice lo hi none p2) v (.ref s3.heap.objs.size)) (EP X pins σ Q) X.xe {s3 with heap:=s3.heap.push {cls:= .type "slice",data:= .fields #[vl,vu,.none]}}
 exact tail_any (ops:=[.ref s3.heap.objs.size,v]) ht hT hg (by with_unfolding_all rfl)

noncomputable def zgq (xs:List V) (lo hi:Option Int):List V:=(xs.drop (HT.sIx xs.length 0 lo)).take (HT.sIx xs.length xs.length hi-HT.sIx xs.length 0 lo)
theorem zdp (xs:List V) (lo hi:Option Int):(zgq xs lo hi).length≤xs.length:=by
 unfold zgq
 rw [List.length_take,List.length_drop]
 omega

noncomputable def zmj (K:PySem.W.Frag):R2:=fun x y H Q=>∃a b xs ys,x= .ref a∧y= .ref b∧SqT K H a xs∧SqT K H b ys∧xs≠[]∧xs.length+ys.length≤sizeLine∧
 (ys=[]→Q (.ref a) H)∧(ys≠[]→∀p,H p=none→Q (.ref p) (upd H p (.tup (xs++ys))))
theorem yr.nil_iff {xs:List V} {us:List Value} (r:yr xs us):us=[]↔xs=[]:=by
 cases r with
 |nil=>simp
 |cons _ _=>simp
theorem ziK:OpR X (binaryOp .Add) (zmj X.K):=by
 intro pins s σ H x y v u Q I rx ry h
 obtain ⟨a,b,xs,ys,rfl,rfl,ha,hb,hx,hz,q1,q2⟩:=h
 cases rx
 cases ry
 obtain ⟨its,r1,p1,_⟩:=I.tuple ha
 obtain ⟨its2,r2,p2,_⟩:=I.tuple hb
 refine HT.ziI p1 p2 (fun z=>hx (r1.nil_iff.mp z)) (fun z=>⟨.ref a,H,I,rfl,q1 (r2.nil_iff.mp z)⟩) (fun z=> ?_) (by rw [←r1.length,←r2.length];exact hz)
 refine ⟨.ref s.heap.objs.size,_,I.laid (t':=s.toks) (o:= .tup (xs++ys)) (fun b ob q=>Heap.get?_push_of_some _ q) (Nat.le_refl _) ?_,rfl,q2 (fun w=>z (r2.nil_iff.mpr w)) _ (I.hok.fresh (Nat.le_refl _))⟩
 exact ⟨by rw [List.length_append];exact hz,_,r1.append r2,Xl.new _ _⟩
end
end L2

namespace L2
open PySem PySem.Spec PyProof.Rows

noncomputable def ixN (n:Nat) (i:Int):Option Nat:=if 0≤i then (if i<n then some i.toNat else none) else if -(n:Int)≤i then some (i+n).toNat else none
noncomputable def atI {α:Type} (xs:List α) (i:Int):Option α:=(ixN xs.length i).bind fun j=>xs[j]?
theorem zfC {n:Nat} {i:Int} {j:Nat} (h:ixN n i=some j):seqIndex? i n=some j∧j<n∧ -(n:Int)≤i∧i<n:=by
 unfold ixN at h
 by_cases h0:0≤i
 ·rw [if_pos h0] at h
  by_cases h1:i<n
  ·rw [if_pos h1] at h
   have e:i.toNat=j:=Option.some.inj h
   exact ⟨by rw [seqIndex_of h0 h1,e],by omega,by omega,h1⟩
  ·rw [if_neg h1] at h;cases h
 ·rw [if_neg h0] at h
  by_cases h1: -(n:Int)≤i
  ·rw [if_pos h1] at h
   have e:(i+n).toNat=j:=Option.some.inj h
   exact ⟨by rw [seqIndex_neg (by omega) h1,e],by omega,h1,by omega⟩
  ·rw [if_neg h1] at h;cases h
theorem zcl {α:Type} {xs:List α} {i:Int} {v:α} (h:atI xs i=some v):∃j,seqIndex? i xs.length=some j∧xs[j]? =some v∧j<xs.length∧ -(xs.length:Int)≤i∧i<xs.length:=by
 unfold atI at h
 cases e:ixN xs.length i with
 |none=>rw [e] at h;cases h
 |some j=>
  rw [e] at h
  obtain ⟨h1,h2,h3,h4⟩:=zfC e
  exact ⟨j,h1,h,h2,h3,h4⟩

noncomputable def ziL (b:Expr):Prop:=∀o i,subscripted b false o i=operate [o,i] (getItem o i)
noncomputable def IxR (X:Cx) (r:R2):Prop:=
 ∀(value slice:Expr) (pins:List (Addr×Obj)) (s:Shared) (σ:St) (H:Hp) (x y:V) (v u:Value) (Q:VK),Inv X pins σ H s→yA x v→yA y u→r x y H Q→
  subscripted slice false v u=operate [v,u] (getItem v u)→wpAny (model X.prog X.w) X.A (subscriptTail value slice v u) (EP X pins σ Q) X.xe s
noncomputable def MtR (X:Cx) (id:String) (r:V→List V→Hp→VK→Prop):Prop:=
 ∀(pins:List (Addr×Obj)) (s:Shared) (σ:St) (H:Hp) (x:V) (xs:List V) (v:Value) (us:List Value) (Q:VK),Inv X pins σ H s→yA x v→yr xs us→r x xs H Q→
  wpAny (model X.prog X.w) X.A (call (.builtin id) (v::us)) (EP X pins σ Q) X.xe s
section
variable {X:Cx} {a b:Expr} {ta tb:TE} {pos:Pos}
theorem zZ {r:R2} (hr:IxR X r) (ha:PE X a ta) (hb:PE X b tb) (hs:ziL b):PE X (.Subscript a b pos) (tOp r ta tb):=by
 intro pins s σ H Q I h
 exact Subscript_ (zkC ha hb I h fun v u s2 x y H2 I2 rx ry q=>hr a b pins s2 σ H2 x y v u Q I2 rx ry q (hs _ _))

noncomputable def zkH (K:PySem.W.Frag):R2:=fun x y H Q=>∃p xs i v,x= .ref p∧y= .int i∧SqL K H p xs∧atI xs i=some v∧Q v H
noncomputable def zkI (K:PySem.W.Frag):R2:=fun x y H Q=>∃p xs i v,x= .ref p∧y= .int i∧SqT K H p xs∧atI xs i=some v∧Q v H
noncomputable def zmk:R2:=fun x y H Q=>∃z i c,x= .str z∧y= .int i∧z.length≤sizeLine∧atI z.cps.toList i=some c∧Q (.str ⟨#[c]⟩) H
theorem ziM:IxR X (zkH X.K):=by
 intro value slice pins s σ H x y v u Q I rx ry h hs
 obtain ⟨p,xs,i,z,rfl,rfl,hq,he,q⟩:=h
 cases rx
 obtain ⟨t,rfl⟩:=ry
 obtain ⟨its,r,pl,hz⟩:=I.list hq
 obtain ⟨j,h1,h2,h3,h4,h5⟩:=zcl he
 obtain ⟨w,ew,rw'⟩:=r.get h2
 have hl:=r.length
 have hn:=UR
 have fin:EP X pins σ Q w s:=⟨z,H,I,rw',q⟩
 by_cases h0:0≤i
 ·have hj:i.toNat=j:=by
   rw [seqIndex_of h0 h5] at h1
   exact Option.some.inj h1
  exact item_listR pl.isList h0 (by omega) (by rw [hj];simpa using ew) fin hs
 ·have hj:(i+(its.toArray.size:Int)).toNat=j:=by
   rw [seqIndex_neg (by omega) h4] at h1
   rw [List.size_toArray,←hl]
   exact Option.some.inj h1
  exact subscriptTail_builtinR (x:=w) pl.isList.typeIs slot_list_getitem.lookup
   (wpAny_getItem_list_neg (Q:=fun r s'=>r=w∧EP X pins σ Q r s') pl.isList (by omega) (by rw [List.size_toArray]<;>omega) (by omega) (by rw [hj];simpa using ew) ⟨rfl,fin⟩) hs
theorem zkJ:IxR X (zkI X.K):=by
 intro value slice pins s σ H x y v u Q I rx ry h hs
 obtain ⟨p,xs,i,z,rfl,rfl,hq,he,q⟩:=h
 cases rx
 obtain ⟨t,rfl⟩:=ry
 obtain ⟨its,r,pl,hz⟩:=I.tuple hq
 obtain ⟨j,h1,h2,h3,h4,h5⟩:=zcl he
 obtain ⟨w,ew,rw'⟩:=r.get h2
 have hl:=r.length
 have hn:=UR
 have fin:EP X pins σ Q w s:=⟨z,H,I,rw',q⟩
 exact subscriptTail_builtinR (x:=w) pl.typeIs slot_tuple_getitem.lookup
  (getItem_tuple (j:=j) (Q:=fun r s'=>r=w∧EP X pins σ Q r s') pl (by omega) (by omega) (by rw [List.size_toArray,←hl];exact h1) (by simpa using ew) ⟨rfl,fin⟩) hs
theorem zcm:IxR X zmk:=by
 intro value slice pins s σ H x y v u Q I rx ry h hs
 obtain ⟨z,i,c,rfl,rfl,hz,he,q⟩:=h
 obtain ⟨t,rfl⟩:=rx
 obtain ⟨t',rfl⟩:=ry
 obtain ⟨j,h1,h2,h3,h4,h5⟩:=zcl he
 have hl:z.cps.toList.length=z.length:=by simp [Str.length]
 rw [hl] at h1 h4 h5
 have hn:=UR
 exact tail_any (typeIs_str s z t) slot_str_getitem.lookup (getItem_str (c:=c) (by
  have e1:decide (i< -(2^63:Int))=false:=decide_eq_false (by omega)
  have e2:decide (i≥2^63)=false:=decide_eq_false (by omega)
  rw [e1,e2,Bool.or_false]) (by rw [h1];simpa using h2) ⟨.str ⟨#[c]⟩,H,I.tok _,⟨_,rfl⟩,q⟩) hs

theorem zeK (its:List Value) (n j:Nat) (u:Value):Obj.mapSeq (·.setIfInBounds j u) {cls:= .type "list",data:= .seq its.toArray n}={cls:= .type "list",data:= .seq (its.set j u).toArray n}:=by
 simp [Obj.mapSeq]
theorem Inv.lst {pins:List (Addr×Obj)} {σ:St} {H:Hp} {s:Shared} {p:Addr} {xs:List V} (I:Inv X pins σ H s) (h:H p=some (.lst xs)):
  ∃(its:List Value) (n:Nat),yr xs its∧s.heap.get? p=some {cls:= .type "list",data:= .seq its.toArray n}∧xs.length≤sizeLine:=by
 obtain ⟨z,its,n,r,e⟩:=I.hok p _ h
 exact ⟨its,n,r,e,z⟩
theorem Inv.lstUpd {pins:List (Addr×Obj)} {σ:St} {H:Hp} {s:Shared} {p:Addr} {xs ys:List V} {its its':List Value} {n n':Nat} {f:Obj→Obj} (I:Inv X pins σ H s) (h:H p=some (.lst xs))
  (ho:s.heap.get? p=some {cls:= .type "list",data:= .seq its.toArray n}) (hf:f {cls:= .type "list",data:= .seq its.toArray n}={cls:= .type "list",data:= .seq its'.toArray n'}) (r:yr ys its') (hz:ys.length≤sizeLine) (t:Nat):
  Inv X pins σ (upd H p (.lst ys)) {s with heap:=s.heap.update p f,toks:=t}:=by
 have e:(s.heap.update p f).get? p=some {cls:= .type "list",data:= .seq its'.toArray n'}:=by
  rw [Heap.get?_update_self f ho (by rw [hf]<;>rfl),hf]
 refine I.write (x:=p) (e:=p) (by rw [h];trivial) (.inl rfl) (fun b u hb q=>(Heap.get?_update_other _ _ (Ne.symm hb)).trans q) ⟨_,e⟩ ?_
 exact ⟨hz,its',n',r,e⟩
noncomputable def zjW:V→V→V→Hp→(Hp→Prop)→Prop:=fun o i v H Q=>∃p xs k j,o= .ref p∧i= .int k∧H p=some (.lst xs)∧ixN xs.length k=some j∧Q (upd H p (.lst (xs.set j v)))
theorem zav:zl6 X zjW:=by
 intro pins s σ H o i v ov iv u Q I ro ri rv h
 obtain ⟨p,xs,k,j,rfl,rfl,hp,hj,q⟩:=h
 cases ro
 obtain ⟨t,rfl⟩:=ri
 obtain ⟨its,n,r,ho,hz⟩:=I.lst hp
 obtain ⟨h1,h2,h3,h4⟩:=zfC hj
 have hl:=r.length
 have hn:=UR
 have I':Inv X pins σ (upd H p (.lst (xs.set j v))) {s with heap:=s.heap.update p (Obj.mapSeq (·.setIfInBounds j u))}:=
  I.lstUpd hp ho (zeK its n j u) (r.set rv j) (by rw [List.length_set];exact hz) s.toks
 by_cases h0:0≤k
 ·have hk:k.toNat=j:=by
   rw [seqIndex_of h0 h4] at h1
   exact Option.some.inj h1
  exact PySem.W.ki_setAt ho h0 (by omega) (by rw [List.size_toArray,←hl];exact h4) (by rw [hk];exact ⟨_,I',q⟩)
 ·have hk:(k+(its.toArray.size:Int)).toNat=j:=by
   rw [seqIndex_neg (by omega) h3] at h1
   rw [List.size_toArray,←hl]
   exact Option.some.inj h1
  exact PySem.W.ki_setBack ho (by omega) (by rw [List.size_toArray,←hl];exact h3) (by omega) (by rw [hk];exact ⟨_,I',q⟩)

theorem zcn (lo hi:Option Int) (n:Nat):(sliceBounds lo hi none n).1=((HT.sIx n 0 lo:Nat):Int)∧(sliceBounds lo hi none n).2.1=((HT.sIx n n hi:Nat):Int)∧(sliceBounds lo hi none n).2.2=1:=by
 refine ⟨?_,?_,rfl⟩
 ·cases lo with
  |none=>simp [sliceBounds,HT.sIx]
  |some i=>
   simp only [sliceBounds,HT.sIx,Option.getD_none,show (1:Int)>0 by decide,if_true]
   by_cases h:i<0
   ·simp only [h,if_true]<;>omega
   ·simp only [h,if_false]<;>omega
 ·cases hi with
  |none=>simp [sliceBounds,HT.sIx]
  |some i=>
   simp only [sliceBounds,HT.sIx,Option.getD_none,show (1:Int)>0 by decide,if_true]
   by_cases h:i<0
   ·simp only [h,if_true]<;>omega
   ·simp only [h,if_false]<;>omega
theorem zbk (its:List Value) (lo hi:Option Int):slicePick its.toArray lo hi none=((its.drop (HT.sIx its.length 0 lo)).take (HT.sIx its.length its.length hi-HT.sIx its.length 0 lo)).toArray:=by
 obtain ⟨h1,h2,h3⟩:=zcn lo hi its.toArray.size
 unfold slicePick
 rw [h1,h2,h3]
 simp only [sliceRange_one,pick_run,List.size_toArray]<;>rfl
noncomputable def zhl (K:PySem.W.Frag):V→Option Int→Option Int→Hp→VK→Prop:=fun x lo hi H Q=>∃a xs,x= .ref a∧SqL K H a xs∧∀p,H p=none→Q (.ref p) (upd H p (.lst (zgq xs lo hi)))
theorem ziN:SlR X (zhl X.K):=by
 intro pins s σ H x v vl vu lo hi sl Q I rx hs pl pu h
 obtain ⟨a,xs,rfl,hx,q⟩:=h
 cases rx
 obtain ⟨its,r,ht,hz⟩:=I.list hx
 have hlen:=r.length
 refine ⟨"list",_,slot_list_getitem.lookup,ht.isList.typeIs,?_⟩
 refine wpAny_getItem_list_slice ht.isList hs pl pu .none (by simp) ?_ (by rw [List.size_toArray]<;>omega)
 rw [zbk,←hlen]
 refine ⟨.ref s.heap.objs.size,_,I.laid (t':=s.toks) (o:= .lst (zgq xs lo hi)) (fun b ob q=>Heap.get?_push_of_some _ q) (Nat.le_refl _) ?_,rfl,q _ (I.hok.fresh (Nat.le_refl _))⟩
 exact ⟨Nat.le_trans (zdp xs lo hi) hz,_,0,(r.drop (HT.sIx xs.length 0 lo)).take (HT.sIx xs.length xs.length hi-HT.sIx xs.length 0 lo),Heap.get?_push_size _ rfl⟩

noncomputable def Vn:V→Bool
 | .non=>true
 | .bl _=>true
 | .int _=>true
 | .str _=>true
 |_=>false
noncomputable def eqV:V→V→Bool
 | .non,.non=>true
 | .bl a,.bl b=>a==b
 | .bl a,.int b=>(if a then 1 else 0)==b
 | .int a,.bl b=>a==(if b then 1 else 0)
 | .int a,.int b=>a==b
 | .str a,.str b=>a==b
 |_,_=>false
theorem zkK {A:Around} {s:Shared} {y x:V} {u v:Value} (ry:yA y u) (rx:yA x v) (fy:Vn y=true) (fx:Vn x=true):SeqAt.EqAt A s u v (eqV y x):=by
 cases y with
 |non=>
  cases ry
  cases x with
  |non=>cases rx;exact SeqAt.EqAt.same _
  |bl b=>cases rx;exact SeqAt.EqAt.none_bool b
  |int b=>obtain ⟨t,rfl⟩:=rx;exact SeqAt.EqAt.none_int b t
  |str b=>obtain ⟨t,rfl⟩:=rx;exact SeqAt.EqAt.none_str b t
  |_=>exact absurd (show false=true from fx) Bool.false_ne_true
 |bl a=>
  cases ry
  cases x with
  |non=>cases rx;exact SeqAt.EqAt.bool_none a
  |bl b=>cases rx;exact SeqAt.EqAt.bool_bool a b
  |int b=>obtain ⟨t,rfl⟩:=rx;exact SeqAt.EqAt.bool_int a b t
  |str b=>obtain ⟨t,rfl⟩:=rx;exact SeqAt.EqAt.bool_str a b t
  |_=>exact absurd (show false=true from fx) Bool.false_ne_true
 |int a=>
  obtain ⟨t',rfl⟩:=ry
  cases x with
  |non=>cases rx;exact SeqAt.EqAt.int_none a t'
  |bl b=>cases rx;exact SeqAt.EqAt.int_bool a t' b
  |int b=>obtain ⟨t,rfl⟩:=rx;exact SeqAt.EqAt.int_int a t' b t
  |str b=>obtain ⟨t,rfl⟩:=rx;exact SeqAt.EqAt.int_str a t' b t
  |_=>exact absurd (show false=true from fx) Bool.false_ne_true
 |str a=>
  obtain ⟨t',rfl⟩:=ry
  cases x with
  |non=>cases rx;exact SeqAt.EqAt.str_none a t'
  |bl b=>cases rx;exact SeqAt.EqAt.str_bool a t' b
  |int b=>obtain ⟨t,rfl⟩:=rx;exact SeqAt.EqAt.str_int a t' b t
  |str b=>obtain ⟨t,rfl⟩:=rx;exact SeqAt.EqAt.str_str a t' b t
  |_=>exact absurd (show false=true from fx) Bool.false_ne_true
 |_=>exact absurd (show false=true from fy) Bool.false_ne_true
noncomputable def eqU (x:V) (u:Value):Bool:=match u with
 | .none=>eqV .non x
 | .bool b=>eqV (.bl b) x
 | .int i _=>eqV (.int i) x
 | .str z _=>eqV (.str z) x
 |_=>false
theorem zhm {x y:V} {u:Value} (r:yA y u) (f:Vn y=true):eqU x u=eqV y x:=by
 cases y with
 |non=>cases r;rfl
 |bl b=>cases r;rfl
 |int i=>obtain ⟨t,rfl⟩:=r;rfl
 |str z=>obtain ⟨t,rfl⟩:=r;rfl
 |_=>exact absurd (show false=true from f) Bool.false_ne_true
theorem VX {x:V}:∀{xs:List V} {us:List Value},yr xs us→xs.all Vn=true→us.any (eqU x)=xs.any fun y=>eqV y x
 |_,_,.nil,_=>rfl
 |y::xs,u::us,.cons r t,f=>by
  rw [List.all_cons,Bool.and_eq_true] at f
  rw [List.any_cons,List.any_cons,zhm r f.1,VX t f.2]
theorem Wn {A:Around} {s:Shared} {x:V} {v:Value} (rx:yA x v) (fx:Vn x=true):∀{xs:List V} {us:List Value},yr xs us→xs.all Vn=true→∀u∈us,SeqAt.EqAt A s u v (eqU x u)
 |_,_,.nil,_=>fun u hu=>by cases hu
 |y::xs,u::us,.cons r t,f=>fun u' hu=>by
  rw [List.all_cons,Bool.and_eq_true] at f
  rcases List.mem_cons.mp hu with rfl|hu
  ·rw [zhm r f.1];exact zkK r rx f.1 fx
  ·exact Wn rx fx t f.2 u' hu
noncomputable def inV (x:V) (xs:List V):Bool:=xs.any fun y=>eqV y x
noncomputable def rIn (K:PySem.W.Frag) (neg:Bool):R2:=fun x y H Q=>∃p xs,y= .ref p∧(SqL K H p xs∨SqT K H p xs)∧Vn x=true∧xs.all Vn=true∧Q (.bl (if neg then !inV x xs else inV x xs)) H
theorem zgr:OpR X (compareOp .In) (rIn X.K false):=by
 intro pins s σ H x y v u Q I rx ry h
 obtain ⟨p,xs,rfl,hq,fx,fs,q⟩:=h
 cases ry
 rcases hq with hq|hq
 ·obtain ⟨its,r,pl,hz⟩:=I.list hq
  refine SeqAt.in_listAt (eqU x) pl.isList (fun w hw=>Wn rx fx r fs w (by simpa using hw)) ⟨.bl _,H,I,rfl,?_⟩
  rw [show its.toArray.any (eqU x)=its.any (eqU x) by simp,VX r fs]
  exact q
 ·obtain ⟨its,r,pl,hz⟩:=I.tuple hq
  refine SeqAt.in_tupleAt (eqU x) pl (fun w hw=>Wn rx fx r fs w (by simpa using hw)) ⟨.bl _,H,I,rfl,?_⟩
  rw [show its.toArray.any (eqU x)=its.any (eqU x) by simp,VX r fs]
  exact q
theorem zco:OpR X (compareOp .NotIn) (rIn X.K true):=by
 intro pins s σ H x y v u Q I rx ry h
 obtain ⟨p,xs,rfl,hq,fx,fs,q⟩:=h
 cases ry
 rcases hq with hq|hq
 ·obtain ⟨its,r,pl,hz⟩:=I.list hq
  refine SeqAt.notIn_listAt (eqU x) pl.isList (fun w hw=>Wn rx fx r fs w (by simpa using hw)) ⟨.bl _,H,I,rfl,?_⟩
  rw [show its.toArray.any (eqU x)=its.any (eqU x) by simp,VX r fs]
  exact q
 ·obtain ⟨its,r,pl,hz⟩:=I.tuple hq
  refine SeqAt.notIn_tupleAt (eqU x) pl (fun w hw=>Wn rx fx r fs w (by simpa using hw)) ⟨.bl _,H,I,rfl,?_⟩
  rw [show its.toArray.any (eqU x)=its.any (eqU x) by simp,VX r fs]
  exact q

theorem zcp:vq X (.builtin "len") (fun xs H Q=>∃p ys,xs=[.ref p]∧(SqL X.K H p ys∨SqT X.K H p ys)∧Q (.int ys.length) H):=by
 intro pins s σ H xs us Q I r h
 obtain ⟨p,ys,rfl,hq,q⟩:=h
 obtain ⟨u,rfl,rx⟩:=Xb r
 cases rx
 have hn:=UR
 rcases hq with hq|hq
 ·obtain ⟨its,r',pl,hz⟩:=I.list hq
  have hlen:=r'.length
  exact Calls.call_len_list pl.isList (by simp only [List.size_toArray]<;>omega) ⟨.int ys.length,H,I.tok _,⟨s.toks+1,by rw [List.size_toArray,hlen]⟩,q⟩
 ·obtain ⟨its,r',pl,hz⟩:=I.tuple hq
  have hlen:=r'.length
  exact len_tuple pl (by simp only [List.size_toArray]<;>omega) ⟨.int ys.length,H,I.tok _,⟨s.toks+1,by rw [List.size_toArray,hlen]⟩,q⟩
theorem Xr:vq X (.builtin "len") (fun xs H Q=>∃z,xs=[.str z]∧z.length≤sizeLine∧Q (.int z.length) H):=by
 intro pins s σ H xs us Q I r h
 obtain ⟨z,rfl,hz,q⟩:=h
 obtain ⟨u,rfl,t,rfl⟩:=Xb r
 have hn:=UR
 exact len_str (by omega) ⟨.int z.length,H,I.tok _,⟨_,rfl⟩,q⟩
theorem zbl:vq X (.type "tuple") (fun xs H Q=>∃p ys,xs=[.ref p]∧((SqL X.K H p ys∧∀l,H l=none→Q (.ref l) (upd H l (.tup ys)))∨(SqT X.K H p ys∧Q (.ref p) H))):=by
 intro pins s σ H xs us Q I r h
 obtain ⟨p,ys,rfl,h⟩:=h
 obtain ⟨u,rfl,rx⟩:=Xb r
 cases rx
 rcases h with ⟨hq,q⟩|⟨hq,q⟩
 ·obtain ⟨its,r',pl,hz⟩:=I.list hq
  have hlen:=r'.length
  refine call_tuple_list pl.isList (fun h' kp=> ?_) (by simp only [List.size_toArray]<;>omega)
  have I1:Inv X pins σ H {s with heap:=h'}:=I.kept (t':=s.toks) kp
  have I2:Inv X pins σ (upd H h'.objs.size (.tup ys)) {s with heap:=h'.push {cls:= .type "tuple",data:= .seq its.toArray}}:=
   I1.laid (t':=s.toks) (fun b o e=>Heap.get?_push_of_some _ e) (Nat.le_refl _) (show xC X.prog X.w _ _ _ (.tup ys) from ⟨hz,its,r',Xl.new _ _⟩)
  exact ⟨.ref h'.objs.size,_,I2,rfl,q _ (I1.hok.fresh (Nat.le_refl _))⟩
 ·obtain ⟨its,r',pl,hz⟩:=I.tuple hq
  exact call_tuple_same pl ⟨.ref p,H,I,rfl,q⟩

noncomputable def tyV (K:PySem.W.Frag) (T:String) (x:V) (H:Hp):Prop:=match x with
 | .str _=>T="str"
 | .int _=>T="int"
 | .ref p=>(T="list"∧∃xs,SqL K H p xs)∨(T="tuple"∧∃o,K.lookup p=some o∧o.cls= .type "tuple"∧o.dict=none)∨
   (T="dict"∧((∃kvs,Rd H p (.dK kvs))∨∃kvs,H p=some (.dT kvs)))∨(T="set"∧∃S n,H p=some (.set S n))
 |_=>False
theorem zkL {pins:List (Addr×Obj)} {σ:St} {H:Hp} {s:Shared} {T:String} {x:V} {v:Value} (I:Inv X pins σ H s) (r:yA x v) (ty:tyV X.K T x H):
  s.TypeIs v T∧∀a,v= .ref a→∃ob,s.heap.get? a=some ob∧ob.dict=none:=by
 cases x with
 |str z=>
  obtain ⟨t,rfl⟩:=r
  cases (show T="str" from ty)
  exact ⟨typeIs_str s z t,fun _ e=>nomatch e⟩
 |int i=>
  obtain ⟨t,rfl⟩:=r
  cases (show T="int" from ty)
  exact ⟨typeIs_int s i t,fun _ e=>nomatch e⟩
 |ref p=>
  cases r
  rcases ty with ⟨rfl,xs,hq⟩|⟨rfl,o,hk,hc,hd⟩|⟨rfl,hk⟩|⟨rfl,S,n,hk⟩
  ·obtain ⟨its,_,pl,_⟩:=I.list hq
   refine ⟨pl.isList.typeIs,fun a e=> ?_⟩
   cases e
   obtain ⟨o,n,e,c,hd,_⟩:=pl
   exact ⟨o,e,hd⟩
  ·refine ⟨⟨o,I.kIn p o hk,hc⟩,fun a e=> ?_⟩
   cases e
   exact ⟨o,I.kIn _ o hk,hd⟩
  ·have z:∃o,s.heap.get? p=some o∧o.ExactDict:=by
    rcases hk with ⟨kvs,hk⟩|⟨kvs,hk⟩
    ·obtain ⟨_,_,_,_,o,_,_,e,ex,_⟩:=hk.ok I.hok
     exact ⟨o,e,ex⟩
    ·obtain ⟨_,_,_,_,o,_,_,e,ex,_⟩:=I.hok p _ hk
     exact ⟨o,e,ex⟩
   obtain ⟨o,e,ex⟩:=z
   refine ⟨⟨o,e,ex.1⟩,fun a e2=> ?_⟩
   cases e2
   exact ⟨o,e,ex.2.1⟩
  ·obtain ⟨o,_,_,_,e,ex,_⟩:=I.hok p _ hk
   refine ⟨⟨o,e,ex.1⟩,fun a e2=> ?_⟩
   cases e2
   exact ⟨o,e,ex.2.1⟩
 |_=>exact False.elim ty
noncomputable def tBM (K:PySem.W.Frag) (T:String) (r:V→List V→Hp→VK→Prop) (to:TE) (t:TA):TE:=fun σ H Q=>to σ H fun x H1=>tyV K T x H1∧t σ H1 fun xs H2=>r x xs H2 Q
variable {o e:Expr} {es:List Expr} {to:TE} {t:TA} {name:Str} {apos cpos:Pos} {T id:String} {r:V→List V→Hp→VK→Prop}
theorem vW (pa:PlainAttrs T) (slot:Slot T name id) (hty:typeOf (.builtin id)=pure (.type "method_descriptor")) (hm:MtR X id r) (ho:PE X o to) (ha:PA X (e::es) t)
  (hbase:attributeBase o name X.env (eval o X.env)=eval o X.env:=by rfl)
  (hfew:((backTo cpos (starEach (e::es) X.env)).all (fun x=> !x.1)&&(backToKw cpos (keywordEach [] X.env)).all (fun x=>x.1.isSome)
   &&decide ((e::es).length+([]:List Keyword).length+(if ([]:List Keyword).isEmpty then 0 else 1)<30))=true:=by rfl)
  (hline:(apos.endLine==cpos.line)=true:=by rfl) (hs:starEach (e::es) X.env=(false,eval e X.env)::starEach es X.env:=by rfl) (hplain:(backTo cpos (starEach es X.env)).any (·.1)=false:=by rfl):
  PE X (.Call (.Attribute o name apos) (e::es) [] cpos) (tBM X.K T r to t):=by
 intro pins s σ H Q I h
 refine wpAny_Call_method_late hbase hfew hline rfl (thn (ho pins s σ H _ I h) ?_)
 rintro v s1 ⟨x,H1,I1,r1,ty,q1⟩
 obtain ⟨h1,h2⟩:=zkL I1 r1 ty
 refine ⟨T,id,pa,slot,hty,h1,h2,?_⟩
 have hA:=ha cpos pins s1 σ H1 _ I1 q1
 rw [hs] at hA ⊢
 refine Calls.callWith_builtin (by show (false||(backTo cpos (starEach es X.env)).any (·.1))=false;rw [hplain]<;>rfl) (Calls.evalArgs_plain ?_)
 refine thn hA ?_
 rintro us s2 ⟨vs,H2,I2,r2,q2⟩
 exact hm pins s2 σ H2 x vs v us Q I2 r1 r2 q2
/- xs.append(e), list.index on a module's tuple .. are MtR facts of 06m -/
end
end L2

namespace L2
open PySem PySem.Spec PyProof.Rows

noncomputable def MtM (X:Cx) (id:String) (r:V→List V→Hp→VK→Prop):Prop:=
 ∀(pins:List (Addr×Obj)) (s:Shared) (σ:St) (H:Hp) (x:V) (xs:List V) (v:Value) (us:List Value) (Q:VK),Inv X pins σ H s→yA x v→yr xs us→r x xs H Q→
  wpAny (model X.prog X.w) X.A (call (.builtin id) (v::us)) (EP X pins σ Q) X.xe s

theorem yr.one:∀{x:V} {us:List Value},yr [x] us→∃u,us=[u]∧yA x u
 |_,_,.cons r .nil=>⟨_,rfl,r⟩

section
variable {X:Cx} {pins:List (Addr×Obj)} {σ:St} {H:Hp} {s:Shared} {l b:Addr} {xs ys zs:List V}

theorem Inv.lset {its its':List Value} {n:Nat} {f:Array Value→Array Value} {t':Nat} (I:Inv X pins σ H s) (hH:H l=some (.lst xs))
  (e:s.heap.get? l=some {cls:= .type "list",data:= .seq its.toArray n}) (hf:f its.toArray=its'.toArray) (hv:yr ys its') (hz:ys.length≤sizeLine):
  Inv X pins σ (upd H l (.lst ys)) {s with heap:=s.heap.update l (Obj.mapSeq f),toks:=t'}:=by
 have q:=PySem.IsL.update e f
 rw [hf] at q
 refine I.write (x:=l) (e:=l) (by rw [hH];exact trivial) (.inl rfl) (fun b' u hb hu=>(Heap.get?_update_other s.heap (Obj.mapSeq f) (Ne.symm hb)).trans hu) ⟨_,q⟩ ?_
 exact ⟨hz,its',_,hv,q⟩
theorem Inv.lnew {its:List Value} {t':Nat} (I:Inv X pins σ H s) (hv:yr ys its) (hz:ys.length≤sizeLine):
  Inv X pins σ (upd H s.heap.objs.size (.lst ys)) {s with heap:=s.heap.push {cls:= .type "list",data:= .seq its.toArray},toks:=t'}:=
 I.laid (fun _ _ q=>Heap.get?_push_of_some _ q) (Nat.le_refl _) ⟨hz,its,0,hv,Heap.get?_push_size _ rfl⟩
theorem Inv.fresh (I:Inv X pins σ H s):H s.heap.objs.size=none:=I.hok.fresh (Nat.le_refl _)
theorem Inv.lstM (I:Inv X pins σ H s) (hH:H l=some (.lst xs)):xs.length≤sizeLine∧∃(its:List Value) (n:Nat),yr xs its∧xs.length=its.length∧s.heap.get? l=some {cls:= .type "list",data:= .seq its.toArray n}:=by
 obtain ⟨z,its,n,r,e⟩:=I.hok l _ hH
 exact ⟨z,its,n,r,r.length,e⟩

theorem zhn {n:Nat} (h:n≤sizeLine):Builtin.List.listTooLong n=false:=by
 unfold Builtin.List.listTooLong
 exact decide_eq_false (by omega)
end

section
variable {X:Cx}

noncomputable def zfD:V→List V→Hp→VK→Prop:=fun x vs H Q=>∃l xs y,x= .ref l∧vs=[y]∧H l=some (.lst xs)∧xs.length<sizeLine∧Q .non (upd H l (.lst (xs++[y])))
theorem wk:MtM X "list.append" zfD:=by
 intro pins s σ H x vs v us Q I rx rv h
 obtain ⟨l,xs,y,rfl,rfl,hH,hz,q⟩:=h
 cases rx
 obtain ⟨u,rfl,ru⟩:=rv.one
 obtain ⟨z,its,n,r,hl,e⟩:=I.lstM hH
 refine call_meets F.slot_list_append ⟨_,e,rfl⟩ F.entry_list_append (F.args_list_append_2 _ _) (PySem.list_append l its.toArray n u (by rw [List.size_toArray];omega)) ⟨e,?_⟩
 refine ⟨.non,_,I.lset (its':=its++[u]) hH e (by simp) (r.append (.cons ru .nil)) ?_,rfl,q⟩
 rw [List.length_append,List.length_singleton]
 omega







end

section
variable {prog:Program} {w:World} {A:Around} {E:Value→Shared→Prop} {s:Shared}
end

section
variable {X:Cx}
end
end L2
namespace L2
open PySem PySem.Spec PyProof.Rows

section
variable {κ:Type} [DecidableEq κ]
noncomputable def Wo (kvs:List (κ×V)) (k:κ):Option V:=(kvs.find? fun kv=>decide (kv.1=k)).map (·.2)

theorem zdq {p:κ×V} {r:List (κ×V)} {k:κ} (e:p.1=k):Wo (p::r) k=some p.2:=by simp [Wo,List.find?_cons,e]
theorem zdr {p:κ×V} {r:List (κ×V)} {k:κ} (e:¬p.1=k):Wo (p::r) k=Wo r k:=by simp [Wo,List.find?_cons,e]

theorem Vj.isSome_eq {o:Option V} {u:Option Value} (r:Vj o u):o.isSome=u.isSome:=by
 cases o with
 |none=>cases u with
  |none=>rfl
  |some _=>exact (show False from r).elim
 |some _=>cases u with
  |none=>exact (show False from r).elim
  |some _=>rfl

theorem KV.val {kvs:List (κ×V)} {vs:List (κ×Value)} (r:KV kvs vs) (k:κ):Vj (Wo kvs k) (valueAt vs k):=by
 unfold KV at r
 induction r with
 |nil=>exact True.intro
 | @cons p q ps qs h t ih=>
  obtain ⟨h1,h2⟩:=h
  by_cases e:p.1=k
  ·have e':q.1=k:=h1.symm.trans e
   have b:valueAt (q::qs) k=some q.2:=by simp [valueAt,List.find?_cons,e']
   rw [zdq e,b];exact h2
  ·have e':¬q.1=k:=fun z=>e (h1.trans z)
   have b:valueAt (q::qs) k=valueAt qs k:=by simp [valueAt,List.find?_cons,e']
   rw [zdr e,b];exact ih
theorem KV.keys {kvs:List (κ×V)} {vs:List (κ×Value)} (r:KV kvs vs):kvs.map (·.1)=vs.map (·.1):=by
 unfold KV at r
 induction r with
 |nil=>rfl
 |cons h t ih=>rw [List.map_cons,List.map_cons,ih,h.1]
end


theorem zfE {P:Program} {w:World} {k:Key} {u:Value} (r:yA (kV k) u):(wC P w).is k u=true:=by
 cases k with
 |inl i=>obtain ⟨t,e⟩:=(show ∃t,u=Value.int i t from r);subst e;exact zde P w i t
 |inr x=>obtain ⟨t,e⟩:=(show ∃t,u=Value.str x t from r);subst e;exact zdf P w x t
theorem zbV {P:Program} {w:World}:∀{ks:List Key} {us:List Value},yr (ks.map kV) us→ItemsAre (wC P w) ks us
 |[],_,r=>by rw [List.map_nil] at r;cases r;exact .nil
 |k::ks,_,r=>by
  rw [List.map_cons] at r
  cases r with
  |cons h t=>exact .cons (zfE h) (zbV t)

noncomputable abbrev KT (H:Hp):List (List Key×V)→List (List Key×Addr×Value)→Prop:=Paired fun p q=>p.1=q.1∧H q.2.1=some (.tup (p.1.map kV))∧yA p.2 q.2.2
theorem KT.val {H:Hp} {kvs:List (List Key×V)} {xs:List (List Key×Addr×Value)} (r:KT H kvs xs) (k:List Key):Vj (Wo kvs k) ((atKey xs k).map (·.2)):=by
 induction r with
 |nil=>exact True.intro
 | @cons p q ps qs h t ih=>
  obtain ⟨h1,_,h2⟩:=h
  by_cases e:p.1=k
  ·have e':q.1=k:=h1.symm.trans e
   have b:atKey (q::qs) k=some q.2:=by simp [atKey,List.find?_cons,e']
   rw [zdq e,b];exact h2
  ·have e':¬q.1=k:=fun z=>e (h1.trans z)
   have b:atKey (q::qs) k=atKey qs k:=by simp [atKey,List.find?_cons,e']
   rw [zdr e,b];exact ih

section
variable {P:Program} {w:World} {H:Hp} {h:Heap} {a:Addr}
theorem zjX {u:HO} (ok:HOk P w H h) (e:Rd H a u):xC P w H h a u:=e.ok ok
theorem zfF {kvs:List (Key×V)} (ok:HOk P w H h) (e:Rd H a (.dK kvs)):kvs.length≤sizeLine∧(a==sysModules)=false∧∃vs,KV kvs vs∧h.DictOf (wC P w) a vs:=
 show xC P w H h a (.dK kvs) from zjX ok e
theorem zcq {ks:List Key} (ok:HOk P w H h) (e:H a=some (.tup (ks.map kV))):(tupleKind (wC P w)).is h ks a:=by
 obtain ⟨_,its,r,o,h1,h2,n,h3⟩:=(show xC P w H h a (.tup (ks.map kV)) from ok a _ e)
 exact ⟨o,its.toArray,n,h1,h2,h3.1,by simpa using zbV r⟩
theorem zfG {kvs:List (List Key×V)} (ok:HOk P w H h) (e:Rd H a (.dT kvs)):kvs.length≤sizeLine∧(a==sysModules)=false∧
  ∃xs,KT H kvs xs∧h.DictOfH (tupleKind (wC P w)) a xs:=by
 obtain ⟨z,y,xs,r,o,es,ep,h1,h2,h3,h4,h5⟩:=(show xC P w H h a (.dT kvs) from zjX ok e)
 refine ⟨z,y,xs,r,o,es,ep,h1,h2,h3,h4,fun x hx=> ?_,h5⟩
 have all:∀{l:List (List Key×V)} {m:List (List Key×Addr×Value)},KT H l m→∀x∈m,(tupleKind (wC P w)).is h x.1 x.2.1:=by
  intro l m q
  induction q with
  |nil=>intro x hx;exact nomatch hx
  | @cons p q ps qs hq t ih=>
   intro x hx
   rcases List.mem_cons.mp hx with e|hx
   ·subst e
    exact zcq ok (by rw [←hq.1];exact hq.2.1)
   ·exact ih x hx
 exact all r x hx
end

noncomputable def VY (H:Hp) (a:Addr) (y:V) (r:Option V):Prop:=
 (∃kvs k,Rd H a (.dK kvs)∧y=kV k∧r=Wo kvs k)∨∃kvs k b,Rd H a (.dT kvs)∧y= .ref b∧H b=some (.tup (k.map kV))∧r=Wo kvs k
theorem VY.k {H:Hp} {a:Addr} {kvs:List (Key×V)} {k:Key} (e:H a=some (.dK kvs)):VY H a (kV k) (Wo kvs k):= .inl ⟨kvs,k,.inl e,rfl,rfl⟩


section
variable {X:Cx} {pins:List (Addr×Obj)} {σ:St} {H:Hp} {s:Shared} {a:Addr} {y v:V} {u r:Value} {o:Option V} {A:Around} {E:Value→Shared→Prop}

theorem Inv.big (I:Inv X pins σ H s):sysModules<s.heap.objs.size:=by
 have h:mainGlobals<s.heap.objs.size:=(I.mod.glob.keeps I.bk).lt
 exact Nat.lt_trans (by decide) h

theorem zgs {Q:Value→Shared→Prop} (hu:A.units+1<cLine) (I:Inv X pins σ H s) (g:VY H a y (some v)) (ry:yA y u) (h:∀w' s',Inv X pins σ H s'→yA v w'→Q w' s'):
  wpAny (model X.prog X.w) A (getItem (.ref a) u) Q E s:=by
 rcases g with ⟨kvs,k,e,ey,l⟩|⟨kvs,k,b,e,ey,eb,l⟩
 ·subst ey
  obtain ⟨z,hd,vs,rel,dd⟩:=zfF I.hok e
  obtain ⟨w',hw,rw'⟩:=Vj.some_of (v:=v) (o:=valueAt vs k) (by rw [l];exact rel.val k)
  exact wpAny_getItem_of (zfE ry) dd.mapOf hw (h w' _ (I.tok _) rw')
 ·subst ey
  cases (show u=Value.ref b from ry)
  obtain ⟨z,hd,xs,rel,dd⟩:=zfG I.hok e
  obtain ⟨w',hw,rw'⟩:=Vj.some_of (v:=v) (o:=(atKey xs k).map (·.2)) (by rw [l];exact rel.val k)
  obtain ⟨p,hp,hp2⟩:=Option.map_eq_some_iff.mp hw
  refine wpAny_getItem_heap (tupleKind_room_in1 hu) (zcq I.hok eb) dd hp ?_
  rw [hp2]
  exact h w' _ (I.tok _) rw'
theorem zne {Q:Value→Shared→Prop} (hu:A.units+1<cLine) (I:Inv X pins σ H s) (g:VY H a y o) (ry:yA y u) (h:∀s',Inv X pins σ H s'→Q (.bool o.isSome) s'):
  wpAny (model X.prog X.w) A (compareOp .In u (.ref a)) Q E s:=by
 rcases g with ⟨kvs,k,e,ey,l⟩|⟨kvs,k,b,e,ey,eb,l⟩
 ·subst ey
  obtain ⟨z,hd,vs,rel,dd⟩:=zfF I.hok e
  refine wpAny_in_of (zfE ry) hd dd.mapOf ?_
  rw [←(rel.val k).isSome_eq,←l]
  exact h _ (I.tok _)
 ·subst ey
  cases (show u=Value.ref b from ry)
  obtain ⟨z,hd,xs,rel,dd⟩:=zfG I.hok e
  refine wpAny_in_heap (tupleKind_room_in1 hu) (zcq I.hok eb) hd dd ?_
  have q:=(rel.val k).isSome_eq
  rw [Option.isSome_map] at q
  rw [←q,←l]
  exact h _ (I.tok _)
theorem ziO {Q:Value→Shared→Prop} (hu:A.units+1<cLine) (I:Inv X pins σ H s) (g:VY H a y o) (ry:yA y u) (h:∀s',Inv X pins σ H s'→Q (.bool (!o.isSome)) s'):
  wpAny (model X.prog X.w) A (compareOp .NotIn u (.ref a)) Q E s:=by
 rcases g with ⟨kvs,k,e,ey,l⟩|⟨kvs,k,b,e,ey,eb,l⟩
 ·subst ey
  obtain ⟨z,hd,vs,rel,dd⟩:=zfF I.hok e
  refine wpAny_notIn_of (zfE ry) hd dd.mapOf ?_
  rw [←(rel.val k).isSome_eq,←l]
  exact h _ (I.tok _)
 ·subst ey
  cases (show u=Value.ref b from ry)
  obtain ⟨z,hd,xs,rel,dd⟩:=zfG I.hok e
  refine wpAny_notIn_heap (tupleKind_room_in1 hu) (zcq I.hok eb) hd dd ?_
  have q:=(rel.val k).isSome_eq
  rw [Option.isSome_map] at q
  rw [←q,←l]
  exact h _ (I.tok _)
end

section
variable {X:Cx} {pins:List (Addr×Obj)} {σ:St} {H:Hp} {s:Shared} {a:Addr} {kvs:List (Key×V)} {k:Key} {u:Value} {A:Around} {E:Value→Shared→Prop}
end


noncomputable def zml (i:Expr):Prop:=∀ov iv,subscripted i false ov iv=operate [ov,iv] (getItem ov iv)
theorem ziP {prog:Program} {w:World} {A:Around} {E:Value→Shared→Prop} {s:Shared} {env:Env} {value slice:Expr} {pos:Pos} {T id:String} {Q:Value→Shared→Prop}
  (hl:typeLookup (.type T) "__getitem__"=pure (some (.builtin id))) (hs:zml slice)
  (h:wpAny (model prog w) A (eval value env) (fun o s₁=>wpAny (model prog w) A (eval slice env) (fun i s₂=>s₂.TypeIs o T∧wpAny (model prog w) A (getItem o i) Q E s₂) E s₁) E s):
  wpAny (model prog w) A (eval (.Subscript value slice pos) env) Q E s:=by
 refine Subscript_ (wpAny_mono h (fun o s₁ h₁=>wpAny_mono h₁ (fun i s₂ h₂=> ?_) fun _ _ x=>x) fun _ _ x=>x)
 obtain ⟨hT,h₂⟩:=h₂
 unfold subscriptTail
 refine wpAny_bind ?_
 rw [getitemInPython_of_ne hT.not_modules]
 refine wpAny_bind (wpAny_specialOf hT hl ?_)
 have fin:wpAny (model prog w) A (subscripted slice false o i) (fun r s₃=>wpAny (model prog w) A (letTemporaryGo value o r>>=fun _=>pure r) Q E s₃) E s₂:=by
  rw [hs o i]
  exact wpAny_operating (wpAny_mono h₂ (fun r s₃ h₃=>wpAny_bind (wpAny_letTemporaryGo (wpAny_pure h₃))) fun _ _ x=>x)
 first
  |exact wpAny_pure (wpAny_bind fin)
  |exact wpAny_bind (wpAny_pure (wpAny_bind fin))
  |exact wpAny_bind fin

theorem zds {X:Cx} {pins:List (Addr×Obj)} {σ:St} {H:Hp} {s:Shared} {a:Addr} {y:V} {o:Option V} (I:Inv X pins σ H s) (g:VY H a y o):s.TypeIs (.ref a) "dict":=by
 rcases g with ⟨kvs,k,e,_,_⟩|⟨kvs,k,b,e,_,_,_⟩
 ·obtain ⟨_,_,vs,_,dd⟩:=zfF I.hok e
  exact dd.typeIs
 ·obtain ⟨_,_,xs,_,dd⟩:=zfG I.hok e
  exact dd.typeIs

noncomputable def zjY (td ty:TE):TE:=fun σ H Q=>td σ H fun x H1=>ty σ H1 fun y H2=>∃a v,x= .ref a∧VY H2 a y (some v)∧Q v H2
noncomputable def zmm (ty td:TE):TE:=fun σ H Q=>ty σ H fun y H1=>td σ H1 fun x H2=>∃a o,x= .ref a∧VY H2 a y o∧Q (.bl o.isSome) H2
noncomputable def zfH (ty td:TE):TE:=fun σ H Q=>ty σ H fun y H1=>td σ H1 fun x H2=>∃a o,x= .ref a∧VY H2 a y o∧Q (.bl (!o.isSome)) H2

section
variable {X:Cx} {o i e value:Expr} {pos pos' tpos:Pos} {td ty tv:TE}
theorem ziQ (hu:X.A.units+1<cLine) (ho:PE X o td) (hi:PE X i ty) (hs:zml i):PE X (.Subscript o i pos) (zjY td ty):=by
 intro pins s σ H Q I h
 refine ziP PySem.F.slot_dict_getitem.lookup hs (thn (ho pins s σ H _ I h) ?_)
 rintro u s1 ⟨x,H1,I1,rx,q1⟩
 refine thn (hi pins s1 σ H1 _ I1 q1) ?_
 rintro iv s2 ⟨y,H2,I2,ry,a,v,ex,g,q2⟩
 subst ex
 obtain rfl:u=Value.ref a:=rx
 exact ⟨zds I2 g,zgs hu I2 g ry fun w' s3 I3 rw'=>⟨v,H2,I3,rw',q2⟩⟩
theorem zkM (hu:X.A.units+1<cLine) (hi:PE X i ty) (ho:PE X o td):PC X .In i o (zmm ty td):=by
 intro pins s σ H Q I h
 refine thn (hi pins s σ H _ I h) ?_
 rintro iv s1 ⟨y,H1,I1,ry,q1⟩
 refine thn (ho pins s1 σ H1 _ I1 q1) ?_
 rintro u s2 ⟨x,H2,I2,rx,a,ov,ex,g,q2⟩
 subst ex
 obtain rfl:u=Value.ref a:=rx
 exact zne hu I2 g ry fun s3 I3=>⟨.bl ov.isSome,H2,I3,rfl,q2⟩
theorem zgt (hu:X.A.units+1<cLine) (hi:PE X i ty) (ho:PE X o td):PC X .NotIn i o (zfH ty td):=by
 intro pins s σ H Q I h
 refine thn (hi pins s σ H _ I h) ?_
 rintro iv s1 ⟨y,H1,I1,ry,q1⟩
 refine thn (ho pins s1 σ H1 _ I1 q1) ?_
 rintro u s2 ⟨x,H2,I2,rx,a,ov,ex,g,q2⟩
 subst ex
 obtain rfl:u=Value.ref a:=rx
 exact ziO hu I2 g ry fun s3 I3=>⟨.bl (!ov.isSome),H2,I3,rfl,q2⟩
end


section
variable {X:Cx} {pos:Pos}
end

noncomputable abbrev VV:List (V×V)→List (Value×Value)→Prop:=Paired fun p q=>yA p.1 q.1∧yA p.2 q.2



structure M1 (X:Cx) (o:Expr) (m:Str) (apos:Pos) (e:Expr) (cpos:Pos):Prop where
 base:attributeBase o m X.env (eval o X.env)=eval o X.env
 few:((backTo cpos (starEach [e] X.env)).all (fun x=> !x.1)&&(backToKw cpos (keywordEach [] X.env)).all (fun x=>x.1.isSome)
  &&decide (([e]:List Expr).length+([]:List Keyword).length+(if ([]:List Keyword).isEmpty then 0 else 1)<30))=true
 line:(apos.endLine==cpos.line)=true
 trees:backTo cpos (starEach [e] X.env)=[(false,eval e X.env)]
structure M2 (X:Cx) (o:Expr) (m:Str) (apos:Pos) (e f:Expr) (cpos:Pos):Prop where
 base:attributeBase o m X.env (eval o X.env)=eval o X.env
 few:((backTo cpos (starEach [e,f] X.env)).all (fun x=> !x.1)&&(backToKw cpos (keywordEach [] X.env)).all (fun x=>x.1.isSome)
  &&decide (([e,f]:List Expr).length+([]:List Keyword).length+(if ([]:List Keyword).isEmpty then 0 else 1)<30))=true
 line:(apos.endLine==cpos.line)=true
 trees:backTo cpos (starEach [e,f] X.env)=[(false,eval e X.env),(false,eval f X.env)]


section
variable {X:Cx} {pins:List (Addr×Obj)} {σ:St} {H:Hp} {s:Shared} {a:Addr} {y d:V} {u r:Value} {o:Option V} {A:Around} {E:Value→Shared→Prop}
end

section
variable {X:Cx} {o e f:Expr} {apos cpos:Pos} {td ty tx:TE}
end

section
variable {X:Cx} {pins:List (Addr×Obj)} {σ:St} {H:Hp} {s:Shared} {a:Addr} {kvs:List (Key×V)} {A:Around} {E:Value→Shared→Prop}
end


section
variable {X:Cx} {pins:List (Addr×Obj)} {σ:St} {H:Hp} {s:Shared} {a:Addr} {y:V} {u:Value} {A:Around} {E:Value→Shared→Prop}
end
end L2
namespace Att
open PySem PySem.W PySem.Calls PyProof.Rows

theorem TJ {P:Params} {h:Heap}:∀(ns:List Int) (vs:List Value),WellAll P h vs (ns.map WData.int)→IntsAre vs ns:=by
 intro ns
 induction ns with
 |nil=>
  intro vs w
  rw [List.map_nil] at w
  cases w
  exact .nil
 |cons n ns ih=>
  intro vs w
  rw [List.map_cons] at w
  cases w with
  |cons a b=>
   cases a
   exact .cons _ _ (ih _ b)

theorem zgu {l:OpenLaw} {n:Nat} (hn:l.most=some n) {P:Params} {h:Heap} {args:List WData} {vals:List Value}
  (hpre:l.row.toRowW.claim.pre args=true) (hwl:WellAll P h vals args):
  ∃a vs ns,vals=[Value.ref a]∧args=[WData.list (ns.map WData.int)]∧h.get? a=some {cls:= .type "list",data:= .seq vs.toArray}∧IntsAre vs ns∧ns.length≤n:=by
 have hsh:WShape.hasAll [] args [.list .int]=true:=(pre_splitW hpre).1
 have hc:l.pre.holds [] {args:=args}=true:=(pre_splitW hpre).2
 obtain ⟨d,r,rfl,h1,h2⟩:=hasAllW_cons hsh
 obtain rfl:=hasAllW_nil h2
 obtain ⟨xs,rfl,h3⟩:=hasW_list h1
 obtain ⟨ns,rfl⟩:=items_int h3
 have hlen:ns.length≤n:=by
  unfold OpenLaw.pre at hc
  have h4:(WTm.not (.lt (.lit (.int (n:Int))) (.len (.arg 0)))).holds [] {args:=[.list (ns.map .int)]}=true:=by
   have h4:=(holds_andW hc).1
   rw [hn] at h4
   exact h4
  have h5:=condW_of h4 (w_not (w_lt w_lit (w_len_list (w_arg rfl))))
  rw [List.length_map] at h5
  refine Nat.le_of_not_lt fun q=> ?_
  have q':(n:Int)<((ns.length:Nat):Int):=by omega
  first
   |(rw [decide_eq_true q'] at h5;exact absurd h5 (by decide))
   |(simp at h5;omega)
 cases hwl with
 |cons w1 w2=>
  cases w2
  cases w1 with
  |list ho hall=>exact ⟨_,_,ns,rfl,rfl,ho,TJ ns _ hall,hlen⟩

theorem zgv (l:OpenLaw) (args:List WData):l.row.toRowW.claim.post args (.bool true) args=true:=
 postW_of (r:=l.row.toRowW) (X:=(true==true))
  (show WShape.has [] (.bool true) .bool=true by first|rfl|decide|simp [WShape.has,WShape.arms,WShape.armsAll])
  (show (WTm.eq .res (.lit (.bool true))).value [] {args:=args,res:=some (.bool true),after:=args}=some (.bool (true==true)) from w_eq_bool (w_res rfl) w_lit) rfl


theorem zdt {l:OpenLaw} {n:Nat} {q:Program} {loose:List Str} {XP:(Str→Option Value)→Heap→Prop} {YP:World→Heap→Prop} {d:DefRec}
  (hn:l.most=some n) (hdf:d.params.defaults=[])
  (call:∀(w:World) (s₀ s₁:Shared) (mg mb:Str→Option Value) (fa:Addr) (o:Obj) (pm cd doc:Value) (a:Addr) (vs:List Value) (ns:List Int),
   Ground q loose [] XP w s₀ mg mb s₁.heap→YP w s₁.heap→
   s₁.heap.get? fa=some o→o.data= .func (docDef d.name d.params d.body d.scope pm cd doc)→s₁.heap.CodeRec cd d.name→mg d.name=some (.ref fa)→
   s₁.heap.get? a=some {cls:= .type "list",data:= .seq vs.toArray}→IntsAre vs ns→ns.length≤n→s₁.gens= #[]→
   codeAny (model l.prog w) callerA (.call (.ref fa) ⟨[.ref a],[]⟩) (fun r s'=>r= .ok (.ret (.bool true))∧OldK s₁.heap s'.heap∧s'.os=s₁.os∧AllBare s'.gens) s₁):
  WalkO q loose XP YP l.row.toRowW d [] (fun f vs=>PySem.call f vs):=by
 intro w s₀ s₁ mg mb G Y fa o pm cd doc dV kV ho hd hcd hD hmg hg args vals as hpre hlay hrd hwl hlo
 obtain rfl:dV= .none:=Dflts.none hD hdf
 obtain rfl:kV= .none:=Dflts.noKw hD
 obtain ⟨a,vs,ns,rfl,rfl,hobj,hints,hlen⟩:=zgu hn hpre hwl
 refine enter_call (codeAny_mono (call w s₀ s₁ mg mb fa o pm cd doc a vs ns G Y ho (fd_plain hd) hcd hmg hobj hints hlen hg) fun r s' hq=> ?_)
 obtain ⟨rfl,h2,h3,h4⟩:=hq
 exact ⟨.inl ⟨.bool true,.bool true,[],rfl,fun _=>rfl,.bool true,zgv l _,fun _=>⟨List.Pairwise.nil,fun _ hm=>(nomatch hm)⟩⟩,h2,h3,h4⟩


section
variable {prog:Program} {w:World} {A:Around} {E:Value→Shared→Prop} {s:Shared} {K:Frag}






end
end Att

namespace L2
open PySem PySem.Spec PyProof.Rows

theorem zbW:∀{vs:List Value} {ns:List Int},IntsAre vs ns→yr (ns.map V.int) vs
 |_,_,.nil=> .nil
 |_,_,.cons n t h=> .cons ⟨t,rfl⟩ (zbW h)

noncomputable def ziR (H:Hp):Prop:=∀b,H b=none∨∃o xs,H b=some (.frz o (.lst xs))

theorem zho {P:Program} {w:World} {K:PySem.W.Frag} {mg mb:Str→Option Value} {CX:CXT} {k:Nat} {fa a:Addr} {fd:FuncData} {x:Str} {sp:Sp} {s₁:Shared} {vs:List Value} {ns:List Int}
  (KX:K.In s₁.heap) (hns:s₁.heap.Ns mainGlobals mg) (hb:s₁.heap.Ns builtinsNs mb) (hbb:∀x:Str,x≠"__name__"→mb x=bootBuiltins x) (hlim:s₁.heap.NoLimit) (hg:s₁.gens= #[])
  (ha:s₁.heap.get? a=some {cls:= .type "list",data:= .seq vs.toArray}) (hi:IntsAre vs ns) (hl:ns.length≤sizeLine) (hr:vx k callerA)
  (F:∀base:Heap,K.In base→base.Ns mainGlobals mg→yB P w K mg base CX k fa fd [x] sp) (hbind:∀(s:Shared) (u:Value),BindsTo s fd ⟨[u],[]⟩ [(x,u)])
  (hsp:∀H:Hp,ziR H→SqX K H a (ns.map V.int)→sp [.ref a] H (fun v _=>v= .bl true) fun _ _ _=>False)
  (hCX:∀H e s',CX [] H s₁ (fun _ _ _=>False) e s'→False):
  codeAny (model P w) callerA (.call (.ref fa) ⟨[.ref a],[]⟩) (fun r s'=>r= .ok (.ret (.bool true))∧OldK s₁.heap s'.heap∧s'.os=s₁.os∧AllBare s'.gens) s₁:=by
 have rv:=zbW hi
 have lenV:=hi.length
 have core:∀H:Hp,ziR H→SqX K H a (ns.map V.int)→HOk P w H s₁.heap→(∀b,H b≠none→b=a)→(H a≠none→K.lookup a=none)→
   codeAny (model P w) callerA (.call (.ref fa) ⟨[.ref a],[]⟩) (fun r s'=>r= .ok (.ret (.bool true))∧OldK s₁.heap s'.heap∧s'.os=s₁.os∧AllBare s'.gens) s₁:=by
  intro H hO hS hok hA hK
  have base_of:∀{b:Addr} {o:Obj},s₁.heap.get? b=some o→H b=none→(zch s₁.heap H).get? b=some o:=fun e n=>zg4 e n
  have noA:∀{b:Addr} {o:Obj} {es:Array DictEntry} {ep:Nat},s₁.heap.get? b=some o→o.data= .dict es ep→H b=none:=fun {b o es ep} e d=>by
   cases q:H b with
   |none=>rfl
   |some u=>
    have e':b=a:=hA b (by rw [q];simp)
    subst e'
    rw [ha] at e;cases e
    have d':Data.seq vs.toArray _=Data.dict es ep:=d
    cases d'
  have nsK:∀{b:Addr} {m:Str→Option Value},s₁.heap.Ns b m→(zch s₁.heap H).Ns b m:=fun {b m} ⟨o,es,ep,e,d,r⟩=>⟨o,es,ep,base_of e (noA e d),d,r⟩
  have hKb:K.In (zch s₁.heap H):=fun b o e=>base_of (KX b o e) (by
   cases q:H b with
   |none=>rfl
   |some u=>
    have e':b=a:=hA b (by rw [q];simp)
    subst e'
    rw [hK (by rw [q];simp)] at e;cases e)
  have hM:Mod K mg (zch s₁.heap H):=⟨hKb,nsK hns,⟨mb,nsK hb,hbb⟩,let ⟨mc,h1,h2⟩:=hlim;⟨mc,nsK h1,h2⟩⟩
  have e0:zeI P w K mg (zch s₁.heap H) callerA [] s₁ H:=⟨rfl,hM,fun b o e=>ziz e,Nat.le_of_eq (zgg _ _),trivial,fun b hb=>absurd (show b∈([]:List Addr) from hb) (by simp),hok,.of_eq hg⟩
  refine codeAny_mono ((F _ hKb (nsK hns)).run callerA [] s₁ H ⟨[.ref a],[]⟩ [.ref a] [.ref a] _ _ hr e0 (hbind s₁ (.ref a)) (.cons rfl .nil) (hsp H hO hS)) fun r s' h=> ?_
  cases r with
  |error e=>exact (hCX H e s' h).elim
  |ok fl=>
   cases fl with
   |next=>exact False.elim h
   |brk=>exact False.elim h
   |cont=>exact False.elim h
   |ret u=>
    obtain ⟨v,H',os,bare,un,hok',r',q⟩:=h
    have q':v= .bl true:=q
    subst q'
    obtain rfl:u=Value.bool true:=r'
    refine ⟨rfl,OldK.of_keep fun b o e=> ?_,os,bare⟩
    cases q:H b with
    |none=>exact un.keep b o e q (by intro z;exact absurd (show b∈([]:List Addr) from z) (by simp)) (by simp)
    |some u=>
     rcases hO b with z|⟨ob,xs,z⟩
     ·rw [q] at z;cases z
     ·have z2:=un.frzs b ob _ z
      obtain ⟨e1,_⟩:=hok b _ z
      obtain ⟨e2,_⟩:=hok' b _ z2
      rw [e] at e1;cases e1
      exact e2
 cases hk:K.lookup a with
 |some o=>
  have e:=KX a o hk
  rw [ha] at e
  cases e
  refine core (fun _=>none) (fun _=> .inl rfl) (.inr ⟨vs.toArray,_,hk,by rw [List.size_toArray,lenV];exact hl,by simpa using rv⟩) (fun b u z=>by have z':(none:Option HO)=some u:=z;cases z') (fun b z=>absurd rfl z) fun z=>absurd rfl z
 |none=>
  refine core (fun b=>if b=a then some (.frz {cls:= .type "list",data:= .seq vs.toArray} (.lst (ns.map V.int))) else none) (fun b=> ?_) (.inl (.inr ⟨{cls:= .type "list",data:= .seq vs.toArray},if_pos rfl⟩)) (fun b u z=> ?_) (fun b z=> ?_) fun _=>hk
  ·by_cases hb:b=a
   ·exact .inr ⟨_,_,if_pos hb⟩
   ·exact .inl (if_neg hb)
  ·by_cases hb:b=a
   ·have z':=(if_pos hb).symm.trans z
    cases z'
    subst hb
    exact ⟨ha,by rw [List.length_map];exact hl,vs,_,rv,ha⟩
   ·have z':=(if_neg hb).symm.trans z
    cases z'
  ·by_cases hb:b=a
   ·exact hb
   ·exact absurd (if_neg hb) z
end L2

namespace L2
open PySem PySem.Spec PyProof.Rows

noncomputable abbrev KOf {K:PySem.W.Frag} {h:Heap} (_:K.In h):PySem.W.Frag:=K

theorem ziS {l:PySem.W.OpenLaw} {n k:Nat} {q:Program} {loose:List Str} {XP:(Str→Option Value)→Heap→Prop} {YP:World→Heap→Prop} {d:DefRec} {K:Params→PySem.W.Frag} {CX:World→CXT} {sp:World→Sp} {x:Str}
  (hn:l.most=some n) (hn2:n≤sizeLine) (hdf:d.params.defaults=[]) (hr:vx k callerA)
  (hY:∀(w:World) (h:Heap),YP w h→(K w.params).In h)
  (F:∀(w:World) (mg:Str→Option Value) (fa:Addr) (h:Heap),(K w.params).In h→h.Ns mainGlobals mg→mg d.name=some (.ref fa)→
   ∃fd:FuncData,(∀(s:Shared) (u:Value),BindsTo s fd ⟨[u],[]⟩ [(x,u)])∧
    ∀base:Heap,(K w.params).In base→base.Ns mainGlobals mg→yB l.prog w (K w.params) mg base (CX w) k fa fd [x] (sp w))
  (hsp:∀(w:World) (H:Hp) (a:Addr) (ns:List Int),ns.length≤n→ziR H→SqX (K w.params) H a (ns.map V.int)→sp w [.ref a] H (fun v _=>v= .bl true) fun _ _ _=>False)
  (hCX:∀(w:World) (H:Hp) (s:Shared) (e:Value) (s':Shared),CX w [] H s (fun _ _ _=>False) e s'→False):
  PySem.W.WalkO q loose XP YP l.row.toRowW d [] (fun f vs=>PySem.call f vs):=by
 refine Att.zdt hn hdf fun w s₀ s₁ mg mb fa o pm cd doc a vs ns G Y ho hd hcd hmg hobj hints hlen hg=> ?_
 have KX:=hY w _ Y
 obtain ⟨fd,hb,hF⟩:=F w mg fa _ KX G.T.g hmg
 exact zho KX G.T.g G.T.b G.T.builtins G.T.nolimit hg hobj hints (Nat.le_trans hlen hn2) hr hF hb (fun H hO hS=>hsp w H a ns hlen hO hS) fun H e s'=>hCX w H s₁ e s'
end L2

/- THE LAST THEOREM (shape; LID, My.* are yours):
   My.Adr: a structure of the addresses that your layer names (classes, functions); My.Txt K t: a structure (Prop) of the equations over K;
   My.txt_mk : {K} {implicit addresses ..} (e1 : nsIn K mainGlobals "law" = some (some (.ref f))) (e2 : K.lookup f = some ⟨oc, od, .func (fnOf "law" "law" params body scope dV kV doc pm an cdv ct), sl⟩) (e3 : codeIn K cdv "law" = true) .. : ∃ t, My.Txt K t

set_option maxHeartbeats 0 in
theorem PySem.Challenge.cw_LID_holds : PySem.Challenge.rw_LID.Holds := by
 w_on; o_law; k_head; (case hw => w_witness2)
 k_fill
 refine L2.walk_of (l := PySem.Challenge.rw_LID) (n := 63) (k := 40) (x := "script") (CX := fun w => ..) (sp := fun _ => My.sp_law) rfl (by decide) rfl ⟨rfl, by decide, by decide⟩ (fun w h Y => PySem.W.kIn_of Y) ?F ?S ?C
 case F =>
  intro w mg fa h KX G hmg
  have T : ∃ t, My.Txt (L2.KOf KX) t := by
   dsimp only [L2.KOf]                          -- K must stand as «<heap const> w.params» for k_is
   refine' My.txt_mk ?e1 ?e2 ?e3 ..
   (case e1 => PySem.W.k_is)                    -- in the order: a name -> its address -> its object -> its parts
   (case e2 => PySem.W.k_is)
   ..
  obtain ⟨t, T⟩ := T
  have e0 := hmg.symm.trans (PySem.W.mg_of KX G T.law)
  cases e0                                       -- fa is the law's own address
  exact ⟨_, fun s u => .of_eq rfl, fun base kb nb => My.law_fn T kb nb⟩     -- if «.of_eq rfl» comes too early: refine' ⟨_, ?b, fun base kb nb => My.law_fn T kb nb⟩; exact fun s u => .of_eq rfl
 case S => exact fun w H a ns hl hO hS => ..
 case C => exact ..
(the tactic k_is has no namespace: write k_is) -/

namespace L2
open PySem PySem.Spec PyProof.Rows

noncomputable def zae (s:Stmt) (j:Nat):Stmt:=match s with
 | .ClassDef _ _ _ body _ _ _ _ _ _ _=>body.getD j (.Pass ⟨0,0,0,0⟩)
 |_=> .Pass ⟨0,0,0,0⟩
noncomputable def Xs (s:Stmt):Arguments:=match s with
 | .FunctionDef _ a _ _ _ _ _ _ _ _=>a
 |_=>{posonlyargs:=[],args:=[],vararg:=none,kwonlyargs:=[],kw_defaults:=[],kwarg:=none,defaults:=[]}
noncomputable def Yk (s:Stmt):List Stmt:=match s with
 | .FunctionDef _ _ b _ _ _ _ _ _ _=>b
 |_=>[]
noncomputable def zt (s:Stmt):Scope:=match s with
 | .FunctionDef _ _ _ _ _ _ sc _ _ _=>sc
 |_=>{kind:= .function,names:=[],isGenerator:=false,isCoroutine:=false}

noncomputable abbrev CX0:CXT:=fun _ _ _ _ _ _=>False
noncomputable abbrev E0:XK:=fun _ _ _=>False

structure Fun (K:PySem.W.Frag) (x qual:Str) (st:Stmt) (f:Addr) (fd:FuncData):Prop where
 ex:∃(oc:Value) (od:Option Addr) (kV doc pm:Value) (an:Option Addr) (cdv ct:Value) (osl:Array (Option Value)),
  fd=PySem.W.fnOf x qual (Xs st) (Yk st) (zt st) .none kV doc pm an cdv ct∧K.lookup f=some ⟨oc,od,.func fd,osl⟩∧PySem.W.codeIn K cdv qual=true
 kp:PySem.W.keepIn K (.ref f)=true
section
variable {P:Program} {w:World} {K:PySem.W.Frag} {mg:Str→Option Value} {base:Heap}
theorem Fun.binds {x qual:Str} {st:Stmt} {f:Addr} {fd:FuncData} {ps:List Str} (F:Fun K x qual st f fd)
  (h:∀(kV doc pm:Value) (an:Option Addr) (cdv ct:Value) (us:List Value),us.length=ps.length→bindArgs (PySem.W.fnOf x qual (Xs st) (Yk st) (zt st) .none kV doc pm an cdv ct) ⟨us,[]⟩=pure (ps.zip us)):Wk K fd ps []:=by
 obtain ⟨oc,od,kV,doc,pm,an,cdv,ct,osl,rfl,lk,hcd⟩:=F.ex
 exact .all (h kV doc pm an cdv ct)
theorem zhp {x qual:Str} {st:Stmt} {f:Addr} {oc:Value} {od an:Option Addr} {osl:Array (Option Value)} {kV doc pm cdv ct:Value} (l:K.lookup f=some ⟨oc,od,.func (PySem.W.fnOf x qual (Xs st) (Yk st) (zt st) .none kV doc pm an cdv ct),osl⟩)
  (c:PySem.W.codeIn K cdv qual=true) (k:PySem.W.keepIn K (.ref f)=true):Fun K x qual st f (PySem.W.fnOf x qual (Xs st) (Yk st) (zt st) .none kV doc pm an cdv ct):=⟨⟨oc,od,kV,doc,pm,an,cdv,ct,osl,rfl,l,c⟩,k⟩
end
theorem zhq {A:Around} {k:Nat} (hr:vx k A):A.units+1<cLine:=Nat.lt_of_le_of_lt (Nat.add_le_add_left (by decide:1≤64) _) hr.units

section
variable {X:Cx}
theorem pv (i:Nat) {x:Str} {pos:Pos} (hN:X.N[i]? =some x:=by rfl) (hv:Vis X.env.scope x:=by first|exact Or.inl rfl|exact Or.inr (Or.inl rfl)|exact Or.inr (Or.inr rfl)) (hd:(x==("__debug__":Str))=false:=by decide)
  (hcd:(x==("__classdict__":Str))=false:=by decide):PE X (.Name x pos) (zkr i):=zks hN hv hd hcd
end


noncomputable def VZ (H H':Hp):Prop:=∀b o,H b=some o→H' b=some o
theorem VZ.refl (H:Hp):VZ H H:=fun _ _ h=>h

section
variable {κ:Type} [DecidableEq κ]
end
end L2
namespace L2
open PySem PySem.Spec PyProof.Rows

theorem Wp {prog:Program} {w:World} {A:Around} {elt iter tg:Expr} {ifs:List Expr} {scope:Scope} {pos:Pos} {it acc:Value} {env:Env} {s:Shared} {R:Result→Shared→Prop} (I:Nat→Shared→Prop)
  (turn:∀n s,I n s→wpAny (model prog w) A (pyNext it) (fun r s₁=>match r with
   |none=>R (.ok .next) s₁
   |some v=>wpAny (model prog w) A (letOwnedTupleGo tg it v) (fun _ s₁'=>wpAny (model prog w) A (assign tg env v) (fun _ s₂=>
     wpAny (model prog w) A (forIn ifs true fun c r=>if r=true then do let ok ←isTrue c env (eval c env);pure (ForInStep.yield ok) else pure (ForInStep.yield r)) (fun ok s₃=>
      if ok=true then wpAny (model prog w) A (eval elt env) (fun x s₄=>
       wpAny (model prog w) A (call (.builtin "list.append") [acc,x]) (fun _ s₅=>∃m,m<n∧I m s₅) (fun _ _=>False) s₄) (fun _ _=>False) s₃
      else ∃m,m<n∧I m s₃) (fun _ _=>False) s₂)
     (fun _ _=>False) s₁') (fun _ _=>False) s₁) (fun _ _=>False) s)
  (n:Nat) (h:I n s):codeAny (model prog w) A (.compLoop (.ListComp elt [⟨tg,iter,ifs,0⟩] scope pos) 0 it acc env) R s:=by
 refine codeAny_loop rfl I (fun n s hI=> ?_) n h
 show wpAny _ A ((compTurn (.ListComp elt [⟨tg,iter,ifs,0⟩] scope pos) 0 it acc env).onRaise (fun x=>do noteFrame x env;theTreesLotGoes x)) _ _ s
 refine wpAny_noted ?_
 rw [compTurn_list]
 refine wpAny_bind (wpAny_standAt (wpAny_bind (wpAny_mono (turn n s hI) (fun r s₁ h₁=> ?_) fun _ _ h'=>h'.elim)))
 cases r with
 |none=>exact wpAny_pure h₁
 |some v=>
  refine wpAny_bind (wpAny_mono h₁ (fun _ s₁' h₁'=> ?_) fun _ _ h'=>h'.elim)
  refine wpAny_bind (wpAny_mono h₁' (fun _ s₂ h₂=>wpAny_bind (wpAny_mono h₂ (fun ok s₃ h₃=> ?_) fun _ _ h'=>h'.elim)) fun _ _ h'=>h'.elim)
  cases ok with
  |false=>exact wpAny_pure ⟨rfl,h₃⟩
  |true=>
   exact wpAny_bind (wpAny_bind (wpAny_mono h₃ (fun x s₄ h₄=>wpAny_bind (wpAny_mono h₄ (fun _ s₅ h₅=>wpAny_pure (wpAny_pure ⟨rfl,h₅⟩)) fun _ _ h'=>h'.elim)) fun _ _ h'=>h'.elim))

noncomputable def zbm (env:Env):List (Str×NameKind)→List (Str×Addr)→List (Str×Addr)
 |[],cs=>cs
 |(n,k)::r,cs=>zbm env r (if k== .free then (match env.cells.lookup n with|some c=>(n,c)::cs|none=>cs) else cs)
noncomputable def zdu (sc:Scope) (env:Env):List (Str×Addr):=zbm env sc.names []
theorem zdv {env:Env}:∀{ns:List (Str×NameKind)} {cs:List (Str×Addr)},(∀p∈cs,env.cells.lookup p.1=some p.2)→∀p∈zbm env ns cs,env.cells.lookup p.1=some p.2
 |[],_,h=>h
 |(n,k)::r,cs,h=>by
  unfold zbm
  refine zdv ?_
  by_cases hk:(k== .free)=true
  ·rw [if_pos hk]
   cases e:env.cells.lookup n with
   |none=>exact h
   |some c=>
    intro p hp
    rcases List.mem_cons.mp hp with rfl|hp
    ·exact e
    ·exact h p hp
  ·rw [if_neg hk];exact h
theorem zdw {env:Env}:∀{ns:List (Str×NameKind)} {cs:List (Str×Addr)} {p:Str×Addr},p∈cs→p∈zbm env ns cs
 |[],_,_,h=>h
 |(n,k)::r,cs,p,h=>by
  unfold zbm
  refine zdw ?_
  by_cases hk:(k== .free)=true
  ·rw [if_pos hk]
   cases env.cells.lookup n with
   |none=>exact h
   |some c=>exact List.mem_cons_of_mem _ h
  ·rw [if_neg hk];exact h
theorem zdx {env:Env} {x:Str} {c:Addr} (e:env.cells.lookup x=some c):∀{ns:List (Str×NameKind)} {cs:List (Str×Addr)},(x,NameKind.free)∈ns→(x,c)∈zbm env ns cs
 |[],_,h=>by cases h
 |(n,k)::r,cs,h=>by
  unfold zbm
  rcases List.mem_cons.mp h with h|h
  ·injection h with h1 h2
   subst h1 h2
   refine zdw ?_
   rw [if_pos (by rfl),e]
   exact List.mem_cons_self
  ·exact zdx e h
theorem Vo:∀{l:List (Str×Addr)} {x:Str} {c:Addr},(x,c)∈l→∃d,l.lookup x=some d
 |[],_,_,h=>by cases h
 |(n,d)::r,x,c,h=>by
  rw [List.lookup_cons]
  cases e:x==n with
  |true=>exact ⟨d,rfl⟩
  |false=>
   rcases List.mem_cons.mp h with h|h
   ·injection h with h1 h2
    subst h1
    simp at e
   ·exact Vo h
theorem vy {sc:Scope} {env:Env} {x:Str} {c:Addr} (e:(zdu sc env).lookup x=some c):env.cells.lookup x=some c:=
 zdv (cs:=[]) (fun p hp=>by cases hp) (x,c) (PySem.mem_of_lookup e)
theorem zdy {sc:Scope} {env:Env} {x:Str} {c:Addr} (h:(x,NameKind.free)∈sc.names) (e:env.cells.lookup x=some c):(zdu sc env).lookup x=some c:=by
 obtain ⟨d,hd⟩:=Vo (zdx (cs:=[]) e h)
 have:=vy (sc:=sc) hd
 rw [e] at this
 cases this
 exact hd
theorem zbn {sc:Scope} {env:Env} (h:∀y∈sc.names,y.2= .free→∃c,env.cells.lookup y.1=some c):closureFor sc env=pure (zdu sc env):=by
 unfold zdu closureFor
 generalize sc.names=ns at h
 suffices hh:∀cs:List (Str×Addr),(forIn ns cs (fun (x:Str×NameKind) (r:List (Str×Addr))=>
    (match x with
     |(name,kind)=>if (kind==NameKind.free)=true then (cellOf env name>>=fun c=>pure (ForInStep.yield ((name,c)::r))) else pure (ForInStep.yield r):Sem (ForInStep (List (Str×Addr)))))>>=fun r=>pure r:Sem (List (Str×Addr)))=pure (zbm env ns cs) from hh []
 induction ns with
 |nil=>intro cs;rfl
 |cons p r ih=>
  intro cs
  obtain ⟨n,k⟩:=p
  rw [List.forIn_cons]
  unfold zbm
  have ih':=ih fun y hy=>h y (List.mem_cons_of_mem _ hy)
  by_cases hk:(k== .free)=true
  ·obtain ⟨c,hc⟩:=h (n,k) List.mem_cons_self (by simpa using hk)
   have hc:env.cells.lookup n=some c:=hc
   have h1:cellOf env n=pure c:=by unfold cellOf;rw [hc]
   simp only [hk,if_true,h1,hc,pure_bind]
   exact ih' _
  ·simp only [hk,if_false,pure_bind]
   exact ih' _

noncomputable def wb (X:Cx) (N':List Str) (sc:Scope) (C:Addr) (s₀:Shared) (H₀:Hp) (fp:List Addr):Cx where
 prog:=X.prog
 w:=X.w
 K:=X.K
 mg:=X.mg
 base:=X.base
 A:=X.A
 N:=N'
 s₀:=s₀
 H₀:=H₀
 env:=compEnvC sc (zdu sc X.env) C X.env
 outer:=X.stack
 stack:=X.stack
 ex:=fp
 fn:=fun _=>false
 calm:=X.calm
 pn:=[]
 xe:=fun _ _=>False

theorem Zq {env:Env}:∀{names:List (Str×NameKind)} {x:Str},names.lookup x=some .free→
  (names.map fun (n,k)=>if (k==NameKind.free&&env.scope.kind== .function&&env.kindOf n==some .cell) then (n,NameKind.cell) else (n,k)).lookup x=some .cell∨
  (names.map fun (n,k)=>if (k==NameKind.free&&env.scope.kind== .function&&env.kindOf n==some .cell) then (n,NameKind.cell) else (n,k)).lookup x=some .free
 |[],_,h=>by simp at h
 |(n,k)::r,x,h=>by
  have ih:= @Zq env r x
  show List.lookup x ((if (k==NameKind.free&&env.scope.kind== .function&&env.kindOf n==some .cell)=true then (n,NameKind.cell) else (n,k))::_)=_∨List.lookup x ((if (k==NameKind.free&&env.scope.kind== .function&&env.kindOf n==some .cell)=true then (n,NameKind.cell) else (n,k))::_)=_
  cases hx:x==n with
  |true=>
   simp only [List.lookup_cons,hx] at h
   cases h
   by_cases hc:(NameKind.free==NameKind.free&&env.scope.kind== .function&&env.kindOf n==some .cell)=true
   ·rw [if_pos hc];left;simp [List.lookup_cons,hx]
   ·rw [if_neg hc];right;simp [List.lookup_cons,hx]
  |false=>
   simp only [List.lookup_cons,hx] at h
   by_cases hc:(k==NameKind.free&&env.scope.kind== .function&&env.kindOf n==some .cell)=true
   ·rw [if_pos hc];simp only [List.lookup_cons,hx];exact ih h
   ·rw [if_neg hc];simp only [List.lookup_cons,hx];exact ih h
theorem Yl {env:Env} {x:Str} {k:NameKind} (hk:k= .cell∨k= .free):∀{names:List (Str×NameKind)},(∀y∈names,y.2≠ .cell)→
  (names.map fun (n,k)=>if (k==NameKind.free&&env.scope.kind== .function&&env.kindOf n==some .cell) then (n,NameKind.cell) else (n,k)).lookup x=some k→(x,NameKind.free)∈names
 |[],_,h=>by simp at h
 |(n,j)::r,hc,h=>by
  have hr:∀y∈r,y.2≠ .cell:=fun y hy=>hc y (List.mem_cons_of_mem _ hy)
  have h:List.lookup x ((if (j==NameKind.free&&env.scope.kind== .function&&env.kindOf n==some .cell)=true then (n,NameKind.cell) else (n,j))::_)=_:=h
  by_cases hj:(j==NameKind.free&&env.scope.kind== .function&&env.kindOf n==some .cell)=true
  ·rw [if_pos hj,List.lookup_cons] at h
   have hj':j= .free:=by
    simp only [Bool.and_eq_true,beq_iff_eq] at hj
    exact hj.1.1
   cases hx:x==n with
   |true=>
    rw [eq_of_beq hx,←hj']
    exact List.mem_cons_self
   |false=>
    rw [hx] at h
    exact List.mem_cons_of_mem _ (Yl hk hr h)
  ·rw [if_neg hj,List.lookup_cons] at h
   cases hx:x==n with
   |true=>
    rw [hx] at h
    have h':j=k:=Option.some.inj h
    have hjc:j≠ .cell:=hc (n,j) List.mem_cons_self
    rcases hk with e|e
    ·exact absurd (h'.trans e) hjc
    ·rw [eq_of_beq hx]
     have:j= .free:=h'.trans e
     rw [this]
     exact List.mem_cons_self
   |false=>
    rw [hx] at h
    exact List.mem_cons_of_mem _ (Yl hk hr h)

noncomputable def wT (X:Cx) (sc:Scope):List (Option Nat)→List Str→Prop
 |[],[]=>True
 |none::r,_::n=>wT X sc r n
 |some i::r,x::n=>(X.N[i]? =some x∧sc.names.lookup x=some .free)∧wT X sc r n
 |_,_=>False
noncomputable def vX (cap:List (Option Nat)) (σ:St):St:=cap.map fun o=>o.bind fun i=>(σ[i]?).join
theorem wT.at {X:Cx} {sc:Scope}:∀{cap:List (Option Nat)} {N':List Str},wT X sc cap N'→∀(j i:Nat) (x:Str),cap[j]? =some (some i)→N'[j]? =some x→X.N[i]? =some x∧sc.names.lookup x=some .free
 |[],[],_,j,i,x,h,_=>by simp at h
 |none::r,y::n,c,0,i,x,h,_=>by simp at h
 |none::r,y::n,c,j+1,i,x,h,h2=>wT.at (cap:=r) c j i x (by simpa using h) (by simpa using h2)
 |some k::r,y::n,c,0,i,x,h,h2=>by
  simp at h h2
  subst h h2
  exact c.1
 |some k::r,y::n,c,j+1,i,x,h,h2=>wT.at (cap:=r) c.2 j i x (by simpa using h) (by simpa using h2)
theorem wT.len {X:Cx} {sc:Scope}:∀{cap:List (Option Nat)} {N':List Str},wT X sc cap N'→cap.length=N'.length
 |[],[],_=>rfl
 |none::r,y::n,c=>by simpa using wT.len (cap:=r) (N':=n) c
 |some k::r,y::n,c=>by simpa using wT.len (cap:=r) (N':=n) c.2
theorem zbX {cap:List (Option Nat)} {σ:St} {j:Nat} {v:V} (h:(vX cap σ)[j]? =some (some v)):∃i,cap[j]? =some (some i)∧σ[i]? =some (some v):=by
 unfold vX at h
 rw [List.getElem?_map] at h
 cases e:cap[j]? with
 |none=>rw [e] at h;cases h
 |some o=>
  rw [e] at h
  cases o with
  |none=>simp at h
  |some i=>
   refine ⟨i,rfl,?_⟩
   simp only [Option.map_some,Option.bind_some,Option.some.injEq] at h
   cases q:σ[i]? with
   |none=>rw [q] at h;simp at h
   |some z=>rw [q] at h;simp at h;rw [h]

noncomputable def PTs (X:Cx) (ifs:List Expr) (t:TT):Prop:=
 ∀(pins:List (Addr×Obj)) (s:Shared) (σ:St) (H:Hp) (Q:Bool→Hp→Prop),Inv X pins σ H s→t σ H Q→
  wpAny (model X.prog X.w) X.A (forIn ifs true fun c r=>if r=true then do let ok ←isTrue c X.env (eval c X.env);pure (ForInStep.yield ok) else pure (ForInStep.yield r)) (TP X pins σ Q) X.xe s
theorem xa {X:Cx}:PTs X [] (fun _ H Q=>Q true H):=fun _ _ _ H _ I h=>wpAny_tests_nil ⟨H,I,h⟩

noncomputable def zhr (cap:List (Option Nat)) (g:TG) (tt:TT) (te:TE) (J:It) (σ:St) (acc:Addr) (H0:Hp) (Q:Hp→Prop):Prop:=
 ∃W:Nat→Nat→List V→Hp→Prop,(∃m,W 0 m [] (upd H0 acc (.lst [])))∧∀i m ys H,W i m ys H→
  (J.stop i H∧Q H)∨(J.go i H∧∀x H',J.yld i H x H'→g x (vX cap σ) H' fun σ2 H2=>tt σ2 H2 fun b H3=>
   if b=true then te σ2 H3 fun v H4=>H4 acc=some (.lst ys)∧ys.length<sizeLine∧∃m',m'<m∧W (i+1) m' (ys++[v]) (upd H4 acc (.lst (ys++[v])))
   else ∃m',m'<m∧W (i+1) m' ys H3)
noncomputable def zhs (cap:List (Option Nat)) (wi:TI) (g:TG) (tt:TT) (te:TE):TE:=fun σ H Q=>wi σ H fun J H1=>∀acc,H1 acc=none→zhr cap g tt te J σ acc H1 fun H2=>Q (.ref acc) H2
noncomputable def zdz (i:Nat) (cap:List (Option Nat)) (wi:TI) (g:TG) (tt:TT) (te:TE):TS:=fun D σ H=>wi σ H fun J H1=>∀acc,H1 acc=none→zhr cap g tt te J σ acc H1 fun H2=>D.nx (σ.set i (some (.ref acc))) H2

structure WR (X:Cx) (sc:Scope):Prop where
 cell:∀y∈sc.names,y.2≠ .cell
 kind:sc.kind= .function
 names:∀y∈sc.names,y.2= .local→sc.names.lookup y.1=some .local
 free:∀y∈sc.names,y.2= .free→X.env.kindOf y.1=some .cell∨X.env.kindOf y.1=some .free

section
variable {X:Cx} {elt tg iter:Expr} {ifs:List Expr} {sc:Scope} {pos:Pos} {wi:TI} {g:TG} {tt:TT} {te:TE} {N':List Str} {cap:List (Option Nat)}

theorem Inv.closure {pins:List (Addr×Obj)} {σ:St} {H:Hp} {s:Shared} (I:Inv X pins σ H s) (B:WR X sc):closureFor sc X.env=pure (zdu sc X.env):=
 zbn fun y hy e=>I.ok.has y.1 (B.free y hy e)

theorem zgw {pins:List (Addr×Obj)} {σ:St} {H:Hp} {s:Shared} {h₁:Heap} {t':Nat} {fp:List Addr} {acc C:Addr} {s₀:Shared} {m:Str→Option Value}
  (I:Inv X pins σ H s) (B:WR X sc) (cp:wT X sc cap N') (hf:∀b∈fp,zbj X pins H b) (hfo:∀b∈fp,b<s.heap.objs.size) (hacc:acc=s.heap.objs.size) (ho:s₀.os=s.os) (hgen:s₀.gens=s.gens)
  (h0:s₀.heap=s.heap.push {cls:= .type "list",data:= .seq #[]}) (hC:C=s₀.heap.objs.size)
  (hns:h₁.Ns C m) (hsb:∀b o,s₀.heap.get? b=some o→h₁.get? b=some o):
  Inv (wb X N' sc C s₀ (upd H acc (.lst [])) fp) [] (vX cap σ) (upd H acc (.lst [])) {s₀ with heap:=h₁,toks:=t'}:=by
 have hfr:H acc=none:=I.hok.fresh (Nat.le_of_eq hacc.symm)
 have up0:∀b o,s.heap.get? b=some o→s₀.heap.get? b=some o:=fun b o e=>by rw [h0];exact Heap.get?_push_of_some _ e
 have sz0:s₀.heap.objs.size=s.heap.objs.size+1:=by rw [h0,Heap.size_push]
 have I0:Inv X pins σ (upd H acc (.lst [])) {s with heap:=s₀.heap,toks:=s.toks}:=I.laid up0 (Nat.le_of_eq hacc.symm) ⟨Nat.zero_le _,[],0,.nil,by rw [h0,hacc];exact Heap.get?_push_size _ rfl⟩
 have CX':∀b,b<s.heap.objs.size→b≠C:=fun b hb=>Nat.ne_of_lt (by rw [hC,sz0];exact Nat.lt_succ_of_lt hb)
 have CA:∀b,b<s.heap.objs.size→b≠acc:=fun b hb=>Nat.ne_of_lt (by rw [hacc];exact hb)
 have cellLt:∀x c,X.env.cells.lookup x=some c→c<s.heap.objs.size:=fun x c e=>by
  obtain ⟨v,o,q,_⟩:=I.cell x c e
  exact Heap.lt_size q
 refine ⟨⟨I.ok.mod,B.kind,I.ok.glob,I.ok.blt,Nat.le_of_eq hC.symm,fun x y c h1 h2=>I.ok.inj x y c (vy h1) (vy h2),fun x hx=> ?_,fun x c h=>Bool.noConfusion h,I.ok.hd,I.ok.frames,.inl rfl,fun b hb=>⟨CX' b (hfo b hb),fun x c e=>(hf b hb).2.2.2.2.1 x c (vy e)⟩,
   fun b o e=> ?_,?_,fun b o e hb=> ?_,fun b hb hz=> ?_,I0.stack,I0.stkFree⟩,
  rfl,?_,Un.kept hsb,⟨m,hns,fun j x v h1 h2 h3=> ?_⟩,fun x c e=> ?_,?_,fun x c e=> ?_,fun p hp=>absurd (show p∈([]:List (Addr×Obj)) from hp) (by simp),I0.hok.kept hsb,?_⟩
 ·have hm:(x,NameKind.free)∈sc.names:=by
   rcases hx with hx|hx
   ·exact Yl (env:=X.env) (.inl rfl) B.cell hx
   ·exact Yl (env:=X.env) (.inr rfl) B.cell hx
  obtain ⟨c,hc⟩:=I.ok.has x (B.free _ hm rfl)
  exact ⟨c,zdy hm hc⟩
 ·obtain ⟨e1,e2⟩:=I.bs b o e
  exact ⟨up0 b o e1,by show upd H acc (.lst []) b=none;rw [yG (CA b (Heap.lt_size e1))];exact e2⟩
 ·exact Nat.le_trans I.ok.bsz (Nat.le_trans I.sz (by show _≤s₀.heap.objs.size;omega))
 ·rcases (hf b hb).2.2.2.1 with z|z
  ·exact I.ok.noex b o e z
  ·exact absurd (Nat.lt_of_lt_of_le (Heap.lt_size e) (Nat.le_trans I.ok.bsz z)) (Nat.lt_irrefl _)
 ·rcases List.mem_cons.mp (I.stkSub b hz) with e|e
  ·exact (hf b hb).2.1 e
  ·exact (hf b hb).2.2.1 e
 ·show AllBare s₀.gens
  rw [hgen];exact I.bare
 ·obtain ⟨i,e1,e2⟩:=zbX h2
  obtain ⟨e3,e4⟩:=cp.at j i x e1 h1
  have hm:(x,NameKind.free)∈sc.names:=PySem.mem_of_lookup e4
  have hk:=B.free _ hm rfl
  obtain ⟨m0,hn0,hl⟩:=I.loc
  obtain ⟨u,r,l⟩:=hl i x v e3 e2 (by rcases hk with k|k;exact .inr (.inl k);exact .inr (.inr k))
  refine ⟨u,r,.inr ?_⟩
  rcases l with ⟨k,_⟩|⟨_,c,hc,o,q,d⟩
  ·rcases hk with k'|k'
   ·rw [k] at k';cases k'
   ·rw [k] at k';cases k'
  ·exact ⟨Zq (env:=X.env) e4,c,zdy hm hc,o,hsb c o (up0 c o q),d⟩
 ·obtain ⟨v,o,q,d⟩:=I.cell x c (vy e)
  exact ⟨v,o,hsb c o (up0 c o q),d⟩
 ·show upd H acc (.lst []) C=none
  rw [yG (by rw [hC,hacc,sz0];exact Nat.succ_ne_self _)]
  exact I.hok.fresh (by rw [hC,sz0];exact Nat.le_succ _)
 ·show upd H acc (.lst []) c=none
  rw [yG (CA c (cellLt x c (vy e)))]
  exact I.freeC x c (vy e)
 ·show (vX cap σ).length=N'.length
  unfold vX
  rw [List.length_map]
  exact cp.len

noncomputable def Kp (σ0 σ:St):Prop:=σ.length=σ0.length∧∀(j:Nat) v,σ0[j]? =some (some v)→σ[j]? =some (some v)
noncomputable def zgx (cap:List (Option Nat)) (g:TG):Prop:=∀σ0 σ x H Q,Kp (vX cap σ0) σ→g x σ H Q→g x σ H fun σ2 H2=>Q σ2 H2∧Kp (vX cap σ0) σ2
noncomputable def zfI (cap:List (Option Nat)) (g:TGs):Prop:=∀σ0 σ x H Q,Kp (vX cap σ0) σ→g x σ H Q→g x σ H fun σ2 H2=>Q σ2 H2∧Kp (vX cap σ0) σ2
theorem yn {i:Nat} (h:cap[i]? =some none):zgx cap (zbQ i):=fun σ0 σ x H Q k q=>by
 refine ⟨q,by rw [List.length_set];exact k.1,fun j v e=> ?_⟩
 have:j≠i:=by
  rintro rfl
  obtain ⟨i',e1,_⟩:=zbX e
  rw [h] at e1;cases e1
 rw [List.getElem?_set_ne (Ne.symm this)]
 exact k.2 j v e
theorem UU:zfI cap zkx:=fun σ0 σ x H Q k ⟨e,q⟩=>⟨e,q,k⟩
theorem vz {t:TG} {u:TGs} (h1:zgx cap t) (h2:zfI cap u) (mono:∀v σ H (Q Q':St→Hp→Prop),(∀σ H,Q σ H→Q' σ H)→t v σ H Q→t v σ H Q'):zfI cap (zg8 t u):=fun σ0 σ x H Q k ⟨v,r,e,q⟩=>
 ⟨v,r,e,mono v σ H _ _ (fun σ' H' ⟨q',k'⟩=>h2 σ0 σ' r H' Q k' q') (h1 σ0 σ v H _ k q)⟩
theorem vA {i:Nat}:∀v σ H (Q Q':St→Hp→Prop),(∀σ H,Q σ H→Q' σ H)→zbQ i v σ H Q→zbQ i v σ H Q':=fun _ _ _ _ _ f q=>f _ _ q
theorem zaw {K:PySem.W.Frag} {n:Nat} {t:TGs} (h:zfI cap t):zgx cap (ziB K n t):=fun σ0 σ x H Q k ⟨a,xs,e,hq,hl,q⟩=>⟨a,xs,e,hq,hl,h σ0 σ xs H Q k q⟩

theorem zbY {pins:List (Addr×Obj)} {σ:St} {H:Hp} {s:Shared} {use:Option (Value→Sem Unit)} {Q:Value→Shared→Prop} {R:Addr→Hp→Prop} {p:Pos}
  (hc:X.calm=true) (B:WR X sc) (cp:wT X sc cap N') (hi:PI X tg iter wi) (ow:zgx cap g)
  (hg:∀C s₀ H₀ fp,PG (wb X N' sc C s₀ H₀ fp) tg g) (ht:∀C s₀ H₀ fp,PTs (wb X N' sc C s₀ H₀ fp) ifs tt) (he:∀C s₀ H₀ fp,PE (wb X N' sc C s₀ H₀ fp) elt te)
  (hs:∀x,foldedSetIterable iter X.env x=pure x)
  (I:Inv X pins σ H s) (h:wi σ H fun J H1=>∀acc,H1 acc=none→zhr cap g tt te J σ acc H1 (R acc))
  (fin:∀(acc C:Addr) (H':Hp) (s':Shared) (m:Str→Option Value),Inv X pins σ H' s'→s'.heap.Ns C m→C≠X.env.locals→
   (∀{σ':St} {s'':Shared},Inv X pins σ' H' s''→∀h',Heap.SameBut C s''.heap h'→Inv X pins σ' H' {s'' with heap:=h'})→
   R acc H'→compPost (model X.prog X.w) X.A X.xe use Q (.ref acc) C (.ok .next) s'):
  wpAny (model X.prog X.w) X.A (comprehension (.ListComp elt [⟨tg,iter,ifs,0⟩] sc pos) sc X.env p (newList []) false (eval iter X.env) use) Q X.xe s:=by
 refine wpAny_comprehension_free rfl hs (I.closure B) B.kind B.names (thn (hi pins s σ H _ I h) fun xv s1 h1=>thn h1 fun itv s2 h2=> ?_)
 obtain ⟨it,fp,tn,J,H2,e,I2,T,st2,f2,r2⟩:=h2
 subst e
 have fpo:∀b∈fp,b<s2.heap.objs.size:=fun b hb=>by
  obtain ⟨o,e,_⟩:=T.obj _ _ st2 b hb
  exact Heap.lt_size e
 refine wpAny_newObj_type (wpAny_newFunctionEnv B.cell (by intro y hy;simp at hy) (fun h₁ hns₁ hsb₁=> ?_) B.kind)
 dsimp only at hns₁ hsb₁ ⊢
 obtain ⟨s₀,es0⟩:∃s₀:Shared,s₀={s2 with heap:=s2.heap.push {cls:= .type "list",dict:=none,data:= .seq ([]:List Value).toArray}}:=⟨_,rfl⟩
 have e0h:s₀.heap=s2.heap.push {cls:= .type "list",data:= .seq #[]}:=by rw [es0]
 obtain ⟨C,eC⟩:∃C:Addr,C=s₀.heap.objs.size:=⟨_,rfl⟩
 obtain ⟨acc,eA⟩:∃a:Addr,a=s2.heap.objs.size:=⟨_,rfl⟩
 rw [show (s2.heap.push {cls:= .type "list",dict:=none,data:= .seq ([]:List Value).toArray}).objs.size=C by rw [eC,e0h]] at hns₁ hsb₁ ⊢
 have keep₁:∀b o,s₀.heap.get? b=some o→h₁.get? b=some o:=fun b o e=>by
  refine hsb₁.extBut b o ?_ ?_
  ·rw [eC];exact Nat.ne_of_lt (Heap.lt_size e)
  ·rw [e0h] at e;exact Heap.get?_push_of_some _ e
 have szC:C=s2.heap.objs.size+1:=by rw [eC,e0h,Heap.size_push]
 have up0:∀b o,s2.heap.get? b=some o→s₀.heap.get? b=some o:=fun b o e=>by rw [e0h];exact Heap.get?_push_of_some _ e
 have fr0:H2 acc=none:=I2.hok.fresh (Nat.le_of_eq eA.symm)
 show codeAny (model X.prog X.w) X.A (.compStart (.ListComp elt [⟨tg,iter,ifs,0⟩] sc pos) 0 (.ref it) (.ref s2.heap.objs.size) (compEnvC sc (zdu sc X.env) C X.env))
  (compPost (model X.prog X.w) X.A X.xe use Q (.ref s2.heap.objs.size) C) {s2 with heap:=h₁,toks:=s2.toks+([]:List (Str×Value)).length}
 rw [←eA]
 have es1:({s2 with heap:=h₁,toks:=s2.toks+([]:List (Str×Value)).length}:Shared)={s₀ with heap:=h₁,toks:=s2.toks+([]:List (Str×Value)).length}:=by rw [es0]
 rw [es1]
 obtain ⟨W,⟨m0,w0⟩,turn⟩:=r2 acc fr0
 have Ib:Inv (wb X N' sc C s₀ (upd H2 acc (.lst [])) fp) [] (vX cap σ) (upd H2 acc (.lst [])) {s₀ with heap:=h₁,toks:=s2.toks+([]:List (Str×Value)).length}:=
  zgw I2 B cp f2 fpo eA (by rw [es0]) (by rw [es0]) e0h eC hns₁ keep₁
 have stat:∀{H':Hp},(∀b∈fp,H' b=none)→∀b∈fp,zbj (wb X N' sc C s₀ (upd H2 acc (.lst [])) fp) [] H' b:=fun hn b hb=>
  ⟨hn b hb,(Ib.ok.exf b hb).1,Ib.ok.exfs b hb,.inl hb,fun x c e=>(Ib.ok.exf b hb).2 x c e,fun p hp=>absurd (show p∈([]:List (Addr×Obj)) from hp) (by simp)⟩
 have fp0:∀b∈fp,upd H2 acc (.lst []) b=none:=fun b hb=>by
  rw [yG (by rw [eA];exact Nat.ne_of_lt (fpo b hb))]
  exact (f2 b hb).1
 have loop:codeAny (model X.prog X.w) X.A (.compLoop (.ListComp elt [⟨tg,iter,ifs,0⟩] sc pos) 0 (.ref it) (.ref acc) (compEnvC sc (zdu sc X.env) C X.env))
   (compPost (model X.prog X.w) X.A X.xe use Q (.ref acc) C) {s₀ with heap:=h₁,toks:=s2.toks+([]:List (Str×Value)).length}:=by
  refine Wp (fun n s'=>∃i ys H',Inv (wb X N' sc C s₀ (upd H2 acc (.lst [])) fp) [] (vX cap σ) H' s'∧tn i s'.heap∧(∀b∈fp,H' b=none)∧W i n ys H') ?_ m0
   ⟨0,[],_,Ib,T.keep _ _ _ st2 fun b hb o e=>keep₁ b o (up0 b o e),fp0,w0⟩
  rintro n s3 ⟨i,ys,H3,I3,st3,fr3,w3⟩
  rcases turn i n ys H3 w3 with ⟨stop,qn⟩|⟨go,step⟩
  ·refine thn (T.done (wb X N' sc C s₀ (upd H2 acc (.lst [])) fp) rfl rfl rfl hc i [] s3 _ H3 (fun _ _=>False) I3 (stat fr3) st3 stop) fun r s4 ⟨hr,I4⟩=> ?_
   subst hr
   have u0:Un (frs X.stack) fp H2 (upd H2 acc (.lst [])) s2.heap s₀.heap:=Un.laid up0 (Nat.le_of_eq eA.symm) fr0
   have un:Un (frs X.stack) fp H2 H3 s2.heap s4.heap:=u0.trans I4.base
   have I5:Inv X pins σ H3 s4:=I2.call' (by rw [I4.os];show s₀.os=_;rw [es0]) un I4.hok I4.bare fun b hb=>⟨(f2 b hb).2.2.2.1,(f2 b hb).2.1,(f2 b hb).2.2.2.2.1,(f2 b hb).2.2.2.2.2⟩
   obtain ⟨m4,hn4,_⟩:=I4.loc
   have CL:C≠X.env.locals:=fun z=>by
    have:=I2.lt
    rw [←z,szC] at this
    exact absurd this (Nat.not_lt.mpr (Nat.le_succ _))
   refine fin acc C H3 s4 m4 I5 hn4 CL (fun {σ' s''} I6 h' sb=> ?_) qn
   refine I6.turned (t':=s''.toks) (fun b o hb e=>(sb.2 b hb).trans e) I4.free CL (.inr ?_) (fun x c e z=> ?_) fun p hp z=> ?_
   ·have:=I2.sz
    rw [szC]
    omega
   ·obtain ⟨v,o,q,_⟩:=I2.cell x c e
    have:=Heap.lt_size q
    rw [z,szC] at this
    exact absurd this (Nat.not_lt.mpr (Nat.le_succ _))
   ·obtain ⟨q,_⟩:=I2.pin p hp
    have:=Heap.lt_size q
    rw [z,szC] at this
    exact absurd this (Nat.not_lt.mpr (Nat.le_succ _))
  ·refine thn (T.item (wb X N' sc C s₀ (upd H2 acc (.lst [])) fp) rfl rfl rfl hc i [] s3 _ H3 (fun _ _=>False) I3 (stat fr3) st3 go) fun r s4 ⟨u,hr,h4⟩=> ?_
   subst hr
   refine thn h4 ?_
   rintro _ s5 ⟨x,H5,I5,r5,y5,st5,fr5⟩
   have I5':=I5.pinned (stat fr5) (T.obj _ _ st5)
   refine thn (hg C s₀ _ fp _ s5 _ H5 x u _ I5' r5 (ow σ _ x H5 _ ⟨rfl,fun _ _ e=>e⟩ (step x H5 y5))) ?_
   rintro _ s6 ⟨σ6,H6,I6,q6,kp6⟩
   have again:∀{H7:Hp} {s7:Shared} {zs:List V},Inv (wb X N' sc C s₀ (upd H2 acc (.lst [])) fp) ([]++zar fp s5.heap) σ6 H7 s7→(∃m',m'<n∧W (i+1) m' zs H7)→
     ∃m,m<n∧∃i ys H',Inv (wb X N' sc C s₀ (upd H2 acc (.lst [])) fp) [] (vX cap σ) H' s7∧tn i s7.heap∧(∀b∈fp,H' b=none)∧W i m ys H':=fun {H7 s7 zs} I7 w7=>by
    obtain ⟨m',hm,w7⟩:=w7
    refine ⟨m',hm,i+1,zs,H7,(I7.unpinned).weak kp6.1.symm kp6.2,T.keep _ _ _ st5 fun b hb o e=>(I7.pin (b,o) (List.mem_append_right _ (List.mem_append_right _ (Xo hb e)))).1,fun b hb=> ?_,w7⟩
    obtain ⟨o,e,d⟩:=T.obj _ _ st5 b hb
    exact (I7.pin (b,o) (List.mem_append_right _ (List.mem_append_right _ (Xo hb e)))).2.1
   refine thn (ht C s₀ _ fp _ s6 σ6 H6 _ I6 q6) ?_
   rintro ok s7 ⟨H7,I7,q7⟩
   cases ok with
   |false=>
    rw [if_neg Bool.false_ne_true] at q7 ⊢
    exact again I7 q7
   |true=>
    rw [if_pos rfl] at q7 ⊢
    refine thn (he C s₀ _ fp _ s7 σ6 H7 _ I7 q7) ?_
    rintro xv s8 ⟨v,H8,I8,r8,hacc8,hl8,w8⟩
    refine thn (wk _ s8 σ6 H8 (.ref acc) [v] (.ref acc) [xv] (fun _ H9=>H9=upd H8 acc (.lst (ys++[v]))) I8 rfl (.cons r8 .nil) ⟨acc,ys,v,rfl,rfl,hacc8,hl8,rfl⟩) ?_
    rintro _ s9 ⟨_,H9,I9,_,e9⟩
    subst e9
    exact again I9 w8
 exact codeAny_compStart_list loop (T.self _ 0 _ _ _ (T.keep _ _ _ st2 fun b hb o e=>keep₁ b o (up0 b o e)) loop)

theorem xF (hc:X.calm=true) (B:WR X sc) (cp:wT X sc cap N') (hi:PI X tg iter wi) (ow:zgx cap g)
  (hg:∀C s₀ H₀ fp,PG (wb X N' sc C s₀ H₀ fp) tg g) (ht:∀C s₀ H₀ fp,PTs (wb X N' sc C s₀ H₀ fp) ifs tt) (he:∀C s₀ H₀ fp,PE (wb X N' sc C s₀ H₀ fp) elt te)
  (hs:∀x,foldedSetIterable iter X.env x=pure x:=by intro _;rfl):PE X (.ListComp elt [⟨tg,iter,ifs,0⟩] sc pos) (zhs cap wi g tt te):=by
 intro pins s σ H Q I h
 rw [eval_ListComp]
 refine zbY (use:=none) (R:=fun acc H2=>Q (.ref acc) H2) hc B cp hi ow hg ht he hs I h fun acc C H' s' m I' hn CL mk r=> ?_
 exact ⟨m,hn,fun h' sb=>⟨.ref acc,H',mk I' h' sb,rfl,r⟩⟩
theorem Xt {i:Nat} {y:Str} {py spos:Pos} (hc:X.calm=true) (B:WR X sc) (cp:wT X sc cap N') (hi:PI X tg iter wi) (ow:zgx cap g)
  (hg:∀C s₀ H₀ fp,PG (wb X N' sc C s₀ H₀ fp) tg g) (ht:∀C s₀ H₀ fp,PTs (wb X N' sc C s₀ H₀ fp) ifs tt) (he:∀C s₀ H₀ fp,PE (wb X N' sc C s₀ H₀ fp) elt te)
  (hN:X.N.Nodup) (hy:X.N[i]? =some y) (hl:X.env.scope.names.lookup y=some .local)
  (hsw:swapsWith (.ListComp elt [⟨tg,iter,ifs,0⟩] sc pos) (some (.Name y py)) spos.line X.env=pure true:=by rfl)
  (hs:∀x,foldedSetIterable iter X.env x=pure x:=by intro _;rfl):PS X (.Assign [.Name y py] (.ListComp elt [⟨tg,iter,ifs,0⟩] sc pos) spos) (zdz i cap wi g tt te):=by
 intro pins s σ H D I h
 rw [exec_Assign_Name_used _ _ _ _ hsw]
 refine wpAny_bind (wpAny_standAt (wpAny_bind ?_))
 show wpAny _ X.A (do let _ ←comprehension (.ListComp elt [⟨tg,iter,ifs,0⟩] sc pos) sc X.env _ (newList []) false (eval iter X.env) (some (assign (.Name y py) X.env))) _ _ s
 refine wpAny_bind (thn (zbY (use:=some (assign (.Name y py) X.env)) (Q:=fun _ s'=>SP X pins D .next s') (R:=fun acc H2=>D.nx (σ.set i (some (.ref acc))) H2) hc B cp hi ow hg ht he hs I h fun acc C H' s' m I' hn CL mk r=> ?_) fun _ s' hq=>wpAny_pure (wpAny_pure hq))
 show wpAny _ X.A (assign (.Name y py) X.env (.ref acc)) _ _ _
 refine wpAny_assign_Name (zbP I' hN hy (.inl hl) (v:= .ref acc) rfl (fun s'' I'' hsb=> ?_) (.inr hl))
 obtain ⟨a,sb,ha⟩:=hsb
 have hCa:C≠a:=by
  rcases ha with ha|ha
  ·rw [ha];exact CL
  ·intro z
   rw [←z] at ha
   obtain ⟨v,o,q,d⟩:=I'.cell y C ha
   obtain ⟨o',es,ep,q',d',_⟩:=hn
   rw [q] at q';cases q'
   rw [d] at d';cases d'
 exact ⟨m,hn.sameBut sb hCa,fun h' sb'=>⟨_,H',mk I'' h' sb',r⟩⟩
end
end L2
namespace L2
open PySem PySem.Spec PyProof.Rows

noncomputable def wq {α:Type}:Sem α→Prop
 | .pure _=>True
 | .raise _=>True
 | .unsupported _=>True
 | .finish _=>True
 | .rule _ k=>∀u,wq (k u)
 | .at _ k=>∀u,wq (k u)
 | .load _ _ k=>∀o,wq (k o)
 | .update _ _ f k=>(∀o,(f o).dict=o.dict∧(f o).cls=o.cls)∧∀u,wq (k u)
 | .alloc _ k=>∀a,wq (k a)
 | .loadIfAlive _ k=>∀o,wq (k o)
 | .point _ k=>∀u,wq (k u)
 | .stack k=>∀x,wq (k x)
 | .ask k=>∀x,wq (k x)
 |_=>False
noncomputable def KD (h h':Heap):Prop:=∀(b:Nat) o,h.objs[b]? =some o→∃o',h'.objs[b]? =some o'∧o'.dict=o.dict∧o'.cls=o.cls
theorem KD.refl (h:Heap):KD h h:=fun _ o e=>⟨o,e,rfl,rfl⟩
theorem KD.trans {h h1 h2:Heap} (x:KD h h1) (y:KD h1 h2):KD h h2:=fun b o e=>by
 obtain ⟨o1,e1,d1,c1⟩:=x b o e
 obtain ⟨o2,e2,d2,c2⟩:=y b o1 e1
 exact ⟨o2,e2,d2.trans d1,c2.trans c1⟩
theorem KD.push (h:Heap) (o:Obj):KD h (h.push o):=fun b o' e=>by
 refine ⟨o',?_,rfl,rfl⟩
 obtain ⟨objs,l⟩:=h
 show (objs.push o)[b]? =some o'
 have e:objs[b]? =some o':=e
 rw [Array.getElem?_push]
 have hb:b<objs.size:=(Array.getElem?_eq_some_iff.mp e).1
 rw [if_neg (Nat.ne_of_lt hb)]
 exact e
theorem KD.update (h:Heap) (a:Addr) {f:Obj→Obj} (hf:∀o,(f o).dict=o.dict∧(f o).cls=o.cls):KD h (h.update a f):=fun b o e=>by
 obtain ⟨objs,l⟩:=h
 show ∃o',(objs.modify a f)[b]? =some o'∧_
 rw [Array.getElem?_modify]
 have e:objs[b]? =some o:=e
 by_cases hab:a=b
 ·rw [if_pos hab,e]
  exact ⟨f o,rfl,hf o⟩
 ·rw [if_neg hab,e]
  exact ⟨o,rfl,rfl,rfl⟩
theorem zdA {h:Heap} {a:Addr} {o:Obj} (e:h.get? a=some o):h.objs[a]? =some o:=by
 unfold Heap.get? at e
 split at e
 ·cases e
 ·exact e
theorem KD.at {h h':Heap} {a:Addr} {o o':Obj} (k:KD h h') (e:h.get? a=some o) (e':h'.get? a=some o'):o'.dict=o.dict∧o'.cls=o.cls:=by
 obtain ⟨o1,e1,d⟩:=k a o (zdA e)
 rw [zdA e'] at e1
 cases e1
 exact d
theorem ziT {α:Type} {M:Model} {Γ:PySem.Ctx} {t:Sem α}:∀{Q:α→Pos→Shared→Prop} {E:Value→Pos→Shared→Prop} {p:Pos} {s:Shared} {h₀:Heap},wq t→KD h₀ s.heap→Sem.wp M Γ t Q E p s→
  Sem.wp M Γ t (fun a p' s'=>Q a p' s'∧KD h₀ s'.heap) (fun e p' s'=>E e p' s'∧KD h₀ s'.heap) p s:=by
 induction t with
 |pure a=>exact fun _ k h=>⟨h,k⟩
 |raise e=>exact fun _ k h=>⟨h,k⟩
 |unsupported w=>exact fun _ _ h=>h.elim
 |finish e=>exact fun _ _ h=>h.elim
 |rule _ k ih=>exact fun t z h=>ih () (t ()) z h
 | «at» _ k ih=>exact fun t z h=>ih () (t ()) z h
 |load a _ k ih=>
  intro Q E p s h₀ t z h
  obtain ⟨o,e,h⟩:=h
  exact ⟨o,e,ih o (t o) z h⟩
 |update a _ f k ih=>
  intro Q E p s h₀ t z h
  obtain ⟨e,h⟩:=h
  exact ⟨e,ih () (t.2 ()) (z.trans (KD.update _ _ t.1)) h⟩
 |alloc o k ih=>exact fun t z h=>ih _ (t _) (z.trans (KD.push _ _)) h
 |loadIfAlive a k ih=>exact fun t z h=>ih _ (t _) z h
 |point _ k ih=>exact fun t z h=>ih () (t ()) z h
 |stack k ih=>exact fun t z h=>ih _ (t _) z h
 |ask k ih=>exact fun t z h=>ih _ (t _) z h
 |register _ _ _=>exact fun t=>t.elim
 |fresh _ _=>exact fun t=>t.elim
 |choose _ _ _ _=>exact fun t=>t.elim
 |os _ _ _ _=>exact fun t=>t.elim
 |call _ _ _ _ _ _=>exact fun t=>t.elim
 |handled _ _ _=>exact fun t=>t.elim
 |newGen _ _ _=>exact fun t=>t.elim
 |genState _ _ _=>exact fun t=>t.elim
 |resume _ _ _ _ _=>exact fun t=>t.elim
 |yield _ _ _ _ _=>exact fun t=>t.elim
 |fork _ _ _=>exact fun t=>t.elim
 |thread _ _=>exact fun t=>t.elim
 |await _ _ _ _ _ _=>exact fun t=>t.elim
theorem zht {α:Type} {M:Model} {A:Around} {t:Sem α} {Q:α→Shared→Prop} {E:Value→Shared→Prop} {s:Shared} (T:wq t) (h:wpAny M A t Q E s):wpAny M A t (fun a s'=>Q a s'∧KD s.heap s'.heap) (fun e s'=>E e s'∧KD s.heap s'.heap) s:=
 fun Γ p hΓ=>ziT T (KD.refl _) (h Γ p hΓ)
theorem zgy {α β:Type} {f:α→Sem β} (hf:∀a,wq (f a)):∀{t:Sem α},wq t→wq (t.bind f):=by
 intro t
 induction t with
 |pure a=>exact fun _=>hf a
 |raise e=>exact fun _=>trivial
 |unsupported w=>exact fun _=>trivial
 |finish e=>exact fun _=>trivial
 |rule _ k ih=>exact fun t u=>ih u (t u)
 | «at» _ k ih=>exact fun t u=>ih u (t u)
 |load a _ k ih=>exact fun t u=>ih u (t u)
 |update a _ f k ih=>exact fun t=>⟨t.1,fun u=>ih u (t.2 u)⟩
 |alloc o k ih=>exact fun t u=>ih u (t u)
 |loadIfAlive a k ih=>exact fun t u=>ih u (t u)
 |point _ k ih=>exact fun t u=>ih u (t u)
 |stack k ih=>exact fun t u=>ih u (t u)
 |ask k ih=>exact fun t u=>ih u (t u)
 |register _ _ _=>exact fun t=>t.elim
 |fresh _ _=>exact fun t=>t.elim
 |choose _ _ _ _=>exact fun t=>t.elim
 |os _ _ _ _=>exact fun t=>t.elim
 |call _ _ _ _ _ _=>exact fun t=>t.elim
 |handled _ _ _=>exact fun t=>t.elim
 |newGen _ _ _=>exact fun t=>t.elim
 |genState _ _ _=>exact fun t=>t.elim
 |resume _ _ _ _ _=>exact fun t=>t.elim
 |yield _ _ _ _ _=>exact fun t=>t.elim
 |fork _ _ _=>exact fun t=>t.elim
 |thread _ _=>exact fun t=>t.elim
 |await _ _ _ _ _ _=>exact fun t=>t.elim
theorem tb {α β:Type} {t:Sem α} {f:α→Sem β} (h:wq t) (hf:∀a,wq (f a)):wq (t>>=f):=zgy hf h
theorem zbo (v:Value):wq (fieldsOf v):=by
 unfold fieldsOf
 split
 ·refine tb (fun o=>trivial) fun o=> ?_
  split<;>trivial
 ·trivial
theorem Xu (v:Value) (i:Nat):wq (field v i):=by
 unfold field
 refine tb (zbo v) fun a=> ?_
 split<;>trivial
theorem zax (g:Array Value→Array Value) (o:Obj):(Obj.mapFields g o).dict=o.dict∧(Obj.mapFields g o).cls=o.cls:=by
 obtain ⟨c,d,dt,sl⟩:=o
 cases dt<;>exact ⟨rfl,rfl⟩
theorem Yz (v:Value) (i:Nat) (x:Value):wq (setField v i x):=by
 unfold setField
 split
 ·unfold updateField
  refine tb (fun o=>trivial) fun o=> ?_
  split
  ·split
   ·exact ⟨fun o=>zax _ o,fun _=>trivial⟩
   ·trivial
  ·trivial
 ·trivial
theorem zay (e:Value) (f:Option Addr):wq (setFlight e f):=by
 unfold setFlight
 refine tb (Xu _ _) fun tb'=> ?_
 split
 ·exact Yz _ _ _
 ·trivial
theorem zaz (ty:String) (vs:List Value):wq (newFields ty vs):=by
 have h:wq (newObjAsIs (Value.type ty) (Data.fields vs.toArray)):=by
  unfold newObjAsIs
  exact tb (fun a=>trivial) fun a=>trivial
 unfold newFields newObj
 show wq (if vs.toArray.size>sizeLine+2 then (unsupported "record:memory">>=fun _=>newObjAsIs (Value.type ty) (Data.fields vs.toArray)) else newObjAsIs (Value.type ty) (Data.fields vs.toArray))
 split
 ·trivial
 ·exact h
theorem zdB (env:Env) (outer:List Env):wq (behindIsImport env outer):=by
 unfold behindIsImport
 split
 ·trivial
 ·split
  ·trivial
  ·exact tb (Xu _ _) fun _=>trivial
theorem zeL:wq underTheClaimsCaller:=tb (fun _=>trivial) fun _=>trivial
theorem zbp (env:Env) (i:Bool) (outer:List Env):wq (keptBack env i outer):=by
 cases outer with
 |nil=>
  unfold keptBack
  by_cases h:(env.scope.isGenerator||env.scope.isCoroutine)=true
  ·rw [if_pos h];trivial
  ·rw [if_neg h]
   refine tb zeL fun x=> ?_
   trivial
 |cons c r=>
  unfold keptBack
  trivial
theorem zaA:∀l:List Env,wq (readyFrames l)
 |[]=>trivial
 |env::outer=>by
  unfold readyFrames
  split
  ·refine tb (fun o=>trivial) fun o=> ?_
   split
   ·trivial
   ·exact tb (zdB _ _) fun i=>tb (zbp _ _ _) fun b=>tb ⟨fun o=>⟨rfl,rfl⟩,fun _=>trivial⟩ fun _=>zaA outer
  ·trivial
theorem zcr (env:Env):wq (PySem.frameOf env):=by
 unfold PySem.frameOf
 refine tb (fun x=>trivial) fun l=>tb ?_ fun o=> ?_
 ·generalize List.dropWhile _ l=l'
  unfold frameObject
  cases l' with
  |nil=>trivial
  |cons a r=>exact tb (zaA _) fun _=>trivial
 ·split<;>trivial
theorem TK (f:Addr) (b:Bool):wq (entryPlaceOf f b):=by
 unfold entryPlaceOf
 refine tb (fun x=>trivial) fun l=> ?_
 split<;>trivial
theorem zaB (e:Value) (env:Env):wq (noteFrame e env):=by
 unfold noteFrame
 split
 ·rename_i f _
  have last:∀head:Value,wq (do setField e 1 (←EntryCells.newEntry head (←PySem.frameOf env) .none (rawInt f) .none (←entryPlaceOf f (head != .none)))):=fun head=>
   tb (zcr env) fun a=>tb (TK _ _) fun pl=>tb (zaz _ _) fun b=>Yz _ _ _
  refine tb (Xu _ _) fun head=> ?_
  split
  ·refine tb (Xu _ _) fun x=> ?_
   split
   ·trivial
   ·exact tb (Yz _ _ _) fun _=>last head
  ·exact last head
 ·trivial
theorem zcs (env:Env) (e:Value):wq (leaving env e):=tb (zaB e env) fun _=>zay _ _
end L2
namespace L2
open PySem PySem.Spec PyProof.Rows

theorem xC.there {P:Program} {w:World} {H:Hp} {h:Heap} {a:Addr} {o:HO} (x:xC P w H h a o):∃ob,h.get? a=some ob:=by
 cases o with
 |lst xs=>obtain ⟨_,_,_,_,e⟩:=x;exact ⟨_,e⟩
 |tup xs=>obtain ⟨_,_,_,ob,e,_⟩:=x;exact ⟨_,e⟩
 |dK kvs=>obtain ⟨_,_,_,_,o,_,_,e,_⟩:=x;exact ⟨_,e⟩
 |dT kvs=>obtain ⟨_,_,_,_,o,_,_,e,_⟩:=x;exact ⟨_,e⟩
 |dN kvs=>obtain ⟨_,_,_,_,o,_,_,e,_⟩:=x;exact ⟨_,e⟩
 |set S n=>obtain ⟨o,_,_,_,e,_⟩:=x;exact ⟨_,e⟩
 |ins C dx fs=>obtain ⟨_,_,_,e,_⟩:=x;exact ⟨_,e⟩
 |own y=>obtain ⟨_,e⟩:=x;exact ⟨_,e⟩
 |xd fs=>obtain ⟨_,⟨_,_,_,e,_⟩,_⟩:=x;exact ⟨_,e⟩
 |rng lo hi=>obtain ⟨_,_,_,e⟩:=x;exact ⟨_,e⟩
 |frz ob u=>obtain ⟨e,_⟩:=x;exact ⟨_,e⟩
 |tbl ps=>exact ⟨_,(show h.get? a=some _ from x)⟩
 |met f y=>exact ⟨_,(show h.get? a=some _ from x)⟩
 |ext φ=>obtain ⟨_,⟨_,e⟩,_⟩:=x;exact ⟨_,e⟩

noncomputable def Cov (outer:List Env) (H':Hp) (old h' B:Heap):Prop:=
 (∀b o,(∃o0,old.get? b=some o0)→b∉frs outer→h'.get? b=some o→B.get? b=some o)∧∀b u o,H' b=some u→h'.get? b=some o→B.get? b=some o
structure Fly (P:Program) (w:World) (outer:List Env) (H:Hp) (s:Shared) (e:Addr) (cls:Value) (H':Hp) (s':Shared):Prop where
 os:s'.os=s.os
 bare:AllBare s'.gens
 un:Un (frs outer) [] H H' s.heap s'.heap
 hok:HOk P w H' s'.heap
 fly:∃B t,Heap.FlyingW B outer e cls (.ref t) s'.heap∧Cov outer H' s.heap s'.heap B
 new:s.heap.get? e=none
 free:H' e=none
 nd:∀o,s'.heap.get? e=some o→o.dict=none
noncomputable def CXE (P:Program) (w:World):CXT:=fun outer H s E ev s'=>∃e cls H',ev= .ref e∧Fly P w outer H s e cls H' s'∧E cls none H'

theorem Fly.moved {P:Program} {w:World} {outer:List Env} {H H':Hp} {s s':Shared} {e:Addr} {cls a0:Value} {B h2:Heap} (F:Fly P w outer H s e cls H' s') (fl:Heap.FlyingW B outer e cls a0 s'.heap) (cov:Cov outer H' s.heap s'.heap B)
  (st:B.StaysIn h2) (sm:s'.heap.UpToSlots h2):Un (frs outer) [] H H' s.heap h2∧HOk P w H' h2∧Cov outer H' s.heap h2 B:=by
 have nofs:∀b u,H' b=some u→∃o,s'.heap.get? b=some o∧B.get? b=some o∧h2.get? b=some o:=fun b u q=>by
  obtain ⟨o,e1⟩:=(F.hok b u q).there
  have e2:=cov.2 b u o q e1
  exact ⟨o,e1,e2,st b o e2⟩
 have old:∀b o0,s.heap.get? b=some o0→b∉frs outer→∃o,s'.heap.get? b=some o∧B.get? b=some o∧h2.get? b=some o:=fun b o0 q hb=>by
  obtain ⟨o,e1⟩:=F.un.there b o0 q (by simp)
  have e2:=cov.1 b o ⟨o0,q⟩ hb e1
  exact ⟨o,e1,e2,st b o e2⟩
 have fr:∀b∈frs outer,∃o sl,s'.heap.get? b=some o∧h2.get? b=some {o with slots:=sl}:=fun b hb=>by
  obtain ⟨_,o,e1,d⟩:=fl.2.2.1.mem hb
  obtain ⟨sl,e2⟩:=sm b o e1 d
  exact ⟨o,sl,e1,e2⟩
 refine ⟨⟨fun b o q n hb _=> ?_,fun b o q n hb _=> ?_,fun b o q n hx=>F.un.free b o q n hx,fun b o q _=> ?_,F.un.tups,F.un.frzs,F.un.tbls⟩,fun a u q=> ?_,fun b o q hb e1=> ?_,fun b u o q e1=> ?_⟩
 ·obtain ⟨o1,e1,_,e3⟩:=old b o q hb
  have e4:=F.un.keep b o q n hb (by simp)
  rw [e1] at e4;cases e4
  exact e3
 ·obtain ⟨o1,sl1,e1,e2⟩:=fr b hb
  obtain ⟨sl,e4⟩:=F.un.slot b o q n hb (by simp)
  rw [e1] at e4;cases e4
  exact ⟨sl1,e2⟩
 ·by_cases hb:b∈frs outer
  ·obtain ⟨o1,sl1,e1,e2⟩:=fr b hb
   exact ⟨_,e2⟩
  ·obtain ⟨o1,_,_,e3⟩:=old b o q hb
   exact ⟨_,e3⟩
 ·refine (F.hok a u q).stay (fun b ob hb eb=> ?_) (fun _ z=>z) fun _ _ z=>z
  have:∃u',H' b=some u':=by
   rcases hb with z|z
   ·exact ⟨u,z ▸ q⟩
   ·exact ⟨_,z⟩
  obtain ⟨u',hu⟩:=this
  obtain ⟨o1,e1,_,e3⟩:=nofs b u' hu
  rw [eb] at e1;cases e1
  exact e3
 ·obtain ⟨o0,q⟩:=q
  obtain ⟨o1,_,e2,e3⟩:=old b o0 q hb
  rw [e1] at e3;cases e3
  exact e2
 ·obtain ⟨o1,_,e2,e3⟩:=nofs b u q
  rw [e1] at e3;cases e3
  exact e2

section
variable {P:Program} {w:World} {K:PySem.W.Frag} {mg:Str→Option Value} {base:Heap} {N:List Str} {qual:Str} {scope:Scope} {f:Addr} {cdv:Value} {A:Around} {outer:List Env} {s:Shared} {H:Hp} {E:XK}


theorem zG:Wl (CXE P w) (zdn (CXE P w) P w K mg base N qual scope f cdv A outer s H E) E:=by
 rintro pins σ H1 s1 ev s' I ⟨e,cls,H',rfl,F,hE⟩
 obtain ⟨B,t,fl,cov⟩:=F.fly
 have hfs:∀b∈frs (envOfC qual scope s.heap.objs.size f cdv::outer),b∈s.heap.objs.size::frs outer:=I.stkSub
 refine wpAny_mono (zht (zcs _ _) (wpAny_leaves_onW (E:=fun _ _=>False) (Q:=fun _ s''=>∃h',s''={s' with heap:=h'}∧Heap.FlyingW B outer e cls (.ref t) h'∧s'.heap.UpToSlots h') (L:=s.heap.objs.size) I.ok.frames rfl fl fun h' x1 x2=>⟨h',rfl,x1,x2⟩)) (fun _ s3 h3=> ?_) fun _ _ h3=>h3.1.elim
 obtain ⟨⟨h',rfl,x1,x2⟩,kd⟩:=h3
 obtain ⟨un,hok,cov'⟩:=F.moved fl cov x1.1 x2
 have exn:∀b:Addr,b∉(zdn (CXE P w) P w K mg base N qual scope f cdv A outer s H E).ex:=fun b z=>absurd (show b∈([]:List Addr) from z) (by simp)
 have nfs:∀b o,s.heap.get? b=some o→b∉frs outer→b∉frs (envOfC qual scope s.heap.objs.size f cdv::outer):=fun b o q hb hz=>by
  rcases List.mem_cons.mp (hfs b hz) with z|z
  ·exact Nat.ne_of_lt (Heap.lt_size q) z
  ·exact hb z
 have sub:∀b∈frs outer,b∈frs (envOfC qual scope s.heap.objs.size f cdv::outer):=fun b hb=>by
  unfold frs at hb ⊢
  rw [List.filterMap_cons]
  exact List.mem_cons_of_mem _ hb
 refine ⟨e,cls,H',rfl,⟨F.os.trans I.os,F.bare,⟨fun b o q n hb _=> ?_,fun b o q n hb _=> ?_,fun b o q n _=> ?_,fun b o q _=> ?_,fun b xs q=>un.tups b xs (I.base.tups b xs q),fun b o xs q=>un.frzs b o xs (I.base.frzs b o xs q),fun b ps q=> ?_⟩,hok,
  ⟨B,t,x1,fun b o q hb e1=> ?_,cov'.2⟩,?_,F.free,fun o q=> ?_⟩,hE⟩
 ·exact un.keep b o (I.base.keep b o q n hb (exn b)) (I.base.free b o q n (exn b)) (nfs b o q hb) (by simp)
 ·obtain ⟨sl,e1⟩:=I.base.slot b o q n hb (exn b)
  obtain ⟨sl2,e2⟩:=un.slot b _ e1 (I.base.free b o q n (exn b)) (sub b hb) (by simp)
  exact ⟨sl2,e2⟩
 ·obtain ⟨o1,e1⟩:=I.base.there b o q (exn b)
  exact un.free b o1 e1 (I.base.free b o q n (exn b)) (by simp)
 ·obtain ⟨o1,e1⟩:=I.base.there b o q (exn b)
  exact un.there b o1 e1 (by simp)
 ·obtain ⟨m1,e1⟩:=I.base.tbls b ps q
  obtain ⟨m2,e2⟩:=un.tbls b _ e1
  exact ⟨m1++m2,by rw [e2,Array.append_assoc]⟩
 ·obtain ⟨o0,q⟩:=q
  obtain ⟨o1,q1⟩:=I.base.there b o0 q (exn b)
  exact cov'.1 b o ⟨o1,q1⟩ (nfs b o0 q hb) e1
 ·cases q:s.heap.get? e with
  |none=>rfl
  |some o=>
   obtain ⟨o',q'⟩:=I.base.there e o q (exn e)
   have:=F.new
   rw [q'] at this;cases this
 ·obtain ⟨ob,hob,_⟩:=fl.there
  exact (kd.at hob q).1.trans (F.nd ob hob)
end

structure zeM (K:PySem.W.Frag) (mg:Str→Option Value) (x:Str) (C:Addr) (bmB:List Value) (newId:String):Prop where
 mg:mg x=some (.ref C)
 inK:PySem.W.excIn K C bmB newId=true

end L2
namespace L2
open PySem PySem.Spec PyProof.Rows

theorem Wd {P:Program} {w:World} {X:Cx}:Wl (CXE P w) X E0:=fun _ _ _ _ _ _ _ ⟨_,_,_,_,_,h⟩=>h.elim

noncomputable abbrev TEx:=St→Hp→VK→(Value→Hp→Prop)→Prop
noncomputable abbrev TAx:=St→Hp→(List V→Hp→Prop)→(Value→Hp→Prop)→Prop
noncomputable abbrev TSx:=UO→(Value→Hp→Prop)→St→Hp→Prop
section
variable {X:Cx} {e:Expr} {es:List Expr} {te:TE}
end

noncomputable def zkN (e:Addr) (cls:Value):HO:= .ext fun h=>∃ob,h.get? e=some ob∧ob.cls=cls∧ob.dict=none∧∃vs,ob.data= .fields vs
noncomputable abbrev Cx.hand (X:Cx) (e:Addr):Cx:={X with A:=X.A.mark (some (.ref e)),calm:=false,xe:=fun _ _=>False}
section
variable {X:Cx} {pins:List (Addr×Obj)} {σ:St} {H:Hp} {s:Shared}
end


end L2
namespace L2
open PySem PySem.Spec PyProof.Rows
open PySem.Builtin.Int (intBits)

noncomputable def zjZ (i j:Int):Prop:=∃m n:Nat,intBits i≤m∧intBits j≤n∧m+n≤134217728
section
variable {X:Cx}
theorem WT:OpR X (binaryOp .Mult) (rI zjZ fun i j=> .int (i*j)):=opI fun _ _ _ _ _ _ _ hc q=>by
 obtain ⟨m,n,h1,h2,h3⟩:=hc
 exact mul_int q (IntMulOk.of_le h1 h2 h3)

noncomputable def zkO (lo st:Int) (n:Nat):It:=⟨fun i _=>i<n,fun i H x H'=>H'=H∧x= .int (lo+i*st),fun i _=>n≤i⟩
theorem zdC {P:Program} {w:World} {K:PySem.W.Frag} {tg:Expr} (it:Addr) (lo sp:Int) (n:Nat):zex P w K tg (zkO lo sp n) [it] it (fun i h=>IsRangeIter h it (lo+(i:Nat)*sp) ((n:Int)-(i:Nat)) sp) where
 mem:=by simp
 obj:=fun i h st b hb=>by
  have e:b=it:=by simpa using hb
  subst e
  exact ⟨_,st,fun v z=>by
   have z':Data.fields _=Data.cell v:=z
   cases z'⟩
 keep:=fun i h h' st k=>k it (by simp) _ st
 item:=by
  intro X hP hw hK hc i pins s σ H E I hf st hg
  subst hP hw hK
  obtain ⟨f0,f1,f2,f3,f4,f5⟩:=hf it (by simp)
  have W:=Walks.range (prog:=X.prog) (w:=X.w) (I.ok.hd hc) it lo sp n
  refine W.item i s _ _ hg st fun v h' tk hv st' kk=> ?_
  obtain ⟨t,rfl⟩:=hv
  have I1:Inv X pins σ H {s with heap:=h',toks:=tk}:=I.turned (fun b o hb e=>kk b o (by simpa using hb) e) f0 f1 f3 f4 f5
  exact ⟨_,rfl,zdk (s:={s with heap:=h',toks:=tk}) (n:="range_iterator") st' rfl rfl (by decide) ⟨.int _,H,I1,⟨t,rfl⟩,⟨rfl,rfl⟩,st',fun b hb=>(hf b hb).1⟩⟩
 done:=by
  intro X hP hw hK hc i pins s σ H E I hf st hg
  subst hP hw hK
  obtain ⟨f0,f1,f2,f3,f4,f5⟩:=hf it (by simp)
  exact wpAny_pyNext_range_end (I.ok.hd hc) st (by have:n≤i:=hg;omega) fun h' eb=>⟨rfl,I.turned (t':=s.toks) (fun b o hb e=>eb b o hb e) f0 f1 f3 f4 f5⟩
 self:=fun _ _ _ _ _ st h=>wpAny_pyIter_rangeiter st h

end
section
variable {prog:Program} {w:World} {A:Around} {E:Value→Shared→Prop} {s:Shared} {K:PySem.W.Frag} {x D:Addr} {ox:Obj}
theorem zct {M:Model} {nameV:Value} {Q:Unit→Shared→Prop} (X:K.In s.heap) (I:PySem.W.InstAt s.heap x ox D none) (be:PySem.W.mroIn K D (.type "BaseException")=some true) (hq:Q () s):
  wpAny M A (checkBuiltinCall "BaseException.__getattribute__" ⟨[.ref x,nameV],[]⟩) Q E s:=by
 obtain ⟨hh,g,d,t,os⟩:=s
 have hk:builtinKind "BaseException.__getattribute__"=some .slot:=by decide+kernel
 have hsplit:splitId "BaseException.__getattribute__"=some ("BaseException","__getattribute__"):=by decide+kernel
 have L0:=I.type (M:=M)
 have L1:=PySem.W.looks_mroIn (M:=M) X be
 have ha:=F.args_bexc_ga (.ref x) nameV
 simp only [checkBuiltinCall,hk,hsplit]
 refine wpAny_bind ?_
 unfold isInstance
 refine wpAny_bind (L0.at (L1.at ?_))
 repeat (first|wp_step)
 exact hq
theorem zgz {Q:Option Value→Shared→Prop} (X:K.In s.heap) (I:PySem.W.InstAt s.heap x ox D none) (ga:PySem.W.findIn K (.ref D) "__getattribute__"=some (some (.builtin "BaseException.__getattribute__"))) (noga:PySem.W.findIn K (.ref D) "__getattr__"=some none)
  (be:PySem.W.mroIn K D (.type "BaseException")=some true) (hf:PySem.W.findObj K D none "__class__"=some (.bind (.builtin "getset_descriptor.__get__") (.builtin "object.__class__"))) (hm:PySem.W.mroIn K D (.type "object")=some true)
  (h:Q (some (.ref D)) {s with toks:=s.toks+1}):wpAny (model prog w) A (getAttr? (.ref x) "__class__") Q E s:=by
 obtain ⟨hh,g,d,t,os⟩:=s
 have L0:=I.type (M:=model prog w)
 have L1:=PySem.W.looks_findIn (M:=model prog w) X ga
 have L2:=PySem.W.looks_findIn (M:=model prog w) X noga
 have L3:=PySem.W.looks_find (M:=model prog w) X I hf
 have hb:=F.attrBase_ValueError.ga.bind (.ref x)
 unfold getAttr? getAttrBy? getAttrBy
 refine wpAny_bind (wpAny_mkText (wpAny_bind (wpAny_attempt (wpAny_holding (wpAny_bind (L0.at (wpAny_bind (L1.at ?_))))))))
 dsimp only
 rw [if_neg (show ¬(onTheHeap (Value.ref D)&&(Value.builtin "BaseException.__getattribute__"==Value.builtin "object.__getattribute__"))=true by rw [show (Value.builtin "BaseException.__getattribute__"==Value.builtin "object.__getattribute__")=false by decide+kernel];simp)]
 unfold getAttrByItsOwn hookBefore
 refine wpAny_bind ?_
 show wpAny _ _ (typeLookup (.ref D) "__getattr__") _ _ _
 refine L2.at ?_
 refine wpAny_bind (wpAny_attempt (wpAny_holding ?_))
 unfold callGetattribute boundAndCalled
 rw [if_neg (by decide),hb]
 refine wpAny_bind (wpAny_pure ?_)
 dsimp only
 refine wpAny_call (codeAny_call_builtin F.attrBase_ValueError.ga.plain F.entry_bexc_ga (zct (ox:=ox) X I be ?_))
 unfold Builtin.«object.__getattribute__»
 refine wpAny_bind (wpAny_of_eq (show slotArgs "__getattribute__" 1 {pos:=[Value.ref x]++[Value.str (Str.ofString "__class__") t]}=pure (.ref x,[Value.str (Str.ofString "__class__") t]) from rfl) ?_)
 dsimp only
 refine wpAny_bind (wpAny_of_eq (show Builtin.ObjectAttr.attrName (Value.str (Str.ofString "__class__") t)=pure (Str.ofString "__class__") from rfl) ?_)
 refine wpAny_bind (L0.at (wpAny_bind (L3.at ?_)))
 dsimp only
 show wpAny _ _ (do ret (←holding [Value.builtin "object.__class__"] (call (.builtin "getset_descriptor.__get__") [.builtin "object.__class__",.ref x,.ref D]))) _ _ _
 refine wpAny_bind (wpAny_holding (wpAny_call (PySem.W.class_get (ox:=ox) (od:=none) X I hm ?_)))
 exact wpAny_pure (PySem.W.handed_on rfl (wpAny_pure h))
end
section
variable {X:Cx}
structure zdD (K:PySem.W.Frag) (D:Addr):Prop where
 ga:PySem.W.findIn K (.ref D) "__getattribute__"=some (some (.builtin "BaseException.__getattribute__"))
 noga:PySem.W.findIn K (.ref D) "__getattr__"=some none
 be:PySem.W.mroIn K D (.type "BaseException")=some true
 hc:(PySem.W.clsIn K D).isSome=true
 ha:PySem.W.findIn K (.ref D) "__class__"=some (some (.builtin "object.__class__"))
 hn:PySem.W.specialIn K (.builtin "object.__class__") "__get__"=some (some (.builtin "getset_descriptor.__get__"))
 htk:PySem.W.takesIn K (.builtin "object.__class__")=some true
 hm:PySem.W.mroIn K D (.type "object")=some true
theorem zhu {K:PySem.W.Frag} {x D:Addr} (e:zdD K D):PySem.W.KitX K (.ref x) (.ref D) (fun h=>∃ox,PySem.W.InstAt h x ox D none) where
 ty:=fun _ _ _ ⟨_,I⟩=>I.type
 it:=fun _ _ X _=>by
  obtain ⟨cd,hcd⟩:=Option.isSome_iff_exists.mp e.hc
  unfold PySem.W.clsIn at hcd
  split at hcd
  ·rename_i ho
   intro A' Q' E' s' k q
   unfold isType loadHead
   exact wpAny_bind (wpAny_loadPart (k _ _ (X _ _ ho)) (wpAny_pure q))
  ·cases hcd
 ne:=fun h tp dd its n sl X htp=>by
  obtain ⟨cd,hcd⟩:=Option.isSome_iff_exists.mp e.hc
  refine Bool.eq_false_iff.mpr fun q=> ?_
  have z:D=tp:=Value.ref.inj (beq_iff_eq.mp q)
  subst z
  unfold PySem.W.clsIn at hcd
  split at hcd
  ·rename_i ho
   have y:=(X _ _ ho).symm.trans htp
   cases y
  ·cases hcd
 ca:=fun {_ _ _ _ _ s} X I k=>by
  obtain ⟨ox,I⟩:=I
  obtain ⟨cd,hcd⟩:=Option.isSome_iff_exists.mp e.hc
  have hf:PySem.W.findObj K D none "__class__"=some (.bind (.builtin "getset_descriptor.__get__") (.builtin "object.__class__")):=by
   unfold PySem.W.findObj
   rw [hcd,Option.bind_some,e.ha,Option.bind_some]
   simp [e.hn,e.htk]
  exact zgz X I e.ga e.noga e.be hf e.hm k

inductive TyX (K:PySem.W.Frag) (H:Hp):V→Value→Prop where
 |of {x:V} {t:Value} (h:TH K H x t):TyX K H x t
 |exc {e D:Addr} (h:H e=some (zkN e (.ref D))) (k:zdD K D):TyX K H (.ref e) (.ref D)
 |sqt {a:Addr} {xs:List V} (h:SqT K H a xs):TyX K H (.ref a) (.type "tuple")
 |sql {a:Addr} {xs:List V} (h:SqL K H a xs):TyX K H (.ref a) (.type "list")
theorem TyX.kit {pins:List (Addr×Obj)} {σ:St} {H:Hp} {s:Shared} {x:V} {u t:Value} (I:Inv X pins σ H s) (rx:yA x u) (ty:TyX X.K H x t):∃Hh,PySem.W.KitX X.K u t Hh∧Hh s.heap:=by
 cases ty with
 |of ty=>
  cases ty with
  |non=>cases (show u=Value.none from rx);exact ⟨_,PySem.W.kitx_none,True.intro⟩
  |bl y=>cases (show u=Value.bool y from rx);exact ⟨_,PySem.W.kitx_bool,True.intro⟩
  |int i=>obtain ⟨t,q⟩:=(show ∃t,u=Value.int i t from rx);cases q;exact ⟨_,PySem.W.kitx_int,True.intro⟩
  |str y=>obtain ⟨t,q⟩:=(show ∃t,u=Value.str y t from rx);cases q;exact ⟨_,PySem.W.kitx_str,True.intro⟩
  |flt y=>obtain ⟨t,q⟩:=(show ∃t,u=Value.float y t from rx);cases q;exact ⟨_,PySem.W.kitx_float,True.intro⟩
  | @lst a xs ea=>
   cases (show u=Value.ref a from rx)
   obtain ⟨_,_,n,_,h1⟩:=(show xC X.prog X.w H s.heap a (.lst xs) from I.hok a _ ea)
   exact ⟨_,PySem.W.kitx_list,⟨_,h1,rfl⟩⟩
  | @frz a ob xs ea=>
   cases (show u=Value.ref a from rx)
   obtain ⟨_,_,_,n,_,h1⟩:=(show xC X.prog X.w H s.heap a (.frz ob (.lst xs)) from I.hok a _ ea)
   exact ⟨_,PySem.W.kitx_list,⟨_,h1,rfl⟩⟩
  | @tup a xs ea=>
   cases (show u=Value.ref a from rx)
   obtain ⟨_,_,_,p⟩:=(show xC X.prog X.w H s.heap a (.tup xs) from I.hok a _ ea)
   obtain ⟨o,h1,h2,_⟩:=p
   exact ⟨_,PySem.W.kitx_tuple,⟨o,h1,h2⟩⟩
  | @dK a kvs ea=>
   cases (show u=Value.ref a from rx)
   obtain ⟨_,_,vs,_,p⟩:=(show xC X.prog X.w H s.heap a (.dK kvs) from I.hok a _ ea)
   obtain ⟨o,es,ep,h1,h2,_⟩:=p
   exact ⟨_,PySem.W.kitx_dict,⟨o,h1,h2.1⟩⟩
  | @dT a kvs ea=>
   cases (show u=Value.ref a from rx)
   obtain ⟨_,_,xs,_,o,es,ep,h1,h2,_⟩:=(show xC X.prog X.w H s.heap a (.dT kvs) from I.hok a _ ea)
   exact ⟨_,PySem.W.kitx_dict,⟨o,h1,h2.1⟩⟩
  | @ins a C dx fs ea cl ha hn htk hm=>
   cases (show u=Value.ref a from rx)
   obtain ⟨mA,O,_⟩:=zad I.hok ea
   obtain ⟨od,J,_⟩:=O.look
   exact ⟨_,PySem.W.kitx_own (cl.get _) cl.hd ha hn htk hm,J⟩
 | @sqt a xs h=>
  cases (show u=Value.ref a from rx)
  obtain ⟨its,_,⟨o,h1,h2,_⟩,_⟩:=I.tuple h
  exact ⟨_,PySem.W.kitx_tuple,⟨o,h1,h2⟩⟩
 | @sql a xs h=>
  cases (show u=Value.ref a from rx)
  obtain ⟨its,_,⟨o,n,h1,h2,_⟩,_⟩:=I.list h
  exact ⟨_,PySem.W.kitx_list,⟨o,h1,h2⟩⟩
 | @exc e D h k=>
  cases (show u=Value.ref e from rx)
  obtain ⟨⟨ob,h1,h2,h3,vs,h4⟩,_⟩:=(show xC X.prog X.w H s.heap e (zkN e (.ref D)) from I.hok e _ h)
  refine ⟨_,zhu k,ob,h1,h2,?_,?_⟩
  ·unfold PySem.W.notCls
   rw [h4]
  ·rw [h3];trivial
noncomputable def zmn:V→Option Value
 | .ref a=>some (.ref a)
 | .ty n=>some (.type n)
 |_=>none
theorem zhv {c:V} {cv u:Value} (h:zmn c=some cv) (r:yA c u):u=cv:=by
 cases c with
 |ref a=>cases h;exact r
 |ty n=>cases h;exact r
 |_=>cases h
theorem yA.nb {x:V} {u:Value} (r:yA x u):u≠ .builtin "__main__.__loader__#opaque":=by
 cases x with
 |non=>rintro rfl;cases r
 |bl b=>rintro rfl;cases r
 |int i=>rintro rfl;obtain ⟨_,q⟩:=r;cases q
 |str i=>rintro rfl;obtain ⟨_,q⟩:=r;cases q
 |byt i=>rintro rfl;obtain ⟨_,q⟩:=r;cases q
 |flt i=>rintro rfl;obtain ⟨_,q⟩:=r;cases q
 |ref a=>rintro rfl;cases r
 |ty a=>rintro rfl;cases r
noncomputable def ziU (K:PySem.W.Frag):List V→Hp→VK→Prop:=fun xs H Q=>∃x c cv t b,xs=[x,c]∧zmn c=some cv∧TyX K H x t∧PySem.W.kitOne K t cv=some b∧Q (.bl b) H
theorem zhw:vq X (.builtin "isinstance") (ziU X.K):=by
 intro pins s σ H xs us Q I r h
 obtain ⟨x,c,cv,t,b,rfl,hc,ty,e,q⟩:=h
 obtain ⟨u,w',rfl,ru,rw'⟩:=zfz r
 obtain rfl:=zhv hc rw'
 obtain ⟨Hh,Z,p⟩:=ty.kit I ru
 exact PySem.W.kia_one Z I.kIn p e ru.nb fun tk=>⟨.bl b,H,I.tok tk,rfl,q⟩
end
theorem zaC {K:PySem.W.Frag} {t:Value}:PySem.W.kitOne K t t=some true:=by unfold PySem.W.kitOne;rw [if_pos (by simp)]
theorem zcu {K:PySem.W.Frag}:PySem.W.kitOne K (.type "bool") (.type "int")=some true:=by
 have h:(fastBuiltinMro "bool").map (·.contains (.type "int"))=some true:=by decide+kernel
 have hm:PySem.W.kitMeta "int"=true:=by decide+kernel
 unfold PySem.W.kitOne PySem.W.kitCls
 rw [if_neg (by decide)]
 show (if PySem.W.kitMeta "int"=true then PySem.W.subIn K (.type "bool") (.type "int") else none)=_
 rw [if_pos hm]
 exact h
theorem zcv {K:PySem.W.Frag}:PySem.W.kitOne K (.type "int") (.type "bool")=some false:=by
 have h:(fastBuiltinMro "int").map (·.contains (.type "bool"))=some false:=by decide+kernel
 have hm:PySem.W.kitMeta "bool"=true:=by decide+kernel
 unfold PySem.W.kitOne PySem.W.kitCls
 rw [if_neg (by decide)]
 show (if PySem.W.kitMeta "bool"=true then PySem.W.subIn K (.type "int") (.type "bool") else none)=_
 rw [if_pos hm]
 exact h
end L2
namespace L2
open PySem PySem.Spec PyProof.Rows

inductive D where
 |non|bl (b:Bool)|int (i:Int)|str (x:Str)|tup (l:List D)|lst (l:List D)|ins (C:Addr) (ns:List Str) (l:List D)
mutual
inductive Is (K:PySem.W.Frag) (H:Hp):V→D→Prop where
 |non:Is K H .non .non
 |bl (b:Bool):Is K H (.bl b) (.bl b)
 |int (i:Int):Is K H (.int i) (.int i)
 |str (x:Str):Is K H (.str x) (.str x)
 |tup {a:Addr} {xs:List V} {ds:List D}:SqT K H a xs→IsL K H xs ds→Is K H (.ref a) (.tup ds)
 |lst {a:Addr} {xs:List V} {ds:List D}:SqL K H a xs→IsL K H xs ds→Is K H (.ref a) (.lst ds)
 |ins {a C dx:Addr} {ns:List Str} {xs:List V} {ds:List D}:H a=some (.ins C dx (ns.zip xs))→ns.length=xs.length→IsL K H xs ds→Is K H (.ref a) (.ins C ns ds)
inductive IsL (K:PySem.W.Frag) (H:Hp):List V→List D→Prop where
 |nil:IsL K H [] []
 |cons {v:V} {d:D} {vs:List V} {ds:List D}:Is K H v d→IsL K H vs ds→IsL K H (v::vs) (d::ds)
end
theorem wU {H:Hp} {p:Addr} {o:HO} (h:H p=none):VZ H (upd H p o):=fun b u e=>by rw [yG (vw e h)];exact e
theorem IsL.len {K:PySem.W.Frag} {H:Hp}:∀{vs:List V} {ds:List D},IsL K H vs ds→vs.length=ds.length
 |_,_,.nil=>rfl
 |_,_,.cons _ l=>by rw [List.length_cons,List.length_cons,l.len]
theorem IsL.get {K:PySem.W.Frag} {H:Hp}:∀{vs:List V} {ds:List D} {i:Nat} {d:D},IsL K H vs ds→ds[i]? =some d→∃v,vs[i]? =some v∧Is K H v d
 |_,_,_,_,.nil,e=>by simp at e
 |_,_,0,_,.cons h _,e=>by simp at e;subst e;exact ⟨_,rfl,h⟩
 |_,_,i+1,d,.cons _ l,e=>by
  obtain ⟨v,e1,e2⟩:=l.get (i:=i) (d:=d) (by simpa using e)
  exact ⟨v,by simpa using e1,e2⟩
theorem Is.int_inv {K:PySem.W.Frag} {H:Hp} {v:V} {i:Int} (h:Is K H v (.int i)):v= .int i:=by cases h;rfl
theorem Is.bl_inv {K:PySem.W.Frag} {H:Hp} {v:V} {b:Bool} (h:Is K H v (.bl b)):v= .bl b:=by cases h;rfl
theorem Is.str_inv {K:PySem.W.Frag} {H:Hp} {v:V} {b:Str} (h:Is K H v (.str b)):v= .str b:=by cases h;rfl
theorem Is.non_inv {K:PySem.W.Frag} {H:Hp} {v:V} (h:Is K H v .non):v= .non:=by cases h;rfl
theorem Is.tup_inv {K:PySem.W.Frag} {H:Hp} {v:V} {ds:List D} (h:Is K H v (.tup ds)):∃a xs,v= .ref a∧SqT K H a xs∧IsL K H xs ds:=by cases h with|tup a b=>exact ⟨_,_,rfl,a,b⟩
theorem Is.lst_inv {K:PySem.W.Frag} {H:Hp} {v:V} {ds:List D} (h:Is K H v (.lst ds)):∃a xs,v= .ref a∧SqL K H a xs∧IsL K H xs ds:=by cases h with|lst a b=>exact ⟨_,_,rfl,a,b⟩

noncomputable abbrev dQ (a b:Int):D:= .tup [.int a,.int b]


section
variable {σ:St} {H:Hp} {Q:VK} {ta tb tc:TE} {D':UO} {v:V} {i:Nat}
end
local macro_rules | `(tactic| walk_at "rd") => `(tactic| repeat (first | refine i_seq ?_ | refine i_asg ?_ | refine i_gName ?_ | refine i_var rfl ?_ | refine i_c ?_ | refine i_op ?_ | refine i_I0 ?_ | refine i_U ?_ | refine i_un ?_ | refine i_cmp ?_ | refine i_2 ?_ | refine i_B ?_ | refine i_bl ?_ | refine i_not ?_ | refine i_and ?_ | refine i_or ?_ | refine i_andV ?_ | refine i_orV ?_ | refine i_notV ?_ | refine i_ifE ?_ | refine i_next ?_ | refine i_drop ?_ | refine i_ret ?_ | refine i_retN ?_ | refine i_ifS ?_ | refine i_nil ?_ | refine i_cons ?_ | refine i_call ?_ | refine i_CB ?_ | refine i_tup ?_ | refine i_lst ?_ | refine i_par ?_ | refine i_par2 ?_ | refine i_raise ?_))
end L2
namespace L2
open PySem PySem.Spec PyProof.Rows
section
variable {σ:St} {H:Hp} {Q:VK} {D':UO} {E:XK}
end
theorem Fun.okE {P:Program} {w:World} {K:PySem.W.Frag} {mg:Str→Option Value} {base:Heap} {x qual:Str} {st:Stmt} {f:Addr} {fd:FuncData} {N ps:List Str} {k:Nat} {sp:Sp} (F:Fun K x qual st f fd) (S:zM N ps (zt st)) (len:∀vs H Q E,sp vs H Q E→vs.length=ps.length)
  (hbody:∀(cdv:Value) (A:Around) (outer:List Env) (s:Shared) (H:Hp) (vs:List V) (Q:VK) (E:XK),vx k (A.deeper (envOfC qual (zt st) s.heap.objs.size f cdv))→sp vs H Q E→
   ∃t,PSs (zdn (CXE P w) P w K mg base N qual (zt st) f cdv A outer s H E) (Yk st) t∧t {nx:=fun _ H'=>Q .non H',rt:=Q} (Wm N vs) H):yB P w K mg base (CXE P w) (k+1) f fd ps sp:=by
 obtain ⟨oc,od,kV,doc,pm,an,cdv,ct,osl,rfl,lk,hcd⟩:=F.ex
 exact zmi lk hcd S len fun A outer s H vs Q E hr hsp=>hbody cdv A outer s H vs Q E hr hsp
end L2
namespace L2
open PySem PySem.Spec PyProof.Rows
section
variable {σ:St} {H:Hp} {Q:VK} {D':UO} {E:XK} {EX:Value→Hp→Prop}
end
end L2
namespace L2
open PySem PySem.Spec PyProof.Rows
section
variable {X:Cx} {K:PySem.W.Frag}
theorem zT (h:X.K=K:=by rfl):IxR X (zkI K):=h ▸ zkJ
theorem yH (h:X.K=K:=by rfl):IxR X (zkH K):=h ▸ ziM
theorem WU (h:X.K=K:=by rfl):vq X (.builtin "isinstance") (ziU K):=h ▸ zhw
theorem yi (h:X.K=K:=by rfl):vq X (.builtin "len") (fun xs H Q=>∃p ys,xs=[.ref p]∧(SqL K H p ys∨SqT K H p ys)∧Q (.int ys.length) H):=h ▸ zcp
theorem xK (h:X.K=K:=by rfl):vq X (.type "tuple") (fun xs H Q=>∃p ys,xs=[.ref p]∧((SqL K H p ys∧∀l,H l=none→Q (.ref l) (upd H l (.tup ys)))∨(SqT K H p ys∧Q (.ref p) H))):=h ▸ zbl
theorem zeN (h:X.K=K:=by rfl):OpR X (compareOp .In) (rIn K false):=h ▸ zgr
theorem Xc (h:X.K=K:=by rfl):OpR X (compareOp .NotIn) (rIn K true):=h ▸ zco
theorem Xd (h:X.K=K:=by rfl):SlR X (zhl K):=h ▸ ziN
variable {tg l:Expr} {tl:TE}
theorem Ua (hl:PE X l tl) (h:X.K=K:=by rfl):PI X tg l (zha K tl):=h ▸ ziC hl
theorem xG (hl:PE X l tl) (h:X.K=K:=by rfl):PI X tg l (zkA K tl):=h ▸ zkB hl
theorem WV {es:List Expr} {k:Nat} {t:TGs} {n:Nat} {pos:Pos} (hc:X.calm=true) (h:PGs X es t) (hK:X.K=K:=by rfl)
  (hn:(assignEach es X.env).length=n:=by rfl) (hst:(assignEach es X.env).findIdx? (·.1)=none:=by rfl):PG X (.Tuple es k pos) (ziB K n t):=hK ▸ zky hc h hn hst
theorem xb {sc:Scope}:wT X sc [] []:=trivial
theorem yO {sc:Scope} {r:List (Option Nat)} {n:List Str} {x:Str} (h:wT X sc r n):wT X sc (none::r) (x::n):=h
theorem Ym {sc:Scope} {r:List (Option Nat)} {n:List Str} {x:Str} {i:Nat} (h1:X.N[i]? =some x) (h2:sc.names.lookup x=some .free) (h:wT X sc r n):wT X sc (some i::r) (x::n):=⟨⟨h1,h2⟩,h⟩
end
noncomputable def zj0 (osc sc:Scope):Bool:=sc.names.all (fun y=>y.2 != .cell)&&sc.kind== .function&&sc.names.all (fun y=>y.2 != .local||sc.names.lookup y.1==some .local)&&
 sc.names.all (fun y=>y.2 != .free||(osc.names.lookup y.1==some .cell||osc.names.lookup y.1==some .free))
theorem blk {X:Cx} {osc sc:Scope} (hs:X.env.scope=osc) (h:zj0 osc sc=true):WR X sc:=by
 unfold zj0 at h
 simp only [Bool.and_eq_true,List.all_eq_true,bne_iff_ne,ne_eq,beq_iff_eq,Bool.or_eq_true] at h
 obtain ⟨⟨⟨h1,h2⟩,h3⟩,h4⟩:=h
 refine ⟨h1,h2,fun y hy e=>(h3 y hy).resolve_left fun z=>z e,fun y hy e=> ?_⟩
 show X.env.scope.names.lookup y.1=_∨X.env.scope.names.lookup y.1=_
 rw [hs]
 exact (h4 y hy).resolve_left fun z=>z e
end L2
namespace L2
open PySem PySem.Spec PyProof.Rows
section
variable {g:TG} {tb:TS} {σ:St} {H:Hp} {nx:St→Hp→Prop} {rt:VK}
end
end L2
namespace L2
open PySem PySem.Spec PyProof.Rows

mutual
noncomputable def D.depth:D→Nat
 | .tup l=>D.depths l+1
 | .lst l=>D.depths l+1
 | .ins _ _ _=>1000
 |_=>0
noncomputable def D.depths:List D→Nat
 |[]=>0
 |d::r=>max (D.depth d) (D.depths r)
end
section
variable {X:Cx} {pins:List (Addr×Obj)} {σ:St} {H:Hp} {s:Shared}
end
end L2
namespace L2
open PySem PySem.Spec PyProof.Rows
section
variable {σ:St} {H:Hp} {Q:VK} {D':UO} {cap:List (Option Nat)} {wi:TI} {g:TG} {tt:TT} {te:TE}
variable {acc:Addr} {H0:Hp} {Qh:Hp→Prop}
end
end L2
namespace L2
open PySem PySem.Spec PyProof.Rows
section
variable {X:Cx}
end
end L2
namespace L2
open PySem PySem.Spec PyProof.Rows
section
variable {X:Cx} {pins:List (Addr×Obj)} {σ:List (Option V)} {H H':Hp} {s:Shared} {h':Heap}
theorem Inv.turnedL {t':Nat} {fp:List Addr} (I:Inv X pins σ H s) (k:∀b o,b∉fp→s.heap.get? b=some o→h'.get? b=some o) (hf:∀b∈fp,zbj X pins H b):Inv X pins σ H {s with heap:=h',toks:=t'}:=by
 have nit:∀b u,H b=some u→b∉fp:=fun b u e z=>by rw [(hf b z).1] at e;cases e
 refine I.step (g':=s.gens) (d':=s.drawn) (ch:=fp) (fun b hb=> ?_) (fun b o _ _ hc e _=>k b o hc e) (fun b o _ _ hc e _=>⟨o.slots,k b o hc e⟩) (fun _ _ _ _ n=>n)
  (fun b o hc e=>⟨o,k b o hc e⟩) (fun _ _ e=>e) (fun _ _ _ e=>e) (fun b ps e=>⟨#[],by rw [e];simp⟩) (fun m hm=> ?_) (fun b u e=> ?_) I.bare
 ·obtain ⟨f0,f1,f2,f3,f4,f5⟩:=hf b hb
  exact ⟨f3,f1,f4,f5⟩
 ·obtain ⟨o,es,ep,ho,r⟩:=hm
  exact ⟨o,es,ep,k _ o (fun z=>(hf _ z).2.1 rfl) ho,r⟩
 ·refine (I.hok b u e).stay (fun c v hc q=>k c v ?_ q) (fun _ q=>q) fun _ _ q=>q
  rcases hc with z|z
  ·rw [z];exact nit b u e
  ·exact nit c _ z
theorem Inv.turnedT {t':Nat} {fp:List Addr} {ys:List V} {us:List Value} (I:Inv X pins σ H s) (hv:yr ys us) (hl:ys.length≤sizeLine) (k:∀b o,b∉fp→s.heap.get? b=some o→h'.get? b=some o)
  (hp:h'.get? s.heap.objs.size=some {cls:= .type "tuple",data:= .seq us.toArray}) (hf:∀b∈fp,zbj X pins H b) (hx:∀b∈fp,∃o,s.heap.get? b=some o):
  Inv X pins σ (upd H s.heap.objs.size (.tup ys)) {s with heap:=h',toks:=t'}∧H s.heap.objs.size=none∧∀b∈fp,upd H s.heap.objs.size (.tup ys) b=none:=by
 have fr:H s.heap.objs.size=none:=I.hok.fresh (Nat.le_refl _)
 have nb:∀b∈fp,b≠s.heap.objs.size:=fun b hb z=>by
  obtain ⟨o,e⟩:=hx b hb
  exact absurd (Heap.lt_size e) (by rw [z];exact Nat.lt_irrefl _)
 have fb:∀b∈fp,upd H s.heap.objs.size (.tup ys) b=none:=fun b hb=>by rw [yG (nb b hb)];exact (hf b hb).1
 have I0:Inv X pins σ (upd H s.heap.objs.size (.tup ys)) {s with heap:=s.heap.push {cls:= .type "tuple",data:= .seq us.toArray}}:=
  I.laid (t':=s.toks) (fun b o e=>Heap.get?_push_of_some _ e) (Nat.le_refl _) ⟨hl,us,hv,Xl.new _ _⟩
 refine ⟨Inv.turnedL (s:={s with heap:=s.heap.push {cls:= .type "tuple",data:= .seq us.toArray}}) (t':=t') (fp:=fp) I0 (fun b o hb e=> ?_) (fun b hb=> ?_),fr,fb⟩
 ·by_cases z:b=s.heap.objs.size
  ·subst z
   rw [Heap.get?_push_size _ rfl] at e
   cases e
   exact hp
  ·refine k b o hb ?_
   rwa [Heap.get?_push_ne _ _ _ z] at e
 ·obtain ⟨f0,f1,f2,f3,f4,f5⟩:=hf b hb
  exact ⟨fb b hb,f1,f2,f3,f4,f5⟩
end
end L2
namespace L2
open PySem PySem.Spec PyProof.Rows
section
variable {X:Cx}
end
structure ZA (z TI TO i1 i2:Addr):Prop where
 TIz:TI≠z
 TOz:TO≠z
 i1z:i1≠z
 i2z:i2≠z
 TITO:TI≠TO
 TIi1:TI≠i1
 TIi2:TI≠i2
 TOi1:TO≠i1
 TOi2:TO≠i2
 i12:i1≠i2
section
variable {X:Cx}
end
section
variable {σ:St} {H:Hp} {cap:List (Option Nat)} {g:TG} {tt:TT} {te:TE} {acc:Addr} {H0:Hp} {Qh:Hp→Prop}
structure znn (J:It) (n:Nat) (f:Nat→Option (V×V)) (ok:Hp→Prop):Prop where
 go:∀i H,ok H→i<n→J.go i H
 stop:∀H,ok H→J.stop n H
 yld:∀i H x H',ok H→i<n→J.yld i H x H'→∃p u v,x= .ref p∧H p=none∧H'=upd H p (.tup [u,v])∧f i=some (u,v)
end
end L2
namespace L2
open PySem PySem.Spec PyProof.Rows
section
variable {σ:St} {H:Hp} {Q:VK} {D':UO}
end
section
variable {σ:St} {H:Hp} {Q:VK}
end
end L2
namespace L2
open PySem PySem.Spec PyProof.Rows
open Classical in
noncomputable def frG (H H':Hp):Hp:=fun b=>match H' b with
 |some (.lst xs)=>if H b=none then some (.lst xs) else none
 |o=>o
noncomputable def Dom (H H':Hp):Prop:=∀b,H' b=none→H b=none
structure Acc (K:PySem.W.Frag) (H0:Hp) (acc:Addr) (ys:List V) (ds:List D) (H:Hp):Prop where
 at_:H acc=some (.lst ys)
 new:IsL K (frG (upd H0 acc (.lst [])) H) ys ds
 same:VZ H0 H
 dom:Dom (upd H0 acc (.lst [])) H
end L2
namespace L2
open PySem PySem.Spec PyProof.Rows
section
variable {X:Cx}
theorem UV (ns:List Int):∀k,preSum (fun i=>ns.getD i 0) k=(ns.take k).sum
 |0=>by simp [preSum]
 |k+1=>by
  unfold preSum
  rw [UV ns k,List.take_add_one,List.sum_append]
  cases h:ns[k]? <;>simp [List.getD_eq_getElem?_getD,h]
noncomputable def zmo (K:PySem.W.Frag):List V→Hp→VK→Prop:=fun xs H Q=>∃(p:Addr) (ns:List Int),xs=[.ref p]∧SqL K H p (ns.map V.int)∧Q (.int ns.sum) H
theorem UW {K:PySem.W.Frag} (hc:X.calm=true) (hK:X.K=K:=by rfl):vq X (.builtin "sum") (zmo K):=by
 subst hK
 intro pins s σ H xs us Q I r h
 obtain ⟨p,ns,rfl,hq,q⟩:=h
 obtain ⟨u,rfl,ru⟩:=Xb r
 cases ru
 obtain ⟨its,rv,pl,hz⟩:=I.list hq
 have lt:p<s.heap.objs.size:=by
  obtain ⟨o,n,e,_⟩:=id pl
  exact Heap.lt_size e
 have hl:=rv.length
 rw [List.length_map] at hl
 refine call_sum_walkAnyS (wpAny_pyIter_list pl.isList ?_)
 have W:=(Walks.list (prog:=X.prog) (w:=X.w) (A:=X.A.in1) (I.ok.hd hc) s.heap.objs.size p (Nat.ne_of_lt lt) its.toArray).toS
 refine ⟨s.heap.objs.size,_,_,_,_,_,_,fun i=>ns.getD i 0,rfl,W,?_,?_,?_,?_⟩
 ·exact ⟨⟨_,Heap.get?_push_size _ rfl,rfl,rfl⟩,Heap.IsList.push pl.isList _⟩
 ·intro b hb
  rw [Heap.size_push]
  rcases (by simpa using hb:b=s.heap.objs.size∨b=p) with rfl|rfl
  ·exact Nat.lt_succ_self _
  ·exact Nat.lt_succ_of_lt lt
 ·intro i v hv
  have hv:its[i]? =some v:=by simpa using hv
  have hi:i<ns.length:=by rw [hl];exact (List.getElem?_eq_some_iff.1 hv).1
  obtain ⟨u,hu,t,ru⟩:=rv.get (i:=i) (x:=V.int ns[i]) (by rw [List.getElem?_map,List.getElem?_eq_getElem hi];rfl)
  rw [hu] at hv
  cases hv
  refine ⟨t,?_⟩
  rw [ru]
  show Value.int ns[i] t=Value.int (ns.getD i 0) t
  rw [List.getD_eq_getElem?_getD,List.getElem?_eq_getElem hi,Option.getD_some]
 ·intro s' t' m
  have I1:Inv X pins σ H {s with heap:=s'.heap,toks:=s'.toks}:=I.kept fun b o e=>m.heap b o (fun z=>by
   have z:b=s.heap.objs.size:=by simpa using z
   exact absurd (Heap.lt_size e) (by rw [z];exact Nat.lt_irrefl _)) (Heap.get?_push_of_some _ e)
  have e:({s with heap:=s'.heap,toks:=s'.toks}:Shared)=s':=by
   have h1:=m.gens
   have h2:=m.drawn
   have h3:=m.os
   cases s'
   simp only at h1 h2 h3
   subst h1 h2 h3
   rfl
  rw [e] at I1
  refine ⟨.int ns.sum,H,I1,⟨t',?_⟩,q⟩
  rw [UV]
  have:its.toArray.size=ns.length:=by rw [List.size_toArray,←hl]
  rw [this,List.take_length]
end
section
variable {σ:St} {H:Hp} {Q:VK}
end
end L2
namespace L2
open PySem PySem.Spec PyProof.Rows
section
variable {σ:St} {H:Hp} {v:V}
end
end L2
namespace L2
open PySem PySem.Spec PyProof.Rows PyProof
section
variable {X:Cx}
noncomputable def ziV:V→Option Int→Option Int→Hp→VK→Prop:=fun x lo hi H Q=>∃z,x= .str z∧z.length≤sizeLine∧Q (.str (Txt.slice z lo hi)) H
theorem zkP:SlR X ziV:=by
 intro pins s σ H x v vl vu lo hi sl Q I rx hs pl pu h
 obtain ⟨z,rfl,hz,q⟩:=h
 obtain ⟨t,rfl⟩:=rx
 refine ⟨"str",_,F.slot_str_getitem.lookup,typeIs_str _ _ _,?_⟩
 obtain ⟨l,hl1,hl2⟩:∃l:Option (Int×Tok),vl=partValue l∧l.map (·.1)=lo:=by
  cases pl with
  |none=>exact ⟨none,rfl,rfl⟩
  |int i t=>exact ⟨some (i,t),rfl,rfl⟩
 obtain ⟨u,hu1,hu2⟩:∃l:Option (Int×Tok),vu=partValue l∧l.map (·.1)=hi:=by
  cases pu with
  |none=>exact ⟨none,rfl,rfl⟩
  |int i t=>exact ⟨some (i,t),rfl,rfl⟩
 subst hl1 hu1 hl2 hu2
 exact wpAny_getItem_str_slice (l:=l) (u:=u) (st:=none) hs rfl (post_val_or_str ⟨Nat.le_trans (Txt.slice_le z _ _) hz,fun t' k=>⟨.str _,H,I.tok _,⟨_,rfl⟩,q⟩⟩)
theorem zkQ {K:PySem.W.Frag} {a b:String} (h1:(Value.type a==Value.type b)=false) (h:(fastBuiltinMro a).map (·.contains (.type b))=some false) (hm:PySem.W.kitMeta b=true) (hs:PySem.W.subIn K (.type a) (.type b)=(fastBuiltinMro a).map (·.contains (.type b))):PySem.W.kitOne K (.type a) (.type b)=some false:=by
 unfold PySem.W.kitOne PySem.W.kitCls
 rw [if_neg (by rw [h1];decide)]
 show (if PySem.W.kitMeta b=true then PySem.W.subIn K (.type a) (.type b) else none)=_
 rw [if_pos hm,hs,h]
end
end L2
namespace L2
open PySem PySem.Spec PyProof.Rows
open AutoSeq1 (wpAny_loadPart')
section
variable {prog:Program} {w:World} {A:Around} {E:Value→Shared→Prop} {s:Shared}
theorem zeO {h h':Heap} {a t:Addr} {i:Nat} (x:IsTupIter h a t i) (e:∀o,h.get? a=some o→h'.get? a=some o):IsTupIter h' a t i:=let ⟨o,ho,r⟩:=x;⟨o,e o ho,r⟩
theorem zmp {it t:Addr} {i:Nat} {its:Array Value} {x:Value} {Q:Value→Shared→Prop} (hit:IsTupIter s.heap it t i) (ht:IsTup s.heap t its) (hx:its[i]? =some x)
  (q:∀h',IsTupIter h' it t (i+1)→Heap.SameBut it s.heap h'→Q x {s with heap:=h'}):wpAny (model prog w) A (Builtin.SmallTypes.nextOf (.ref it)) Q E s:=by
 obtain ⟨io,hio,ic,ida⟩:=id hit
 obtain ⟨tob,hto,_,tn,tda⟩:=ht
 unfold Builtin.SmallTypes.nextOf
 refine wpAny_bind (wpAny_callSpecial?_slot (name:=Str.ofString "__next__") hit.typeIs slot_tupleiter_next (wpAny_call_entry slot_tupleiter_next hit.typeIs entry_tupleiter_next ?_ (args_tupleiter_next _)))
 refine wpAny_bind (m:=field (.ref it) 0) (wpAny_field hio ida (x:= .ref t) rfl ?_)
 show wpAny _ _ (if (Value.ref t==Value.none)=true then _ else _) _ _ s;rw [if_neg (show ¬((Value.ref t==Value.none)=true) from Bool.false_ne_true)]
 refine wpAny_bind (m:=field (.ref it) 1) (wpAny_field hio ida (x:= .int i 0) rfl ?_)
 refine wpAny_bind (m:=seqItems? (.ref t)) (wpAny_seqItems hto tda ?_)
 simp only [Int.toNat_natCast,hx]
 refine wpAny_bind (wpAny_setField hio ida (by simp) (wpAny_pure ⟨x,rfl,wpAny_pure (q _ ⟨_,Heap.get?_update_self _ hio (Obj.isFreed_of_fields (Obj.data_mapFields ida _)),(Obj.cls_mapFields ..).trans ic,?_⟩ (Heap.SameBut.update ..))⟩))
 rw [Obj.data_mapFields ida]
 simp [rawInt]
theorem zbZ {it t:Addr} {i:Nat} {its:Array Value} {Q:Value→Shared→Prop} (hh:A.handled=none) (hit:IsTupIter s.heap it t i) (ht:IsTup s.heap t its) (hx:its[i]? =none)
  (q:∀h' e,Heap.ExtBut it s.heap h'→(∃o,h'.get? e=some o∧o.cls= .type "StopIteration")→E (.ref e) {s with heap:=h'}):wpAny (model prog w) A (Builtin.SmallTypes.nextOf (.ref it)) Q E s:=by
 obtain ⟨io,hio,ic,ida⟩:=id hit
 obtain ⟨tob,hto,_,tn,tda⟩:=ht
 unfold Builtin.SmallTypes.nextOf
 refine wpAny_bind (wpAny_callSpecial?_slot (name:=Str.ofString "__next__") hit.typeIs slot_tupleiter_next (wpAny_call_entry slot_tupleiter_next hit.typeIs entry_tupleiter_next ?_ (args_tupleiter_next _)))
 refine wpAny_bind (m:=field (.ref it) 0) (wpAny_field hio ida (x:= .ref t) rfl ?_)
 show wpAny _ _ (if (Value.ref t==Value.none)=true then _ else _) _ _ s;rw [if_neg (show ¬((Value.ref t==Value.none)=true) from Bool.false_ne_true)]
 refine wpAny_bind (m:=field (.ref it) 1) (wpAny_field hio ida (x:= .int i 0) rfl ?_)
 refine wpAny_bind (m:=seqItems? (.ref t)) (wpAny_seqItems hto tda ?_)
 simp only [Int.toNat_natCast,hx]
 refine wpAny_bind (wpAny_rule (wpAny_bind (wpAny_setField hio ida (by simp) ?_)))
 refine wpAny_bind (m:=newExc (.type "StopIteration") []) ?_
 simp only [newExc,newTuple]
 refine wpAny_bind (wpAny_newObj_type ?_ (by size_fits));refine wpAny_bind (m:=firstArgMember _ _) (wpAny_of_eq (a:=Value.none) (by first|rfl|(simp only [firstArgMember];rfl)) ?_);refine wpAny_newObj_type ?_ (by size_fits)
 simp only [raiseNew]
 refine wpAny_bind (wpAny_handled ?_);(first|rw [show A.in1.handled=none from hh]|rw [hh])
 exact wpAny_bind (wpAny_pure (wpAny_throw (q _ _ (((Heap.SameBut.update ..).extBut.push _).push _) ⟨_,Heap.get?_push_size _ rfl,rfl⟩)))
theorem zkR (hh:A.handled=none) (it t:Addr) (hne:t≠it) (its:Array Value):Draws prog w A it [it,t] its.size (fun i v=>its[i]? =some v) (fun i h=>IsTupIter h it t i∧IsTup h t its) where
 live:=fun _ _ st=>let ⟨o,ho,_⟩:=st.1;⟨o,ho⟩
 frame:=fun _ _ _ st hk=>⟨zeO st.1 fun o e=>hk it (by simp) o e,let ⟨o,ho,r⟩:=st.2;⟨o,hk t (by simp) o ho,r⟩⟩
 item:=fun i s Q E hi st hQ=>zmp st.1 st.2 (x:=its[i]) (by simp [hi]) fun h' hit' hs'=>hQ _ h' s.toks (by simp [hi]) ⟨hit',st.2.extBut hs'.extBut hne⟩ hs'
 done:=fun s Q E st hE=>zbZ hh st.1 st.2 (by simp) hE
theorem zdE (t:Addr) (its:Array Value) (n:Nat) (dct:Option Addr) (sl:Array (Option Value)):
  Meets (Builtin.«enumerate.__new__» ⟨[.type "enumerate",.ref t],[]⟩) (fun _ R s=>s.heap.get? t=some {cls:= .type "tuple",dict:=dct,data:= .seq its n,slots:=sl}∧
   R (.ok (.ret (.ref (s.heap.push {cls:= .type "tuple_iterator",data:= .fields #[.ref t,.int 0 0]}).objs.size)))
    {s with heap:=(s.heap.push {cls:= .type "tuple_iterator",data:= .fields #[.ref t,.int 0 0]}).push {cls:= .type "enumerate",data:= .fields #[.none,.bool false,.ref s.heap.objs.size,rawInt 0,.none,.none]}}):=
 .of_wp fun prog w A R s h=>by
  obtain ⟨hp,g,d,tk,os⟩:=s
  obtain ⟨ht,h⟩:=h
  have hsub:=sub_enumerate
  have hT:IsTup (Shared.heap ⟨hp,g,d,tk,os⟩) t its:=⟨_,ht,rfl,n,rfl⟩
  wp_walk using wpAny_loadPart' ht
  refine wpAny_stack_any fun st=>wpAny_pure ?_
  split
  ·rename_i c _ _ _ _ _
   cases (c==Value.type "enumerate")<;>(wp_walk using wpAny_loadPart' ht,iter_tuple hT;exact ⟨_,rfl,h⟩)
  ·wp_walk using wpAny_loadPart' ht,iter_tuple hT
   exact ⟨_,rfl,h⟩
theorem zeP {t:Addr} {its:Array Value} {Q:Value→Shared→Prop} (hT:IsTup s.heap t its)
  (h:∀h',IsEnum h' (s.heap.objs.size+1) s.heap.objs.size 0 .none→IsTupIter h' s.heap.objs.size t 0→h'.objs.size=s.heap.objs.size+2→(∀b o,s.heap.get? b=some o→h'.get? b=some o)→Q (.ref (s.heap.objs.size+1)) {s with heap:=h'}):
  wpAny (model prog w) A (call (.type "enumerate") [.ref t]) Q E s:=by
 obtain ⟨⟨c,dct,dt,sl⟩,ht,hc,n,hd⟩:=hT
 replace hc:c= .type "tuple":=hc
 replace hd:dt= .seq its n:=hd
 subst hc hd
 refine callType_new F.called_enumerate (by decide) (F.typeCall_enumerate_1 _) (F.newCall_enumerate_1 _) (fun obj=>F.args_object_init_2 obj _) F.entry_enumerate_new (zdE t its n dct sl) ⟨ht,?_⟩
 have hz:(s.heap.push {cls:= .type "tuple_iterator",data:= .fields #[.ref t,.int 0 0]}).objs.size=s.heap.objs.size+1:=Heap.size_push ..
 have he:=Heap.get?_push_size (s.heap.push {cls:= .type "tuple_iterator",data:= .fields #[.ref t,.int 0 0]}) (o:={cls:= .type "enumerate",data:= .fields #[.none,.bool false,.ref s.heap.objs.size,rawInt 0,.none,.none]}) rfl
 show _∧_
 rw [hz] at he ⊢
 exact ⟨⟨_,he,rfl⟩,h _ he ⟨_,Heap.get?_push_of_some _ (Heap.get?_push_size _ rfl),rfl,rfl⟩ (by rw [Heap.size_push,hz]) fun b o x=>Heap.get?_push_of_some _ (Heap.get?_push_of_some _ x)⟩
end
noncomputable def zmq (K:PySem.W.Frag) (a:Addr):It:=
 ⟨fun i H=>∃xs x,SqT K H a xs∧xs[i]? =some x,fun i H x H'=>∃p y,x= .ref p∧H p=none∧H'=upd H p (.tup [.int i,y])∧∀xs,SqT K H a xs→xs[i]? =some y,fun i H=>∃xs,SqT K H a xs∧xs.length≤i⟩
theorem ziW {X:Cx} {pins:List (Addr×Obj)} {σ:St} {H:Hp} {s:Shared} {a:Addr} {xs ys:List V} (I:Inv X pins σ H s) (h1:SqT X.K H a xs) (h2:SqT X.K H a ys):xs=ys:=I.tuple_inj h1 h2
theorem zeQ {P:Program} {w:World} {K:PySem.W.Frag} {elts:List Expr} {k:Nat} {tp:Pos} (a e it:Addr) (hne:e≠it):
  zex P w K (.Tuple elts k tp) (zmq K a) [e,it] e (fun i h=>(∃old,IsEnum h e it i old)∧IsTupIter h it a i) where
 mem:=by simp
 obj:=fun i h st b hb=>by
  obtain ⟨⟨old,he⟩,o,e',c,d⟩:=st
  rcases (by simpa using hb:b=e∨b=it) with rfl|rfl
  ·exact ⟨_,he,fun v z=>by cases z⟩
  ·exact ⟨o,e',fun v z=>by rw [d] at z;cases z⟩
 keep:=fun i h h' st k=>⟨let ⟨old,he⟩:=st.1;⟨old,k e (by simp) _ he⟩,zeO st.2 fun o e=>k it (by simp) o e⟩
 item:=by
  intro X hP hw hK hc i pins s σ H E I hf st hg
  subst hP hw hK
  obtain ⟨xs,x,hq,hx⟩:=hg
  obtain ⟨its,rv,p,hz⟩:=I.tuple hq
  obtain ⟨u,hu,ru⟩:=rv.get hx
  obtain ⟨⟨old,he⟩,hit⟩:=st
  obtain ⟨oi,hoi,ci,_⟩:=id hit
  obtain ⟨ot,hot,ct,_⟩:=id p
  have nai:a≠it:=fun z=>by subst z;rw [hoi] at hot;cases hot;rw [ci] at ct;exact absurd ct (by decide)
  have nae:e≠a:=fun z=>by subst z;rw [he] at hot;cases hot;exact absurd (show Value.type "enumerate"= .type "tuple" from ct) (by decide)
  have hi:i<its.toArray.size:=by have:=(List.getElem?_eq_some_iff.1 hu).1;simpa using this
  refine wpAny_pyNext_enum_itemD (zkR (prog:=X.prog) (w:=X.w) (A:=X.A.in1) (I.ok.hd hc) it a nai its.toArray) he ⟨hit,p⟩ hi hne (by simp [hne,nae]) fun y h1 tk hP heo hst1 ht1 hz1 hk1=> ?_
  have hy:y=u:=by
   have:its.toArray[i]? =some u:=by simpa using hu
   rw [this] at hP
   exact (Option.some.inj hP).symm
  subst hy
  refine ⟨_,rfl,?_⟩
  refine wpAny_letOwnedTupleGo_enum (s:={s with heap:=h1,toks:=tk+1}) heo fun h2 he2 hs2=> ?_
  have hs2:Heap.SameBut e h1 h2:=hs2
  have ltE:e<s.heap.objs.size:=Heap.lt_size he
  have vv:yr [V.int i,x] [.int i tk,y]:= .cons ⟨_,rfl⟩ (.cons ru .nil)
  have T:=Inv.turnedT (h':=h2) (t':=tk+1) (fp:=[e,it]) I vv (by show 2≤sizeLine;decide) (fun b o hb eb=> ?_) ((hs2.2 _ (Nat.ne_of_gt ltE)).trans ht1) hf (fun b hb=> ?_)
  ·obtain ⟨I2,fr,fb⟩:=T
   exact ⟨.ref s.heap.objs.size,_,I2,rfl,⟨_,x,rfl,fr,rfl,fun ys hy=>by rw [ziW I hy hq];exact hx⟩,⟨⟨_,he2⟩,zeO hst1.1 fun o eo=>(hs2.2 it hne.symm).trans eo⟩,fb⟩
  ·have hb:b≠e∧b≠it:=by simpa using hb
   exact (hs2.2 b hb.1).trans (hk1 b o hb.1 hb.2 eb)
  ·rcases (by simpa using hb:b=e∨b=it) with rfl|rfl
   ·exact ⟨_,he⟩
   ·exact ⟨oi,hoi⟩
 done:=by
  intro X hP hw hK hc i pins s σ H E I hf st hg
  subst hP hw hK
  obtain ⟨xs,hq,hx⟩:=hg
  obtain ⟨its,rv,p,hz⟩:=I.tuple hq
  have hl:=rv.length
  obtain ⟨⟨old,he⟩,hit⟩:=st
  have hT:s.TypeIs (.ref e) "enumerate":=⟨_,he,rfl⟩
  unfold pyNext
  refine wpAny_bind (wpAny_attempt (wpAny_callSpecial?_slot (name:=Str.ofString "__next__") hT F.slot_enumerate_next (wpAny_call_entry F.slot_enumerate_next hT F.entry_enumerate_next ?_ (F.args_enumerate_next_1 _))))
  refine wpAny_bind (m:=field (.ref e) 2) (wpAny_field he rfl (x:= .ref it) rfl ?_)
  refine wpAny_bind (zbZ (I.ok.hd hc) hit p (by simp;omega) fun h' ex he' hx'=> ?_)
  obtain ⟨oe,hoe,hce⟩:=hx'
  refine wpAny_bind (wpAny_isInstance (T:="StopIteration") (b:=true) ⟨oe,hoe,hce⟩ isSubtype_stop (wpAny_pure ?_))
  exact ⟨rfl,Inv.turnedL (t':=s.toks) (fp:=[e,it]) I (fun b o hb eo=>he' b o (fun z=>hb (by simp [z])) eo) hf⟩
 self:=fun _ _ _ _ _ st h=>let ⟨⟨_,he⟩,_⟩:=st;wpAny_pyIter_enum he h
section
variable {X:Cx}
noncomputable def zhx (K:PySem.W.Frag) (ta:TA):TI:=fun σ H R=>ta σ H fun vs H1=>∃a,vs=[.ref a]∧(∃xs,SqT K H1 a xs)∧R (zmq K a) H1
theorem zdF {K:PySem.W.Frag} {elts:List Expr} {k:Nat} {tp:Pos} {l:Expr} {ta:TA} {p pos:Pos} (hg:Gl X "enumerate") (hm:X.mg "enumerate"=none) (ha:PA X [l] ta) (hK:X.K=K:=by rfl) (hs:starEach [l] X.env=[(false,eval l X.env)]:=by rfl):
  PI X (.Tuple elts k tp) (.Call (.Name "enumerate" p) [l] [] pos) (zhx K ta):=by
 subst hK
 intro pins s σ H R I h
 refine Call_ (Xm I hg hm Boot.«enumerate» (PyProof.Rows.callWith_type1 (thn (ha pos pins s σ H _ I h) ?_) hs rfl))
 rintro us s1 ⟨vs,H1,I1,r1,q1⟩
 obtain ⟨a,e,⟨xs,hq⟩,q⟩:=q1
 subst e
 obtain ⟨u,rfl,ru⟩:=Xb r1
 cases ru
 obtain ⟨its,rv,p,hz⟩:=I1.tuple hq
 refine zeP p fun h' he hit hsz hk=> ?_
 have I2:Inv X pins σ H1 {s1 with heap:=h'}:=I1.kept (t':=s1.toks) hk
 refine wpAny_pyIter_enum (s:={s1 with heap:=h'}) he ?_
 refine ⟨s1.heap.objs.size+1,[s1.heap.objs.size+1,s1.heap.objs.size],_,_,H1,rfl,I2,zeQ a (s1.heap.objs.size+1) s1.heap.objs.size (Nat.succ_ne_self _),⟨⟨_,he⟩,hit⟩,fun b hb=> ?_,q⟩
 have hb:s1.heap.objs.size≤b:=by
  rcases (by simpa using hb:b=s1.heap.objs.size+1∨b=s1.heap.objs.size) with rfl|rfl
  ·exact Nat.le_succ _
  ·exact Nat.le_refl _
 exact Inv.fpOk I1 hb (I1.hok.fresh hb)|>fun ⟨f0,f1,f2,f3,f4,f5⟩=>⟨f0,f1,f2,f3,f4,f5⟩
end
end L2
namespace L2
open PySem PySem.Spec PyProof.Rows
section
variable {prog:Program} {w:World} {A:Around} {E:Value→Shared→Prop} {s:Shared}
noncomputable abbrev zT1 (h:Heap) (l1:Addr):Heap:=h.push {cls:= .type "tuple_iterator",data:= .fields #[.ref l1,.int 0 0]}
noncomputable abbrev zT2 (h:Heap) (l1 l2:Addr):Heap:=(zT1 h l1).push {cls:= .type "tuple_iterator",data:= .fields #[.ref l2,.int 0 0]}
noncomputable abbrev zT3 (h:Heap) (l1 l2:Addr):Heap:=(zT2 h l1 l2).push {cls:= .type "tuple",data:= .seq #[.ref h.objs.size,.ref (zT1 h l1).objs.size]}
noncomputable abbrev zT4 (h:Heap) (l1 l2:Addr):Heap:=(zT3 h l1 l2).push {cls:= .type "tuple",data:= .seq #[.none,.none]}
noncomputable abbrev zT5 (h:Heap) (l1 l2:Addr):Heap:=(zT4 h l1 l2).push {cls:= .type "zip",data:= .fields #[.none,.bool false,.bool false,.ref (zT2 h l1 l2).objs.size,.ref (zT3 h l1 l2).objs.size]}
end
section
variable {X:Cx}
end
end L2
namespace L2
open PySem PySem.Spec PyProof.Rows
mutual
noncomputable def D.py:D→PyData
 | .non=> .none
 | .bl b=> .bool b
 | .int i=> .int i
 | .str x=> .str x
 | .tup l=> .tuple (D.pys l)
 | .lst l=> .list (D.pys l)
 | .ins _ _ _=> .none
noncomputable def D.pys:List D→List PyData
 |[]=>[]
 |d::r=>D.py d::D.pys r
end
mutual
noncomputable def D.small (n:Nat):D→Prop
 | .int i=>i.natAbs<2^n
 | .tup l=>D.smalls n l
 | .lst l=>D.smalls n l
 | .non=>True
 | .bl _=>True
 | .str _=>False
 | .ins _ _ _=>False
noncomputable def D.smalls (n:Nat):List D→Prop
 |[]=>True
 |d::r=>D.small n d∧D.smalls n r
end
mutual
noncomputable def D.wt (n:Nat):D→Nat
 | .tup l=>D.wts n l
 | .lst l=>D.wts n l
 | .int _=>n
 |_=>0
noncomputable def D.wts (n:Nat):List D→Nat
 |[]=>0
 |d::r=>D.wt n d+1+D.wts n r
end
section
variable {X:Cx} {pins:List (Addr×Obj)} {σ:St} {H:Hp} {s:Shared}
end
theorem zeR {i:Int} {n:Nat} (hn:0<n) (h:i.natAbs<2^n):i.natAbs.log2<n:=by
 by_cases h0:i.natAbs=0
 ·rw [h0];exact hn
 ·exact (Nat.log2_lt h0).mpr h
structure znf (n:Nat) (d:D):Prop where
 seq:∃l,d= .tup l∨d= .lst l
 small:D.small n d
 n0:8≤n
 n1:n≤1900
 deep:D.depth d≤40
 size:(n+3)*D.wt n d+n+1≤16777216
section
variable {X:Cx}
end
end L2
namespace L2
open PySem PySem.Spec PyProof.Rows
noncomputable abbrev zmr (t:Addr) (i:Int):Obj:={cls:= .type "reversed",data:= .fields #[.ref t,rawInt i]}
noncomputable abbrev znr (h:Heap) (a t:Addr) (i:Int):Prop:=h.get? a=some (zmr t i)
section
variable {prog:Program} {w:World} {A:Around} {E:Value→Shared→Prop} {s:Shared}
end
section
variable {X:Cx} {tg:Expr}
noncomputable def zj1 (K:PySem.W.Frag):R2:=fun x y H Q=>∃a b xs ys,x= .ref a∧y= .ref b∧SqT K H a xs∧SqT K H b ys∧xs.length+ys.length≤sizeLine∧(xs=[]→Q (.ref b) H)∧(xs≠[]→ys=[]→Q (.ref a) H)∧(xs≠[]→ys≠[]→∀p,H p=none→Q (.ref p) (upd H p (.tup (xs++ys))))
theorem zfJ {K:PySem.W.Frag} (hK:X.K=K:=by rfl):OpR X (binaryOp .Add) (zj1 K):=by
 subst hK
 intro pins s σ H x y v u Q I rx ry h
 obtain ⟨a,b,xs,ys,e1,e2,ha,hb,hz,q1,q2,q3⟩:=h
 by_cases hx:xs=[]
 ·subst e1 e2
  cases rx
  cases ry
  obtain ⟨its,r1,p1,_⟩:=I.tuple ha
  obtain ⟨its2,r2,p2,_⟩:=I.tuple hb
  obtain ⟨⟨cls,dd,data,sl⟩,ho,hc,n,hd⟩:=id p1
  obtain ⟨⟨cls2,dd2,data2,sl2⟩,ho2,hc2,n2,hd2⟩:=id p2
  simp only at hc hd hc2 hd2
  subst hc hd hc2 hd2
  exact concat_meets ⟨_,ho,rfl⟩ ⟨_,ho2,rfl⟩ noFill_tuple_add seq_tuple_add PySem.F.slot_tuple_add PySem.F.entry_tuple_add (PySem.F.args_tuple_add_2 _ _) (tuple_addW0 a b its.toArray its2.toArray n n2 dd dd2 sl sl2 (by have:=r1.nil_iff.mpr hx;simp [this])) ⟨ho,ho2,⟨.ref b,H,I,rfl,q1 hx⟩⟩
 ·exact ziK pins s σ H x y v u Q I rx ry ⟨a,b,xs,ys,e1,e2,ha,hb,hx,hz,q2 hx,q3 hx⟩
end
end L2
namespace L2
open PySem PySem.Spec PyProof.Rows PyProof
section
variable {X:Cx}
noncomputable def zj2 (K:PySem.W.Frag):List V→Hp→VK→Prop:=fun xs H Q=>∃(p:Addr) (ns:List Int),xs=[.ref p]∧SqT K H p (ns.map V.int)∧Q (.int ns.sum) H
theorem zeS {K:PySem.W.Frag} (hc:X.calm=true) (hK:X.K=K:=by rfl):vq X (.builtin "sum") (zj2 K):=by
 subst hK
 intro pins s σ H xs us Q I r h
 obtain ⟨p,ns,rfl,hq,q⟩:=h
 obtain ⟨u,rfl,ru⟩:=Xb r
 cases ru
 obtain ⟨its,rv,pl,hz⟩:=I.tuple hq
 have lt:p<s.heap.objs.size:=pl.lt
 have hl:=rv.length
 rw [List.length_map] at hl
 have pl':s.heap.IsTuple p its.toArray:=pl
 refine call_sum_walkAnyS (wpAny_pyIter_tuple pl' ?_)
 have W:=(Walks.tuple (prog:=X.prog) (w:=X.w) (A:=X.A.in1) (I.ok.hd hc) s.heap.objs.size p (Nat.ne_of_lt lt) its.toArray).toS
 refine ⟨s.heap.objs.size,_,_,_,_,_,_,fun i=>ns.getD i 0,rfl,W,?_,?_,?_,?_⟩
 ·exact ⟨⟨_,Heap.get?_push_size _ rfl,rfl,rfl⟩,IsTup.push pl _⟩
 ·intro b hb
  rw [Heap.size_push]
  rcases (by simpa using hb:b=s.heap.objs.size∨b=p) with rfl|rfl
  ·exact Nat.lt_succ_self _
  ·exact Nat.lt_succ_of_lt lt
 ·intro i v hv
  have hv:its[i]? =some v:=by simpa using hv
  have hi:i<ns.length:=by rw [hl];exact (List.getElem?_eq_some_iff.1 hv).1
  obtain ⟨u,hu,t,ru⟩:=rv.get (i:=i) (x:=V.int ns[i]) (by rw [List.getElem?_map,List.getElem?_eq_getElem hi];rfl)
  rw [hu] at hv
  cases hv
  refine ⟨t,?_⟩
  rw [ru]
  show Value.int ns[i] t=Value.int (ns.getD i 0) t
  rw [List.getD_eq_getElem?_getD,List.getElem?_eq_getElem hi,Option.getD_some]
 ·intro s' t' m
  have I1:Inv X pins σ H {s with heap:=s'.heap,toks:=s'.toks}:=I.kept fun b o e=>m.heap b o (fun z=>by
   have z:b=s.heap.objs.size:=by simpa using z
   exact absurd (Heap.lt_size e) (by rw [z];exact Nat.lt_irrefl _)) (Heap.get?_push_of_some _ e)
  have e:({s with heap:=s'.heap,toks:=s'.toks}:Shared)=s':=by
   have h1:=m.gens
   have h2:=m.drawn
   have h3:=m.os
   cases s'
   simp only at h1 h2 h3
   subst h1 h2 h3
   rfl
  rw [e] at I1
  refine ⟨.int ns.sum,H,I1,⟨t',?_⟩,q⟩
  rw [UV]
  have:its.toArray.size=ns.length:=by rw [List.size_toArray,←hl]
  rw [this,List.take_length]
theorem zb0 (a:Array Nat):∀m:Nat,(List.range m).filterMap (fun i=>a[i]?)=a.toList.take m
 |0=>rfl
 |m+1=>by
  rw [List.range_succ,List.filterMap_append,zb0 a m,List.take_add_one]
  rw [Array.getElem?_toList]
  cases h:a[m]? <;>simp [h]
theorem UX {z:Str} (h:1≤z.length):(Txt.slice z none (some (-1))).cps.toList=z.cps.toList.take (z.length-1):=by
 have hl:z.length=z.cps.size:=rfl
 have e1:PySem.Builtin.Str.strSliceIndices none (some (-1)) 1 z.length=List.range (z.length-1):=by
  unfold PySem.Builtin.Str.strSliceIndices sliceRange
  simp only [show (1:Int)>0 by decide,if_true,show (-1:Int)<0 by decide]
  have e2:max 0 (min (-1+(z.length:Int)) (z.length:Int))=((z.length-1:Nat):Int):=by omega
  rw [e2]
  have e3:(if (0:Int)<((z.length-1:Nat):Int) then (((z.length-1:Nat):Int)-0+1-1) / 1 else 0).toNat=z.length-1:=by
   rw [Int.ediv_one]
   split<;>omega
  rw [e3]
  conv=>rhs;rw [←List.map_id (List.range (z.length-1))]
  refine List.map_congr_left fun k _=> ?_
  show (0+1*(k:Int)).toNat=k
  omega
 unfold Txt.slice
 rw [e1]
 split
 ·rename_i hh
  rw [List.length_range] at hh
  simp at hh
  omega
 ·show (List.filterMap _ _).toArray.toList=_
  rw [List.toList_toArray]
  exact zb0 z.cps (z.length-1)
end
end L2
namespace L2
open PySem PySem.Spec PyProof.Rows
section
variable {X:Cx}
noncomputable def zms (K:PySem.W.Frag):List V→Hp→VK→Prop:=fun xs H Q=>∃(p:Addr) (bs:List Bool),xs=[.ref p]∧SqL K H p (bs.map V.bl)∧Q (.bl (bs.all id)) H
theorem zgA:∀(bs:List Bool),(List.range bs.length).all (fun i=>bs.getD i false)=bs.all id:=fun bs=>by
 rw [Bool.eq_iff_iff,List.all_eq_true,List.all_eq_true]
 constructor
 ·intro h b hb
  obtain ⟨i,hi,e⟩:=List.mem_iff_getElem.1 hb
  have:=h i (List.mem_range.2 hi)
  rw [List.getD_eq_getElem?_getD,List.getElem?_eq_getElem hi,Option.getD_some,e] at this
  exact this
 ·intro h i hi
  have hi:=List.mem_range.1 hi
  rw [List.getD_eq_getElem?_getD,List.getElem?_eq_getElem hi,Option.getD_some]
  exact h _ (List.getElem_mem hi)
theorem zeT {pins:List (Addr×Obj)} {σ:St} {H:Hp} {s:Shared} {p:Addr} {bs:List Bool} (hc:X.calm=true) (I:Inv X pins σ H s) (hq:SqL X.K H p (bs.map V.bl)) {R:Value→Shared→Prop}
  (k:∀Ia fp wr G n P St tr (s₂:Shared),WalksS X.prog X.w X.A.in1 Ia fp wr G n P St→St 0 s₂→TruthOf X.prog X.w X.A.in1 P tr→n=bs.length→(tr=fun i=>bs.getD i false)→(∀s',Moved wr G s₂ s'→Inv X pins σ H s')→R (.ref Ia) s₂):
  wpAny (model X.prog X.w) X.A.in1 (pyIter (.ref p)) R X.xe s:=by
 obtain ⟨its,rv,pl,hz⟩:=I.list hq
 have lt:p<s.heap.objs.size:=by
  obtain ⟨o,n,e,_⟩:=id pl
  exact Heap.lt_size e
 have hl:=rv.length
 rw [List.length_map] at hl
 refine wpAny_pyIter_list pl.isList ?_
 have W:=(Walks.list (prog:=X.prog) (w:=X.w) (A:=X.A.in1) (I.ok.hd hc) s.heap.objs.size p (Nat.ne_of_lt lt) its.toArray).toS
 refine k s.heap.objs.size _ _ _ _ _ _ (fun i=>bs.getD i false) _ W ?_ ?_ ?_ rfl ?_
 ·exact ⟨⟨_,Heap.get?_push_size _ rfl,rfl,rfl⟩,Heap.IsList.push pl.isList _⟩
 ·intro i v s Q E hv hQ
  have hv:its[i]? =some v:=by simpa using hv
  have hi:i<bs.length:=by rw [hl];exact (List.getElem?_eq_some_iff.1 hv).1
  obtain ⟨u,hu,ru⟩:=rv.get (i:=i) (x:=V.bl bs[i]) (by rw [List.getElem?_map,List.getElem?_eq_getElem hi];rfl)
  have e0:u=v:=by
   rw [hu] at hv
   exact Option.some.inj hv
  have ru:u=Value.bool bs[i]:=ru
  rw [←e0,ru]
  refine wpAny_truthy_bool ?_
  have e:bs.getD i false=bs[i]:=by rw [List.getD_eq_getElem?_getD,List.getElem?_eq_getElem hi,Option.getD_some]
  rw [←e]
  exact hQ
 ·rw [List.size_toArray,←hl]
 ·intro s' m
  have I1:Inv X pins σ H {s with heap:=s'.heap,toks:=s'.toks}:=I.kept fun b o e=>m.heap b o (fun z=>by
   have z:b=s.heap.objs.size:=by simpa using z
   exact absurd (Heap.lt_size e) (by rw [z];exact Nat.lt_irrefl _)) (Heap.get?_push_of_some _ e)
  have e:({s with heap:=s'.heap,toks:=s'.toks}:Shared)=s':=by
   have h1:=m.gens
   have h2:=m.drawn
   have h3:=m.os
   cases s'
   simp only at h1 h2 h3
   subst h1 h2 h3
   rfl
  rw [e] at I1
  exact I1
theorem Xe {K:PySem.W.Frag} (hc:X.calm=true) (hK:X.K=K:=by rfl):vq X (.builtin "all") (zms K):=by
 subst hK
 intro pins s σ H xs us Q I r h
 obtain ⟨p,bs,rfl,hq,q⟩:=h
 obtain ⟨u,rfl,ru⟩:=Xb r
 cases ru
 refine call_all_walkS (zeT hc I hq fun Ia fp wr G n P St tr s₂ W h0 ht hn htr hm=>⟨Ia,fp,wr,G,n,P,St,tr,rfl,W,h0,ht,fun s' m=>⟨.bl _,H,hm s' m,rfl,?_⟩⟩)
 rw [hn,htr,zgA]
 exact q
theorem Inv.lstR {pins:List (Addr×Obj)} {σ:St} {H:Hp} {s:Shared} {l:Addr} {xs:List V} (I:Inv X pins σ H s) (hH:SqX X.K H l xs):xs.length≤sizeLine∧∃(its:List Value) (n:Nat),yr xs its∧xs.length=its.length∧s.heap.get? l=some {cls:= .type "list",data:= .seq its.toArray n}:=by
 rcases hH with hH|⟨its,n,hk,hz,r⟩
 ·obtain ⟨z,its,n,r,e⟩:=hH.ok I.hok
  exact ⟨z,its,n,r,r.length,e⟩
 ·have hl:=r.length
  have hl2:its.toList.length=its.size:=Array.length_toList
  exact ⟨by omega,its.toList,n,r,r.length,I.kIn l _ hk⟩
noncomputable def zj3 (K:PySem.W.Frag):R2:=fun x y H Q=>∃l b xs zs,x= .ref l∧y= .ref b∧SqX K H l xs∧SqX K H b zs∧xs.length+zs.length≤sizeLine∧∀p,H p=none→Q (.ref p) (upd H p (.lst (xs++zs)))
theorem zfK {K:PySem.W.Frag} (hK:X.K=K:=by rfl):OpR X (binaryOp .Add) (zj3 K):=by
 subst hK
 intro pins s σ H x y v u Q I rx ry h
 obtain ⟨l,b,xs,zs,rfl,rfl,hH,hB,hz,q⟩:=h
 cases rx
 cases ry
 obtain ⟨z,its,n,r,hl,e⟩:=I.lstR hH
 obtain ⟨z2,its2,n2,r2,hl2,e2⟩:=I.lstR hB
 refine PySem.P.add_list e e2 ?_ (by rw [List.size_toArray,List.size_toArray];omega)
 have ea:its.toArray++its2.toArray=(its++its2).toArray:=by simp
 rw [ea]
 exact ⟨.ref _,_,I.lnew (t':=s.toks) (r.append r2) (by rw [List.length_append];omega),rfl,q _ I.fresh⟩
theorem zgB (l:Addr) (items:Array Value) (n:Nat) (b:Addr) (ob:Obj) (T:String) (items2:Array Value) (n2:Nat) (hT:T="list"∨T="tuple") (hs0:(!items.isEmpty&&Builtin.List.listTooLong (items.size+items2.size))=false) (hs1:items.size≤sizeLine) (hs2:items.size+items2.size≤sizeLine):
  Meets (Builtin.«list.extend» ⟨[.ref l,.ref b],[]⟩) (fun _ R s=>s.heap.get? l=some {cls:= .type "list",dict:=none,data:= .seq items n,slots:= #[]}∧s.heap.get? b=some ob∧ob.cls= .type T∧ob.data= .seq items2 n2∧R (.ok (.ret Value.none)) {s with heap:=s.heap.update l (Obj.mapSeq fun x=>x++items2),toks:=s.toks}):=by
 intro prog w A R s h
 obtain ⟨hl,hb,hc,hd,hR⟩:=h
 show wpAny _ _ (Builtin.List.listExtendWith (.ref l) (.ref b) .none) _ _ s
 unfold Builtin.List.listExtendWith
 refine wpAny_bind (wpAny_typeOf (T:=T) ⟨ob,hb,hc⟩ ?_)
 have hcond:(Builtin.List.listSameRef (.ref l) (.ref b)||Value.type T==Value.type "list"||Value.type T==Value.type "tuple")=true:=by
  rcases hT with rfl|rfl<;>simp
 rw [if_pos hcond]
 refine wpAny_bind ?_
 unfold Builtin.List.listItems
 refine wpAny_bind (wpAny_seqItems hb hd (wpAny_pure ?_))
 refine wpAny_bind ?_
 refine wpAny_bind (wpAny_seqItems hl rfl (wpAny_pure ?_))
 rw [if_neg (by rw [hs0];exact Bool.false_ne_true)]
 have hz':(items++items2).size≤sizeLine+1:=by rw [Array.size_append];omega
 refine wpAny_bind (m:=Builtin.List.listUpdate (.ref l) (· ++items2)) ?_
 show wpAny _ _ (updateSeq l (fun x=>x++items2)) _ _ s
 refine wpAny_updateSeq hl rfl (hz:=hs1) (_hz':=hz') ?_
 exact wpAny_pure hR
noncomputable def zdG (K:PySem.W.Frag):V→List V→Hp→VK→Prop:=fun x vs H Q=>∃l b xs zs,x= .ref l∧vs=[.ref b]∧H l=some (.lst xs)∧(SqX K H b zs∨SqT K H b zs)∧xs.length+zs.length≤sizeLine∧Q .non (upd H l (.lst (xs++zs)))
theorem VC {K:PySem.W.Frag} (hK:X.K=K:=by rfl):MtR X "list.extend" (zdG K):=by
 subst hK
 intro pins s σ H x vs v us Q I rx rv h
 obtain ⟨l,b,xs,zs,rfl,rfl,hH,hB,hz,q⟩:=h
 cases rx
 obtain ⟨u,rfl,ru⟩:=rv.one
 cases ru
 obtain ⟨z,its,n,r,hl,e⟩:=I.lstM hH
 have key:∀{its2:List Value} {ob:Obj} {T:String} {n2:Nat},yr zs its2→(T="list"∨T="tuple")→s.heap.get? b=some ob→ob.cls= .type T→ob.data= .seq its2.toArray n2→
   wpAny (model X.prog X.w) X.A (call (.builtin "list.extend") [.ref l,.ref b]) (EP X pins σ Q) X.xe s:=by
  intro its2 ob T n2 r2 hT hb hc hd
  have hl2:=r2.length
  have hsz:its.toArray.size+its2.toArray.size≤sizeLine:=by rw [List.size_toArray,List.size_toArray];omega
  refine call_meets F.slot_list_extend ⟨_,e,rfl⟩ F.entry_list_extend (F.args_list_extend_2 _ _)
   (zgB l its.toArray n b ob T its2.toArray n2 hT (by rw [zhn hsz,Bool.and_false]) (by rw [List.size_toArray];omega) hsz) ⟨e,hb,hc,hd,?_⟩
  refine ⟨.non,_,I.lset (its':=its++its2) hH e (by simp) (r.append r2) ?_,rfl,q⟩
  rw [List.length_append]
  omega
 rcases hB with hB|hB
 ·obtain ⟨z2,its2,n2,r2,hl2,e2⟩:=I.lstR hB
  exact key r2 (.inl rfl) e2 rfl rfl
 ·obtain ⟨its2,r2,⟨ob,hb,hc,n2,hd⟩,_⟩:=I.tuple hB
  exact key r2 (.inr rfl) hb hc hd
end
end L2
namespace L2
open PySem PySem.Spec PyProof.Rows
section
variable {prog:Program} {w:World} {A:Around} {E:Value→Shared→Prop} {s:Shared}
end
section
variable {X:Cx}
end
end L2
namespace HT
open PySem PyProof.Rows
section
variable {prog:Program} {w:World} {A:Around} {E:Value→Shared→Prop} {s:Shared}
end
end HT
namespace L2
open PySem PySem.Spec PyProof.Rows
section
variable {X:Cx}
section
variable {X:Cx} {tg:Expr}
end
end
end L2
namespace L2
open PySem PySem.Spec PyProof.Rows
section
variable {env:Env} {r:List Expr}
theorem Ub {a b c}:starEach (.Tuple a b c::r) env=(false,eval (.Tuple a b c) env)::starEach r env:=by rw [starEach];simp
theorem zi {a b c}:starEach (.Constant a b c::r) env=(false,eval (.Constant a b c) env)::starEach r env:=by rw [starEach];simp
theorem zf {a b}:starEach (.Name a b::r) env=(false,eval (.Name a b) env)::starEach r env:=by rw [starEach];simp
theorem zF {a b c}:starEach (.Subscript a b c::r) env=(false,eval (.Subscript a b c) env)::starEach r env:=by rw [starEach];simp
theorem yY {a b c d}:starEach (.BinOp a b c d::r) env=(false,eval (.BinOp a b c d) env)::starEach r env:=by rw [starEach];simp
theorem yc {a b c d}:starEach (.Call a b c d::r) env=(false,eval (.Call a b c d) env)::starEach r env:=by rw [starEach];simp
theorem zcw {a b c}:starEach (.Attribute a b c::r) env=(false,eval (.Attribute a b c) env)::starEach r env:=by rw [starEach];simp
end
end L2
namespace L2
open PySem PySem.Spec PyProof.Rows PySem.Builtin
section
variable {X:Cx}
end
end L2
namespace L2
open PySem PySem.Spec PyProof.Rows PySem.Calls
section
variable {X:Cx}
end
section
variable {prog:Program} {w:World} {A:Around} {E:Value→Shared→Prop} {s:Shared} {T:String} {r d:Addr} {n:Nat} {P:Nat→Value→Prop} {OK:Heap→Prop} {Q:Value→Shared→Prop}
end
section
variable {X:Cx}
end
section
variable {prog:Program} {w:World} {A:Around} {E:Value→Shared→Prop} {s:Shared} {T:String} {r d:Addr} {n:Nat} {P:Nat→Value→Prop} {OK:Heap→Prop} {Q:Value→Shared→Prop}
end
section
variable {X:Cx}
end
end L2
namespace L2
open PySem
inductive Xv where
 |non|bl (b:Bool)|int (i:Int)|str (x:Str)|tup (xs:List Xv)|ct (xs:List Xv)|ref (n:Nat)
inductive Ce where
 |lst (xs:List Xv)
 |frz (xs:List Xv)
 |dk (kvs:List (Key×Xv))
 |dt (kvs:List (List Key×Xv))
 |ins (nm:Str) (fs:List (Str×Xv))
 |fdk (kvs:List (Key×Xv))
 |dn (kvs:List (NK×Xv×Xv))
 |exc (nm:Str)
noncomputable abbrev Sto:=List Ce
noncomputable abbrev Rho:=List (Option Xv)
noncomputable def Ce.fz:Ce→Bool
 | .frz _=>true
 | .fdk _=>true
 | .exc _=>true
 |_=>false
noncomputable def HO.mu:HO→Bool
 | .lst _=>true
 | .dK _=>true
 | .dT _=>true
 | .dN _=>true
 | .ins _ _ _=>true
 | .set _ _=>true
 |_=>false
noncomputable def Zr (H H':Hp):Prop:=∀b u,H b=some u→u.mu=false→H' b=some u
theorem Zr.refl (H:Hp):Zr H H:=fun _ _ e _=>e
theorem Zr.trans {H H1 H2:Hp} (a:Zr H H1) (b:Zr H1 H2):Zr H H2:=fun x u e m=>b x u (a x u e m) m
theorem Zr.same {H H':Hp} (S:VZ H H'):Zr H H':=fun b u e _=>S b u e
structure Ext (j:List Addr) (H:Hp) (j':List Addr) (H':Hp):Prop where
 pre:∀(n:Nat) a,j[n]? =some a→j'[n]? =some a
 imm:Zr H H'
theorem Ext.refl {j:List Addr} {H:Hp}:Ext j H j H:=⟨fun _ _ e=>e,Zr.refl _⟩
theorem Ext.trans {j j1 j2:List Addr} {H H1 H2:Hp} (a:Ext j H j1 H1) (b:Ext j1 H1 j2 H2):Ext j H j2 H2:=⟨fun n x e=>b.pre n x (a.pre n x e),a.imm.trans b.imm⟩
theorem Ext.same {j:List Addr} {H H':Hp} (S:VZ H H'):Ext j H j H':=⟨fun _ _ e=>e,Zr.same S⟩
mutual
inductive Xis (K:PySem.W.Frag) (j:List Addr) (H:Hp):Xv→V→Prop where
 |non:Xis K j H .non .non
 |bl (b:Bool):Xis K j H (.bl b) (.bl b)
 |int (i:Int):Xis K j H (.int i) (.int i)
 |str (x:Str):Xis K j H (.str x) (.str x)
 |tup {a:Addr} {vs:List V} {xs:List Xv}:H a=some (.tup vs)→yC K j H xs vs→Xis K j H (.tup xs) (.ref a)
 |ct {a:Addr} {vs:List V} {xs:List Xv}:(∀H,SqT K H a vs)→yC K j H xs vs→Xis K j H (.ct xs) (.ref a)
 |ref {n:Nat} {a:Addr}:j[n]? =some a→Xis K j H (.ref n) (.ref a)
inductive yC (K:PySem.W.Frag) (j:List Addr) (H:Hp):List Xv→List V→Prop where
 |nil:yC K j H [] []
 |cons {x:Xv} {v:V} {xs:List Xv} {vs:List V}:Xis K j H x v→yC K j H xs vs→yC K j H (x::xs) (v::vs)
end
mutual
theorem Xis.mono {K:PySem.W.Frag} {j j':List Addr} {H H':Hp} (S:Ext j H j' H'):∀{x:Xv} {v:V},Xis K j H x v→Xis K j' H' x v
 |_,_,.non=> .non
 |_,_,.bl b=> .bl b
 |_,_,.int i=> .int i
 |_,_,.str x=> .str x
 |_,_,.tup h l=> .tup (S.imm _ _ h rfl) (yC.mono S l)
 |_,_,.ct h l=> .ct h (yC.mono S l)
 |_,_,.ref h=> .ref (S.pre _ _ h)
theorem yC.mono {K:PySem.W.Frag} {j j':List Addr} {H H':Hp} (S:Ext j H j' H'):∀{xs:List Xv} {vs:List V},yC K j H xs vs→yC K j' H' xs vs
 |_,_,.nil=> .nil
 |_,_,.cons h l=> .cons (Xis.mono S h) (yC.mono S l)
end
section
variable {K:PySem.W.Frag} {j:List Addr} {H:Hp}
theorem yC.len:∀{xs:List Xv} {vs:List V},yC K j H xs vs→vs.length=xs.length
 |_,_,.nil=>rfl
 |_,_,.cons _ l=>by rw [List.length_cons,List.length_cons,l.len]
theorem yC.get:∀{xs:List Xv} {vs:List V} {i:Nat} {x:Xv},yC K j H xs vs→xs[i]? =some x→∃v,vs[i]? =some v∧Xis K j H x v
 |_,_,_,_,.nil,e=>by simp at e
 |_,_,0,_,.cons h _,e=>by simp at e;subst e;exact ⟨_,rfl,h⟩
 |_,_,i+1,x,.cons _ l,e=>by
  obtain ⟨v,e1,e2⟩:=l.get (i:=i) (x:=x) (by simpa using e)
  exact ⟨v,by simpa using e1,e2⟩
theorem yC.append:∀{xs ys:List Xv} {vs ws:List V},yC K j H xs vs→yC K j H ys ws→yC K j H (xs++ys) (vs++ws)
 |_,_,_,_,.nil,h=>h
 |_,_,_,_,.cons h l,k=> .cons h (l.append k)
theorem yC.one {v:V} {x:Xv} (h:Xis K j H x v):yC K j H [x] [v]:= .cons h .nil
theorem yC.take:∀{xs:List Xv} {vs:List V} (n:Nat),yC K j H xs vs→yC K j H (xs.take n) (vs.take n)
 |_,_,0,_=> .nil
 |_,_,_+1,.nil=> .nil
 |_,_,n+1,.cons h l=> .cons h (l.take n)
theorem yC.drop:∀{xs:List Xv} {vs:List V} (n:Nat),yC K j H xs vs→yC K j H (xs.drop n) (vs.drop n)
 |_,_,0,h=>h
 |_,_,_+1,.nil=> .nil
 |_,_,n+1,.cons h l=>l.drop n
theorem yC.ints:∀ns:List Int,yC K j H (ns.map Xv.int) (ns.map V.int)
 |[]=> .nil
 |n::r=> .cons (.int n) (yC.ints r)
theorem yC.set {v:V} {x:Xv} (hv:Xis K j H x v):∀{xs:List Xv} {vs:List V} (n:Nat),yC K j H xs vs→yC K j H (xs.set n x) (vs.set n v)
 |_,_,_,.nil=> .nil
 |_,_,0,.cons _ l=> .cons hv l
 |_,_,n+1,.cons h l=> .cons h (l.set hv n)
theorem yC.at_ {xs:List Xv} {vs:List V} {i:Int} {x:Xv} (h:yC K j H xs vs) (e:atI xs i=some x):∃v,atI vs i=some v∧Xis K j H x v:=by
 unfold atI at e ⊢
 rw [h.len]
 cases e1:ixN xs.length i with
 |none=>rw [e1] at e;cases e
 |some m=>
  rw [e1] at e
  obtain ⟨v,e3,e4⟩:=h.get (i:=m) e
  exact ⟨v,e3,e4⟩
theorem Xis.int_inv {v:V} {i:Int} (h:Xis K j H (.int i) v):v= .int i:=by cases h;rfl
theorem Xis.bl_inv {v:V} {b:Bool} (h:Xis K j H (.bl b) v):v= .bl b:=by cases h;rfl
theorem Xis.str_inv {v:V} {b:Str} (h:Xis K j H (.str b) v):v= .str b:=by cases h;rfl
theorem Xis.non_inv {v:V} (h:Xis K j H .non v):v= .non:=by cases h;rfl
theorem Xis.ref_inv {v:V} {n:Nat} (h:Xis K j H (.ref n) v):∃a,v= .ref a∧j[n]? =some a:=by cases h with|ref e=>exact ⟨_,rfl,e⟩
theorem Xis.tup_inv {v:V} {xs:List Xv} (h:Xis K j H (.tup xs) v):∃a vs,v= .ref a∧H a=some (.tup vs)∧yC K j H xs vs:=by cases h with|tup a b=>exact ⟨_,_,rfl,a,b⟩
theorem yC.cons_inv {vs:List V} {x:Xv} {xs:List Xv} (h:yC K j H (x::xs) vs):∃v r,vs=v::r∧Xis K j H x v∧yC K j H xs r:=by cases h with|cons a b=>exact ⟨_,_,rfl,a,b⟩
theorem yC.nil_inv {vs:List V} (h:yC K j H [] vs):vs=[]:=by cases h;rfl
theorem yC.d1 {vs:List V} {a:Xv} (h:yC K j H [a] vs):∃x,vs=[x]∧Xis K j H a x:=by
 obtain ⟨x,r,rfl,hx,h⟩:=h.cons_inv
 obtain rfl:=h.nil_inv
 exact ⟨x,rfl,hx⟩
theorem yC.d2 {vs:List V} {a b:Xv} (h:yC K j H [a,b] vs):∃x y,vs=[x,y]∧Xis K j H a x∧Xis K j H b y:=by
 obtain ⟨x,r,rfl,hx,h⟩:=h.cons_inv
 obtain ⟨y,rfl,hy⟩:=h.d1
 exact ⟨x,y,rfl,hx,hy⟩
noncomputable def Xv.tupOf:Xv→Option (List Xv)
 | .tup xs=>some xs
 | .ct xs=>some xs
 |_=>none
theorem Xis.tupO {v:V} {x:Xv} {xs:List Xv} (h:Xis K j H x v) (e:x.tupOf=some xs):∃a vs,v= .ref a∧SqT K H a vs∧yC K j H xs vs:=by
 cases h with
 |tup h l=>simp [Xv.tupOf] at e;subst e;exact ⟨_,_,rfl,SqT.of h,l⟩
 |ct h l=>simp [Xv.tupOf] at e;subst e;exact ⟨_,_,rfl,h H,l⟩
 |_=>simp [Xv.tupOf] at e
end
inductive KX {κ:Type} (K:PySem.W.Frag) (j:List Addr) (H:Hp):List (κ×Xv)→List (κ×V)→Prop where
 |nil:KX K j H [] []
 |cons {k:κ} {x:Xv} {v:V} {r:List (κ×Xv)} {rs:List (κ×V)}:Xis K j H x v→KX K j H r rs→KX K j H ((k,x)::r) ((k,v)::rs)
theorem KX.mono {κ:Type} {K:PySem.W.Frag} {j j':List Addr} {H H':Hp} (S:Ext j H j' H'):∀{xs:List (κ×Xv)} {vs:List (κ×V)},KX K j H xs vs→KX K j' H' xs vs
 |_,_,.nil=> .nil
 |_,_,.cons h l=> .cons (h.mono S) (l.mono S)
mutual
noncomputable def zmt:Xv→Option NK
 | .int i=>some (.int i)
 | .str x=>some (.str x)
 | .tup l=>(zhy l).map .tup
 | .ct l=>(zhy l).map .tup
 | .non=>none
 | .bl _=>none
 | .ref _=>none
noncomputable def zhy:List Xv→Option (List NK)
 |[]=>some []
 |x::r=>(zmt x).bind fun k=>(zhy r).map (k:: ·)
end
inductive NX (K:PySem.W.Frag) (j:List Addr) (H:Hp):List (NK×Xv×Xv)→List (NK×Addr×V)→Prop where
 |nil:NX K j H [] []
 |cons {k:NK} {x y:Xv} {b:Addr} {v:V} {r:List (NK×Xv×Xv)} {rs:List (NK×Addr×V)}:zmt x=some k∧ziy k≤8→Xis K j H x (.ref b)→Xis K j H y v→NX K j H r rs→NX K j H ((k,x,y)::r) ((k,b,v)::rs)
theorem NX.mono {K:PySem.W.Frag} {j j':List Addr} {H H':Hp} (S:Ext j H j' H'):∀{xs:List (NK×Xv×Xv)} {vs:List (NK×Addr×V)},NX K j H xs vs→NX K j' H' xs vs
 |_,_,.nil=> .nil
 |_,_,.cons e h1 h2 l=> .cons e (h1.mono S) (h2.mono S) (l.mono S)
noncomputable def zbq (K:PySem.W.Frag) (j:List Addr) (H:Hp) (a:Addr):Ce→Prop
 | .lst xs=>∃vs,H a=some (.lst vs)∧yC K j H xs vs
 | .frz xs=>∃vs,((∃o,H a=some (.frz o (.lst vs)))∨∀H,SqX K H a vs)∧yC K j H xs vs
 | .dk kvs=>∃ks:List (Key×V),H a=some (.dK ks)∧KX K j H kvs ks
 | .dt kvs=>∃ks:List (List Key×V),H a=some (.dT ks)∧KX K j H kvs ks
 | .ins nm fs=>∃(C dx:Addr) (vs:List (Str×V)),PySem.W.nsIn K mainGlobals nm=some (some (.ref C))∧H a=some (.ins C dx vs)∧KX K j H fs vs
 | .fdk kvs=>∃(o:Obj) (ks:List (Key×V)),H a=some (.frz o (.dK ks))∧KX K j H kvs ks
 | .dn kvs=>∃ks:List (NK×Addr×V),H a=some (.dN ks)∧NX K j H kvs ks
 | .exc nm=>∃C:Addr,PySem.W.nsIn K mainGlobals nm=some (some (.ref C))∧H a=some (zkN a (.ref C))
theorem zbq.mu {K:PySem.W.Frag} {j:List Addr} {H:Hp} {a:Addr}:∀{c:Ce},zbq K j H a c→c.fz=false→∃o,H a=some o∧o.mu=true
 | .lst _,⟨_,e,_⟩,_=>⟨_,e,rfl⟩
 | .frz _,_,z=>by cases z
 | .dk _,⟨_,e,_⟩,_=>⟨_,e,rfl⟩
 | .dt _,⟨_,e,_⟩,_=>⟨_,e,rfl⟩
 | .ins _ _,⟨_,_,_,_,e,_⟩,_=>⟨_,e,rfl⟩
 | .fdk _,_,z=>by cases z
 | .dn _,⟨_,e,_⟩,_=>⟨_,e,rfl⟩
 | .exc _,_,z=>by cases z
theorem zbq.mono {K:PySem.W.Frag} {j j':List Addr} {H H':Hp} {a:Addr} (S:Ext j H j' H'):∀{c:Ce},(c.fz=false→H' a=H a)→zbq K j H a c→zbq K j' H' a c
 | .lst _,h,⟨_,e,l⟩=>⟨_,(h rfl).trans e,l.mono S⟩
 | .frz _,_,⟨_,.inl ⟨o,e⟩,l⟩=>⟨_,.inl ⟨o,S.imm _ _ e rfl⟩,l.mono S⟩
 | .frz _,_,⟨_,.inr e,l⟩=>⟨_,.inr e,l.mono S⟩
 | .dk _,h,⟨_,e,l⟩=>⟨_,(h rfl).trans e,l.mono S⟩
 | .dt _,h,⟨_,e,l⟩=>⟨_,(h rfl).trans e,l.mono S⟩
 | .ins _ _,h,⟨_,_,_,n,e,l⟩=>⟨_,_,_,n,(h rfl).trans e,l.mono S⟩
 | .fdk _,_,⟨_,_,e,l⟩=>⟨_,_,S.imm _ _ e rfl,l.mono S⟩
 | .dn _,h,⟨_,e,l⟩=>⟨_,(h rfl).trans e,l.mono S⟩
 | .exc _,_,⟨C,n,e⟩=>⟨C,n,S.imm _ _ e rfl⟩
structure Fm where
 H0:Hp
 j0:List Addr
 S0:Sto
structure En (K:PySem.W.Frag) (F:Fm) (j:List Addr) (H:Hp) (σ:St) (ρ:Rho) (S:Sto):Prop where
 len:σ.length=ρ.length
 slot:∀(i:Nat) x,ρ[i]? =some (some x)→∃v,σ[i]? =some (some v)∧Xis K j H x v
 jl:j.length=S.length
 inj:∀(n m:Nat) a c d,j[n]? =some a→j[m]? =some a→S[n]? =some c→S[m]? =some d→c.fz=false→d.fz=false→n=m
 cel:∀(n:Nat) c a,S[n]? =some c→j[n]? =some a→zbq K j H a c
 ext:Ext F.j0 F.H0 j H
 old:∀(n:Nat) c,F.S0[n]? =some c→∃c',S[n]? =some c'∧(c'.fz=false→c.fz=false)∧(c.fz=true→c'=c)
 l0:F.j0.length=F.S0.length
 keep:∀b u,F.H0 b=some u→H b=some u∨∃(n:Nat) (c:Ce),F.j0[n]? =some b∧F.S0[n]? =some c∧c.fz=false
 fresh:∀(n:Nat) a,F.j0.length≤n→j[n]? =some a→F.H0 a=none
 dom:∀b,H b=none→F.H0 b=none
section
variable {K:PySem.W.Frag} {F:Fm} {j j':List Addr} {H H':Hp} {σ σ':St} {ρ ρ':Rho} {S S':Sto} {v:V} {x:Xv} {a p:Addr} {o:HO} {i n:Nat} {c c':Ce}
theorem En.heap (E:En K F j H σ ρ S) (Sm:VZ H H'):En K F j H' σ ρ S:=by
 have X:Ext j H j H':=Ext.same Sm
 refine ⟨E.len,fun i x e=> ?_,E.jl,E.inj,fun n c a e1 e2=> ?_,E.ext.trans X,E.old,E.l0,fun b u e=> ?_,E.fresh,fun b e=>E.dom b ?_⟩
 ·obtain ⟨v,e1,e2⟩:=E.slot i x e
  exact ⟨v,e1,e2.mono X⟩
 ·have h:=E.cel n c a e1 e2
  refine h.mono X fun z=> ?_
  obtain ⟨o,e,_⟩:=h.mu z
  exact (Sm _ _ e).trans e.symm
 ·rcases E.keep b u e with h|h
  ·exact .inl (Sm _ _ h)
  ·exact .inr h
 ·cases e':H b with
  |none=>rfl
  |some u=>rw [Sm b u e'] at e;cases e
theorem En.new (E:En K F j H σ ρ S) (h:H p=none):En K F j (upd H p o) σ ρ S∧Ext j H j (upd H p o):=⟨E.heap (wU h),Ext.same (wU h)⟩
theorem En.cell (E:En K F j H σ ρ S) (h:H p=none) (hc:zbq K (j++[p]) (upd H p o) p c):En K F (j++[p]) (upd H p o) σ ρ (S++[c])∧Ext j H (j++[p]) (upd H p o):=by
 have X:Ext j H (j++[p]) (upd H p o):=⟨fun n a e=>by rw [List.getElem?_append_left (List.getElem?_eq_some_iff.1 e).1];exact e,Zr.same (wU h)⟩
 have jat:∀{n:Nat} {a:Addr},(j++[p])[n]? =some a→j[n]? =some a∨(n=j.length∧a=p):=fun {n a} e=>by
  by_cases hn:n<j.length
  ·rw [List.getElem?_append_left hn] at e;exact .inl e
  ·rw [List.getElem?_append_right (by omega)] at e
   cases hm:n-j.length with
   |zero=>rw [hm] at e;simp at e;exact .inr ⟨by omega,e.symm⟩
   |succ m=>rw [hm] at e;simp at e
 have sat:∀{n:Nat} {d:Ce},(S++[c])[n]? =some d→S[n]? =some d∨(n=S.length∧d=c):=fun {n d} e=>by
  by_cases hn:n<S.length
  ·rw [List.getElem?_append_left hn] at e;exact .inl e
  ·rw [List.getElem?_append_right (by omega)] at e
   cases hm:n-S.length with
   |zero=>rw [hm] at e;simp at e;exact .inr ⟨by omega,e.symm⟩
   |succ m=>rw [hm] at e;simp at e
 have lt:∀{n:Nat} {d:Ce},S[n]? =some d→n<S.length:=fun e=>(List.getElem?_eq_some_iff.1 e).1
 have mine:∀{n:Nat} {a:Addr} {d:Ce},j[n]? =some a→S[n]? =some d→d.fz=false→a≠p:=fun {n a d} e1 e2 z q=>by
  subst q
  obtain ⟨o',e,_⟩:=(E.cel n d a e2 e1).mu z
  rw [h] at e;cases e
 refine ⟨⟨E.len,fun i x e=> ?_,by simp [E.jl],fun n m a c1 c2 e1 e2 e3 e4 z1 z2=> ?_,fun n d a e1 e2=> ?_,E.ext.trans X,fun n d e=> ?_,E.l0,fun b u e=> ?_,fun n a hn e=> ?_,fun b e=> ?_⟩,X⟩
 ·obtain ⟨v,e1,e2⟩:=E.slot i x e
  exact ⟨v,e1,e2.mono X⟩
 ·rcases sat e3 with e3|⟨e3,_⟩
  ·have h1:j[n]? =some a:=by
    rcases jat e1 with h1|⟨h1,_⟩
    ·exact h1
    ·have:=lt e3;rw [E.jl] at h1;omega
   rcases sat e4 with e4|⟨e4,_⟩
   ·have h2:j[m]? =some a:=by
     rcases jat e2 with h2|⟨h2,_⟩
     ·exact h2
     ·have:=lt e4;rw [E.jl] at h2;omega
    exact E.inj n m a c1 c2 h1 h2 e3 e4 z1 z2
   ·have:a=p:=by
     rcases jat e2 with h2|⟨_,h2⟩
     ·have:=(List.getElem?_eq_some_iff.1 h2).1;rw [E.jl] at this;omega
     ·exact h2
    exact absurd this (mine h1 e3 z1)
  ·have:a=p:=by
    rcases jat e1 with h2|⟨_,h2⟩
    ·have:=(List.getElem?_eq_some_iff.1 h2).1;rw [E.jl] at this;omega
    ·exact h2
   rcases sat e4 with e4|⟨e4,_⟩
   ·have h2:j[m]? =some a:=by
     rcases jat e2 with h2|⟨h2,_⟩
     ·exact h2
     ·have:=lt e4;rw [E.jl] at h2;omega
    exact absurd this (mine h2 e4 z2)
   ·rw [e3,e4]
 ·rcases sat e1 with e1|⟨e1,rfl⟩
  ·have h2:j[n]? =some a:=by
    rcases jat e2 with h2|⟨h2,_⟩
    ·exact h2
    ·have:=lt e1;rw [E.jl] at h2;omega
   have hh:=E.cel n d a e1 h2
   exact hh.mono X fun z=>yG (mine h2 e1 z)
  ·have:a=p:=by
    rcases jat e2 with h2|⟨_,h2⟩
    ·have:=(List.getElem?_eq_some_iff.1 h2).1;rw [E.jl] at this;omega
    ·exact h2
   subst this
   exact hc
 ·obtain ⟨d',e1,e2⟩:=E.old n d e
  exact ⟨d',by rw [List.getElem?_append_left (lt e1)];exact e1,e2⟩
 ·rcases E.keep b u e with h'|h'
  ·exact .inl (wU h _ _ h')
  ·exact .inr h'
 ·rcases jat e with e|⟨_,rfl⟩
  ·exact E.fresh n a hn e
  ·exact E.dom _ h
 ·refine E.dom b ?_
  cases e':H b with
  |none=>rfl
  |some u=>rw [wU h b u e'] at e;cases e
theorem En.writeF (E:En K F j H σ ρ S) (hs:S[n]? =some c) (z:c.fz=false) (hj:j[n]? =some a) (hc:∀X:Ext j H j (upd H a o),zbq K j (upd H a o) a c'):En K F j (upd H a o) σ ρ (S.set n c')∧Ext j H j (upd H a o):=by
 obtain ⟨o0,h0,m0⟩:=(E.cel n c a hs hj).mu z
 have X:Ext j H j (upd H a o):=⟨fun _ _ e=>e,fun b u e m=>by
  have:b≠a:=fun q=>by subst q;rw [h0] at e;cases e;rw [m] at m0;cases m0
  rw [yG this];exact e⟩
 have sat:∀{m:Nat} {d:Ce},(S.set n c')[m]? =some d→(m=n∧d=c')∨(m≠n∧S[m]? =some d):=fun {m d} e=>by
  rw [List.getElem?_set] at e
  split at e
  ·rename_i q
   split at e
   ·cases e;exact .inl ⟨q.symm,rfl⟩
   ·cases e
  ·rename_i q
   exact .inr ⟨fun r=>q r.symm,e⟩
 have fzq:∀{m:Nat} {d:Ce},(S.set n c')[m]? =some d→∃d',S[m]? =some d'∧(d.fz=false→d'.fz=false):=fun {m d} e=>by
  rcases sat e with ⟨rfl,rfl⟩|⟨_,e⟩
  ·exact ⟨c,hs,fun _=>z⟩
  ·exact ⟨d,e,fun y=>y⟩
 refine ⟨⟨E.len,fun i x e=> ?_,by simp [E.jl],fun k m b c1 c2 e1 e2 e3 e4 z1 z2=> ?_,fun m d b e1 e2=> ?_,E.ext.trans X,fun m d e=> ?_,E.l0,fun b u e=> ?_,E.fresh,fun b e=> ?_⟩,X⟩
 ·obtain ⟨v,e1,e2⟩:=E.slot i x e
  exact ⟨v,e1,e2.mono X⟩
 ·obtain ⟨d1,f1,g1⟩:=fzq e3
  obtain ⟨d2,f2,g2⟩:=fzq e4
  exact E.inj k m b d1 d2 e1 e2 f1 f2 (g1 z1) (g2 z2)
 ·rcases sat e1 with ⟨rfl,rfl⟩|⟨q,e1⟩
  ·rw [hj] at e2
   cases e2
   exact hc X
  ·refine (E.cel m d b e1 e2).mono X fun zd=>yG fun r=> ?_
   subst r
   exact q (E.inj m n b d c e2 hj e1 hs zd z)
 ·obtain ⟨d',e1,e2,e3⟩:=E.old m d e
  by_cases q:m=n
  ·subst q
   rw [hs] at e1
   cases e1
   refine ⟨c',by rw [List.getElem?_set,if_pos rfl,if_pos (List.getElem?_eq_some_iff.1 hs).1],fun _=>e2 z,fun y=> ?_⟩
   rw [e2 z] at y
   cases y
  ·exact ⟨d',by rw [List.getElem?_set,if_neg (fun r=>q r.symm)];exact e1,e2,e3⟩
 ·by_cases q:b=a
  ·subst q
   by_cases hn:n<F.j0.length
   ·have hj0:F.j0[n]? =some b:=by
     have e1:F.j0[n]? =some F.j0[n]:=List.getElem?_eq_getElem hn
     have e2:=E.ext.pre n _ e1
     rw [hj] at e2
     cases e2
     exact e1
    have hn2:n<F.S0.length:=by rw [←E.l0];exact hn
    obtain ⟨d',f1,f2,_⟩:=E.old n _ (List.getElem?_eq_getElem hn2)
    rw [hs] at f1
    cases f1
    exact .inr ⟨n,_,hj0,List.getElem?_eq_getElem hn2,f2 z⟩
   ·rw [E.fresh n b (by omega) hj] at e
    cases e
  ·rcases E.keep b u e with h|h
   ·exact .inl (by rw [yG q];exact h)
   ·exact .inr h
 ·by_cases q:b=a
  ·subst q;rw [yS] at e;cases e
  ·rw [yG q] at e;exact E.dom b e
theorem En.write (E:En K F j H σ ρ S) (hs:S[n]? =some c) (z:c.fz=false) (hj:j[n]? =some a) (_:c'.fz=false) (hc:∀X:Ext j H j (upd H a o),zbq K j (upd H a o) a c'):En K F j (upd H a o) σ ρ (S.set n c')∧Ext j H j (upd H a o):=E.writeF hs z hj hc
theorem En.slots (E:En K F j H σ ρ S) (hl:σ'.length=ρ'.length) (h:∀(i:Nat) x,ρ'[i]? =some (some x)→∃v,σ'[i]? =some (some v)∧Xis K j H x v):En K F j H σ' ρ' S:=
 ⟨hl,h,E.jl,E.inj,E.cel,E.ext,E.old,E.l0,E.keep,E.fresh,E.dom⟩
theorem En.set (E:En K F j H σ ρ S) (h:Xis K j H x v):En K F j H (σ.set i (some v)) (ρ.set i (some x)) S:=E.slots (by simp [E.len]) fun k y e=>by
 rw [List.getElem?_set] at e ⊢
 split at e
 ·rename_i q
  subst q
  split at e
  ·rename_i hl
   cases e
   rw [if_pos rfl,if_pos (by rw [E.len];exact hl)]
   exact ⟨v,rfl,h⟩
  ·cases e
 ·rename_i q
  rw [if_neg q]
  exact E.slot k y e
theorem En.enter (E:En K F j H σ ρ S) (hl:σ'.length=ρ'.length) (h:∀(i:Nat) x,ρ'[i]? =some (some x)→∃v,σ'[i]? =some (some v)∧Xis K j H x v):En K ⟨H,j,S⟩ j H σ' ρ' S:=
 ⟨hl,h,E.jl,E.inj,E.cel,Ext.refl,fun n c e=>⟨c,e,fun z=>z,fun _=>rfl⟩,E.jl,fun b u e=> .inl e,fun n a hn e=>by have:=(List.getElem?_eq_some_iff.1 e).1;dsimp only at hn;omega,fun b e=>e⟩
theorem En.leave (E:En K F j H σ ρ S) (X:En K ⟨H,j,S⟩ j' H' σ' ρ' S'):En K F j' H' σ ρ S'∧Ext j H j' H':=by
 have e:Ext j H j' H':=X.ext
 refine ⟨⟨E.len,fun i x h=> ?_,X.jl,X.inj,X.cel,E.ext.trans e,fun n c h=> ?_,E.l0,fun b u h=> ?_,fun n a hn h=> ?_,fun b h=>E.dom b (X.dom b h)⟩,e⟩
 ·obtain ⟨v,e1,e2⟩:=E.slot i x h
  exact ⟨v,e1,e2.mono e⟩
 ·obtain ⟨c1,e1,e2,e3⟩:=E.old n c h
  obtain ⟨c2,f1,f2,f3⟩:=X.old n c1 e1
  refine ⟨c2,f1,fun z=>e2 (f2 z),fun z=> ?_⟩
  obtain rfl:=e3 z
  exact f3 z
 ·rcases E.keep b u h with h1|h1
  ·rcases X.keep b u h1 with h2|⟨n,c,h2,h3,h4⟩
   ·exact .inl h2
   ·by_cases hn:n<F.j0.length
    ·have e1:F.j0[n]? =some F.j0[n]:=List.getElem?_eq_getElem hn
     have e2:=E.ext.pre n _ e1
     have h2':j[n]? =some b:=h2
     rw [h2'] at e2
     cases e2
     have hn2:n<F.S0.length:=by rw [←E.l0];exact hn
     obtain ⟨c1,f1,f2,_⟩:=E.old n _ (List.getElem?_eq_getElem hn2)
     have h3':S[n]? =some c:=h3
     rw [h3'] at f1
     cases f1
     exact .inr ⟨n,_,e1,List.getElem?_eq_getElem hn2,f2 h4⟩
    ·have:=E.fresh n b (by omega) h2
     rw [this] at h;cases h
  ·exact .inr h1
 ·by_cases hm:n<j.length
  ·have e1:j[n]? =some j[n]:=List.getElem?_eq_getElem hm
   have e2:=e.pre n _ e1
   rw [h] at e2
   cases e2
   exact E.fresh n _ hn e1
  ·exact E.dom a (X.fresh n a (by dsimp only;omega) h)
theorem En.grow {k:Nat} (E:En K F j H σ ρ S):En K F j H (σ++List.replicate k none) (ρ++List.replicate k none) S:=E.slots (by simp [E.len]) fun i x e=>by
 by_cases hi:i<ρ.length
 ·rw [List.getElem?_append_left hi] at e
  rw [List.getElem?_append_left (by rw [E.len];exact hi)]
  exact E.slot i x e
 ·rw [List.getElem?_append_right (by omega),List.getElem?_replicate] at e
  split at e
  ·cases e
  ·cases e
end
end L2
namespace L2
open PySem
inductive Rs (α:Type) where
 |ok (a:α) (S:Sto)
 |ex (c:Str) (S:Sto)
noncomputable abbrev TwE:=Rho→Sto→Option (Rs Xv)
noncomputable abbrev TwT:=Rho→Sto→Option (Rs Bool)
noncomputable abbrev TwL:=Rho→Sto→Option (Rs (List Xv))
noncomputable abbrev TwO:=Rho→Sto→Option (Rs (Option Int))
noncomputable abbrev TwG:=Xv→Rho→Sto→Option (Rs Rho)
noncomputable abbrev zeU:=List Xv→Rho→Sto→Option (Rs Rho)
noncomputable abbrev TwI:=Rho→Sto→Option (Rs (Sto→Option (List Xv)))
inductive Fl where
 |nx (ρ:Rho) (S:Sto)
 |bk (ρ:Rho) (S:Sto)
 |ct (ρ:Rho) (S:Sto)
 |rt (x:Xv) (S:Sto)
 |ex (c:Str) (S:Sto)
noncomputable abbrev TwS:=Rho→Sto→Option Fl
noncomputable def rb {α β:Type} (m:Option (Rs α)) (f:α→Sto→Option (Rs β)):Option (Rs β):=match m with
 |some (.ok a S)=>f a S
 |some (.ex c S)=>some (.ex c S)
 |none=>none
noncomputable def sb {α:Type} (m:Option (Rs α)) (f:α→Sto→Option Fl):Option Fl:=match m with
 |some (.ok a S)=>f a S
 |some (.ex c S)=>some (.ex c S)
 |none=>none
theorem zD {α β:Type} {m:Option (Rs α)} {f:α→Sto→Option (Rs β)} {r:Rs β} (h:rb m f=some r):(∃a S,m=some (.ok a S)∧f a S=some r)∨∃c S,m=some (.ex c S)∧r= .ex c S:=by
 unfold rb at h
 split at h
 ·exact .inl ⟨_,_,rfl,h⟩
 ·cases h;exact .inr ⟨_,_,rfl,rfl⟩
 ·cases h
theorem wm {α:Type} {m:Option (Rs α)} {f:α→Sto→Option Fl} {r:Fl} (h:sb m f=some r):(∃a S,m=some (.ok a S)∧f a S=some r)∨∃c S,m=some (.ex c S)∧r= .ex c S:=by
 unfold sb at h
 split at h
 ·exact .inl ⟨_,_,rfl,h⟩
 ·cases h;exact .inr ⟨_,_,rfl,rfl⟩
 ·cases h
noncomputable def PX (K:PySem.W.Frag) (F:Fm) (j:List Addr) (H:Hp) (E:XK) (c:Str) (S':Sto):Prop:=
 ∀j' H' σ' ρ' C,Ext j H j' H'→En K F j' H' σ' ρ' S'→PySem.W.nsIn K mainGlobals c=some (some (.ref C))→E (.ref C) none H'
theorem PX.mono {K:PySem.W.Frag} {F:Fm} {j j1:List Addr} {H H1:Hp} {E:XK} {c:Str} {S':Sto} (h:PX K F j H E c S') (e:Ext j H j1 H1):PX K F j1 H1 E c S':=fun j' H' σ' ρ' C x y z=>h j' H' σ' ρ' C (e.trans x) y z
noncomputable def Po {α:Type} (K:PySem.W.Frag) (F:Fm) (j:List Addr) (H:Hp) (σ:St) (ρ:Rho) (E:XK) (P:α→List Addr→Hp→Prop):Rs α→Prop
 | .ok a S'=>∀j' H',Ext j H j' H'→En K F j' H' σ ρ S'→P a j' H'
 | .ex c S'=>PX K F j H E c S'
theorem Po.step {α:Type} {K:PySem.W.Frag} {F:Fm} {j j1:List Addr} {H H1:Hp} {σ:St} {ρ:Rho} {E:XK} {P:α→List Addr→Hp→Prop}:∀{r:Rs α},Po K F j H σ ρ E P r→Ext j H j1 H1→Po K F j1 H1 σ ρ E P r
 | .ok a S',h,e=>fun j' H' x y=>h j' H' (e.trans x) y
 | .ex c S',h,e=>PX.mono h e
noncomputable abbrev PoV (K:PySem.W.Frag) (Q:VK):Xv→List Addr→Hp→Prop:=fun x j' H'=>∀v,Xis K j' H' x v→Q v H'
noncomputable def RE (K:PySem.W.Frag) (E:XK) (t:TE) (m:TwE):Prop:=∀{F:Fm} {j:List Addr} {σ:St} {H:Hp} {ρ:Rho} {S:Sto} {r:Rs Xv} {Q:VK},En K F j H σ ρ S→m ρ S=some r→Po K F j H σ ρ E (PoV K Q) r→t σ H Q
noncomputable def RT (K:PySem.W.Frag) (E:XK) (t:TT) (m:TwT):Prop:=∀{F:Fm} {j:List Addr} {σ:St} {H:Hp} {ρ:Rho} {S:Sto} {r:Rs Bool} {Q:Bool→Hp→Prop},En K F j H σ ρ S→m ρ S=some r→Po K F j H σ ρ E (fun b _ H'=>Q b H') r→t σ H Q
noncomputable def RL (K:PySem.W.Frag) (E:XK) (t:TA) (m:TwL):Prop:=∀{F:Fm} {j:List Addr} {σ:St} {H:Hp} {ρ:Rho} {S:Sto} {r:Rs (List Xv)} {Q:List V→Hp→Prop},En K F j H σ ρ S→m ρ S=some r→Po K F j H σ ρ E (fun xs j' H'=>∀vs,yC K j' H' xs vs→Q vs H') r→t σ H Q
noncomputable def RO (K:PySem.W.Frag) (E:XK) (t:TO) (m:TwO):Prop:=∀{F:Fm} {j:List Addr} {σ:St} {H:Hp} {ρ:Rho} {S:Sto} {r:Rs (Option Int)} {Q:Option Int→Hp→Prop},En K F j H σ ρ S→m ρ S=some r→Po K F j H σ ρ E (fun o _ H'=>Q o H') r→t σ H Q
noncomputable def PoG (K:PySem.W.Frag) (F:Fm) (j:List Addr) (H:Hp) (E:XK) (R:St→Hp→Prop):Rs Rho→Prop
 | .ok ρ' S'=>∀σ' j' H',Ext j H j' H'→En K F j' H' σ' ρ' S'→R σ' H'
 | .ex c S'=>PX K F j H E c S'
theorem PoG.step {K:PySem.W.Frag} {F:Fm} {j j1:List Addr} {H H1:Hp} {E:XK} {R:St→Hp→Prop}:∀{r:Rs Rho},PoG K F j H E R r→Ext j H j1 H1→PoG K F j1 H1 E R r
 | .ok a S',h,e=>fun σ' j' H' x y=>h σ' j' H' (e.trans x) y
 | .ex c S',h,e=>PX.mono h e
noncomputable def RG (K:PySem.W.Frag) (E:XK) (t:TG) (g:TwG):Prop:=∀{F:Fm} {j:List Addr} {σ:St} {H:Hp} {ρ:Rho} {S:Sto} {r:Rs Rho} {x:Xv} {v:V} {R:St→Hp→Prop},En K F j H σ ρ S→Xis K j H x v→g x ρ S=some r→PoG K F j H E R r→t v σ H R
noncomputable def RGs (K:PySem.W.Frag) (E:XK) (t:TGs) (g:zeU):Prop:=∀{F:Fm} {j:List Addr} {σ:St} {H:Hp} {ρ:Rho} {S:Sto} {r:Rs Rho} {xs:List Xv} {vs:List V} {R:St→Hp→Prop},En K F j H σ ρ S→yC K j H xs vs→g xs ρ S=some r→PoG K F j H E R r→t vs σ H R
noncomputable def ziX (K:PySem.W.Frag) (F:Fm) (j:List Addr) (H:Hp) (E:XK) (D':UO):Fl→Prop
 | .nx ρ S=>∀σ j' H',Ext j H j' H'→En K F j' H' σ ρ S→D'.nx σ H'
 | .bk ρ S=>∀σ j' H',Ext j H j' H'→En K F j' H' σ ρ S→D'.bk σ H'
 | .ct ρ S=>∀σ j' H',Ext j H j' H'→En K F j' H' σ ρ S→D'.ct σ H'
 | .rt x S=>∀v σ ρ j' H',Ext j H j' H'→En K F j' H' σ ρ S→Xis K j' H' x v→D'.rt v H'
 | .ex c S=>PX K F j H E c S
theorem ziX.step {K:PySem.W.Frag} {F:Fm} {j j1:List Addr} {H H1:Hp} {E:XK} {D':UO}:∀{fl:Fl},ziX K F j H E D' fl→Ext j H j1 H1→ziX K F j1 H1 E D' fl
 | .nx _ _,h,e=>fun σ j' H' x y=>h σ j' H' (e.trans x) y
 | .bk _ _,h,e=>fun σ j' H' x y=>h σ j' H' (e.trans x) y
 | .ct _ _,h,e=>fun σ j' H' x y=>h σ j' H' (e.trans x) y
 | .rt _ _,h,e=>fun v σ ρ j' H' x y z=>h v σ ρ j' H' (e.trans x) y z
 | .ex _ _,h,e=>PX.mono h e
noncomputable def RS (K:PySem.W.Frag) (E:XK) (t:TS) (m:TwS):Prop:=∀{F:Fm} {j:List Addr} {D':UO} {σ:St} {H:Hp} {ρ:Rho} {S:Sto} {fl:Fl},En K F j H σ ρ S→m ρ S=some fl→ziX K F j H E D' fl→t D' σ H
noncomputable def ziY (K:PySem.W.Frag) (j:List Addr) (H:Hp) (J:It) (get:Sto→Option (List Xv)):Prop:=∀{F:Fm} {j':List Addr} {H':Hp} {σ:St} {ρ:Rho} {S:Sto} {xs:List Xv} (i:Nat),Ext j H j' H'→En K F j' H' σ ρ S→get S=some xs→
 (∀x,xs[i]? =some x→J.go i H'∧∀v H'',J.yld i H' v H''→VZ H' H''∧Xis K j' H'' x v)∧(i=xs.length→J.stop i H')
noncomputable def RI (K:PySem.W.Frag) (E:XK) (t:TI) (m:TwI):Prop:=∀{F:Fm} {j:List Addr} {σ:St} {H:Hp} {ρ:Rho} {S:Sto} {r:Rs (Sto→Option (List Xv))} {R:It→Hp→Prop},En K F j H σ ρ S→m ρ S=some r→Po K F j H σ ρ E (fun get j' H'=>∀J,ziY K j' H' J get→R J H') r→t σ H R
noncomputable abbrev Op2:=Xv→Xv→Sto→Option (Xv×Sto)
noncomputable abbrev Opn:=List Xv→Sto→Option (Xv×Sto)
noncomputable def YA (K:PySem.W.Frag) (r:R2) (f:Op2):Prop:=∀{F:Fm} {j:List Addr} {σ:St} {H:Hp} {ρ:Rho} {S S':Sto} {x y z:Xv} {u v:V} {Q:VK},En K F j H σ ρ S→Xis K j H x u→Xis K j H y v→f x y S=some (z,S')→(∀w j' H',Ext j H j' H'→En K F j' H' σ ρ S'→Xis K j' H' z w→Q w H')→r u v H Q
noncomputable def zmu (K:PySem.W.Frag) (r:V→Hp→VK→Prop) (f:Xv→Sto→Option (Xv×Sto)):Prop:=∀{F:Fm} {j:List Addr} {σ:St} {H:Hp} {ρ:Rho} {S S':Sto} {x z:Xv} {u:V} {Q:VK},En K F j H σ ρ S→Xis K j H x u→f x S=some (z,S')→(∀w j' H',Ext j H j' H'→En K F j' H' σ ρ S'→Xis K j' H' z w→Q w H')→r u H Q
noncomputable def Uc (K:PySem.W.Frag) (r:List V→Hp→VK→Prop) (f:Opn):Prop:=∀{F:Fm} {j:List Addr} {σ:St} {H:Hp} {ρ:Rho} {S S':Sto} {xs:List Xv} {z:Xv} {vs:List V} {Q:VK},En K F j H σ ρ S→yC K j H xs vs→f xs S=some (z,S')→(∀w j' H',Ext j H j' H'→En K F j' H' σ ρ S'→Xis K j' H' z w→Q w H')→r vs H Q
noncomputable def ze (i:Nat):TwE:=fun ρ S=>match ρ[i]? with
 |some (some x)=>some (.ok x S)
 |_=>none
noncomputable def eC (x:Xv):TwE:=fun _ S=>some (.ok x S)
noncomputable def okP (o:Option (Xv×Sto)):Option (Rs Xv):=o.map fun p=> .ok p.1 p.2
theorem wc {o:Option (Xv×Sto)} {r:Rs Xv} (h:okP o=some r):∃z S,o=some (z,S)∧r= .ok z S:=by
 cases o with
 |none=>cases h
 |some p=>cases h;exact ⟨_,_,rfl,rfl⟩
noncomputable def eOp (f:Op2) (a b:TwE):TwE:=fun ρ S=>rb (a ρ S) fun x S1=>rb (b ρ S1) fun y S2=>okP (f x y S2)
noncomputable def eUn (f:Xv→Sto→Option (Xv×Sto)) (a:TwE):TwE:=fun ρ S=>rb (a ρ S) fun x S1=>okP (f x S1)
noncomputable def bE (m:TwE):TwT:=fun ρ S=>rb (m ρ S) fun x S1=>match x with
 | .bl b=>some (.ok b S1)
 |_=>none
noncomputable def eB (m:TwT):TwE:=fun ρ S=>rb (m ρ S) fun b S1=>some (.ok (.bl b) S1)
noncomputable def Xw (a b:TwT):TwT:=fun ρ S=>rb (a ρ S) fun x S1=>if x then b ρ S1 else some (.ok false S1)
noncomputable def bOr (a b:TwT):TwT:=fun ρ S=>rb (a ρ S) fun x S1=>if x then some (.ok true S1) else b ρ S1
noncomputable def YB (a:TwT):TwT:=fun ρ S=>rb (a ρ S) fun x S1=>some (.ok (!x) S1)
noncomputable def zgC (a b:TwE):TwE:=fun ρ S=>rb (bE a ρ S) fun x S1=>if x then b ρ S1 else some (.ok (.bl false) S1)
noncomputable def eOr (a b:TwE):TwE:=fun ρ S=>rb (bE a ρ S) fun x S1=>if x then some (.ok (.bl true) S1) else b ρ S1
noncomputable def eIf (c:TwT) (a b:TwE):TwE:=fun ρ S=>rb (c ρ S) fun x S1=>if x then a ρ S1 else b ρ S1
noncomputable def evL:List TwE→TwL
 |[]=>fun _ S=>some (.ok [] S)
 |m::r=>fun ρ S=>rb (m ρ S) fun x S1=>rb (evL r ρ S1) fun xs S2=>some (.ok (x::xs) S2)
noncomputable def xj (ms:List TwE):TwE:=fun ρ S=>rb (evL ms ρ S) fun xs S1=>some (.ok (.tup xs) S1)
noncomputable def TL (ms:List TwE):TwE:=fun ρ S=>rb (evL ms ρ S) fun xs S1=>some (.ok (.ref S1.length) (S1++[.lst xs]))
noncomputable def eFn (f:Opn) (ms:List TwE):TwE:=fun ρ S=>rb (evL ms ρ S) fun xs S1=>okP (f xs S1)
noncomputable def zkS (f:Xv→Xv→Option Xv):Op2:=fun x y S=>(f x y).map fun z=>(z,S)
noncomputable def zmv (f:Xv→Option Xv):Xv→Sto→Option (Xv×Sto):=fun x S=>(f x).map fun z=>(z,S)
theorem zhz {o:Option Xv} {S S':Sto} {z:Xv} (h:(o.map fun z=>(z,S))=some (z,S')):o=some z∧S'=S:=by
 cases o with
 |none=>cases h
 |some p=>cases h;exact ⟨rfl,rfl⟩
section
variable {K:PySem.W.Frag} {E:XK} {F:Fm} {j:List Addr} {H:Hp} {σ:St} {ρ:Rho} {S:Sto}
theorem Po.val {Q:VK} {x:Xv} {v:V} (k:Po K F j H σ ρ E (PoV K Q) (.ok x S)) (En0:En K F j H σ ρ S) (h:Xis K j H x v):Q v H:=k j H Ext.refl En0 v h
theorem zc (i:Nat):RE K E (zkr i) (ze i):=by
 intro F j σ H ρ S r Q En0 e k
 unfold ze at e
 split at e
 ·rename_i x ex
  cases e
  obtain ⟨v,e1,e2⟩:=En0.slot i _ ex
  exact ⟨v,e1,k.val En0 e2⟩
 ·cases e
theorem zcx {v:V} {x:Xv} (h:∀j H,Xis K j H x v):RE K E (tC v) (eC x):=fun En0 e k=>by
 cases e
 exact k.val En0 (h _ _)
theorem zj (i:Int):RE K E (tC (.int i)) (eC (.int i)):=zcx fun _ _=> .int i
theorem zx (x:Str):RE K E (tC (.str x)) (eC (.str x)):=zcx fun _ _=> .str x
theorem We (b:Bool):RE K E (tC (.bl b)) (eC (.bl b)):=zcx fun _ _=> .bl b
theorem zhA:RE K E (tC .non) (eC .non):=zcx fun _ _=> .non
theorem zp {r:R2} {f:Op2} {ta tb:TE} {a b:TwE} (ho:YA K r f) (ha:RE K E ta a) (hb:RE K E tb b):RE K E (tOp r ta tb) (eOp f a b):=by
 intro F j σ H ρ S r Q En0 e k
 rcases zD e with ⟨x,S1,e1,e⟩|⟨c,S1,e1,rfl⟩
 ·refine ha En0 e1 fun j1 H1 X1 E1 u hu=> ?_
  rcases zD e with ⟨y,S2,e2,e⟩|⟨c,S2,e2,rfl⟩
  ·obtain ⟨z,S3,e3,rfl⟩:=wc e
   exact hb E1 e2 fun j2 H2 X2 E2 v hv=>ho E2 (hu.mono X2) hv e3 fun w j3 H3 X3 E3 hw=>k _ _ (X1.trans (X2.trans X3)) E3 _ hw
  ·exact hb E1 e2 (PX.mono k X1)
 ·exact ha En0 e1 k
theorem zmw {r:V→Hp→VK→Prop} {f:Xv→Sto→Option (Xv×Sto)} {ta:TE} {a:TwE} (ho:zmu K r f) (ha:RE K E ta a):RE K E (tUn r ta) (eUn f a):=by
 intro F j σ H ρ S r Q En0 e k
 rcases zD e with ⟨x,S1,e1,e⟩|⟨c,S1,e1,rfl⟩
 ·obtain ⟨z,S3,e3,rfl⟩:=wc e
  exact ha En0 e1 fun j1 H1 X1 E1 u hu=>ho E1 hu e3 fun w j3 H3 X3 E3 hw=>k _ _ (X1.trans X3) E3 _ hw
 ·exact ha En0 e1 k
theorem yT {t:TE} {m:TwE} (h:RE K E t m):RT K E (tB t) (bE m):=by
 intro F j σ H ρ S r Q En0 e k
 rcases zD e with ⟨x,S1,e1,e⟩|⟨c,S1,e1,rfl⟩
 ·split at e
  ·cases e
   exact h En0 e1 fun j1 H1 X1 E1 u hu=>⟨_,hu.bl_inv,k _ _ X1 E1⟩
  ·cases e
 ·exact h En0 e1 k
theorem yd {t:TE} {m:TwE} (h:RE K E t m):RT K E (zhf t) (bE m):=yT h
theorem Zf {t u:TT} {a b:TwT} (ha:RT K E t a) (hb:RT K E u b):RT K E (zlZ t u) (Xw a b):=by
 intro F j σ H ρ S r Q En0 e k
 rcases zD e with ⟨x,S1,e1,e⟩|⟨c,S1,e1,rfl⟩
 ·refine ha En0 e1 fun j1 H1 X1 E1=> ?_
  cases x with
  |true=>exact hb E1 e (k.step X1)
  |false=>cases e;exact k _ _ X1 E1
 ·exact ha En0 e1 k
theorem Ud {t u:TT} {a b:TwT} (ha:RT K E t a) (hb:RT K E u b):RT K E (tOr t u) (bOr a b):=by
 intro F j σ H ρ S r Q En0 e k
 rcases zD e with ⟨x,S1,e1,e⟩|⟨c,S1,e1,rfl⟩
 ·refine ha En0 e1 fun j1 H1 X1 E1=> ?_
  cases x with
  |true=>cases e;exact k _ _ X1 E1
  |false=>exact hb E1 e (k.step X1)
 ·exact ha En0 e1 k
theorem wV {t:TT} {a:TwT} (ha:RT K E t a):RT K E (zl0 t) (YB a):=by
 intro F j σ H ρ S r Q En0 e k
 rcases zD e with ⟨x,S1,e1,e⟩|⟨c,S1,e1,rfl⟩
 ·cases e
  exact ha En0 e1 fun j1 H1 X1 E1=>k _ _ X1 E1
 ·exact ha En0 e1 k
theorem zcy {ta tb:TE} {a b:TwE} (ha:RE K E ta a) (hb:RE K E tb b):RE K E (zjO ta tb) (zgC a b):=by
 intro F j σ H ρ S r Q En0 e k
 rcases zD e with ⟨x,S1,e1,e⟩|⟨c,S1,e1,rfl⟩
 ·rcases zD e1 with ⟨y,S2,e2,e1⟩|⟨c,S2,e2,z⟩
  ·split at e1
   ·cases e1
    refine ha En0 e2 fun j1 H1 X1 E1 u hu=>⟨_,hu.bl_inv,?_⟩
    cases x with
    |true=>exact hb E1 e (k.step X1)
    |false=>cases e;exact k _ _ X1 E1 _ (.bl false)
   ·cases e1
  ·cases z
 ·rcases zD e1 with ⟨y,S2,e2,e1⟩|⟨c,S2,e2,z⟩
  ·split at e1<;>cases e1
  ·cases z;exact ha En0 e2 k
theorem zmx {ta tb:TE} {a b:TwE} (ha:RE K E ta a) (hb:RE K E tb b):RE K E (zl1 ta tb) (eOr a b):=by
 intro F j σ H ρ S r Q En0 e k
 rcases zD e with ⟨x,S1,e1,e⟩|⟨c,S1,e1,rfl⟩
 ·rcases zD e1 with ⟨y,S2,e2,e1⟩|⟨c,S2,e2,z⟩
  ·split at e1
   ·cases e1
    refine ha En0 e2 fun j1 H1 X1 E1 u hu=>⟨_,hu.bl_inv,?_⟩
    cases x with
    |true=>cases e;exact k _ _ X1 E1 _ (.bl true)
    |false=>exact hb E1 e (k.step X1)
   ·cases e1
  ·cases z
 ·rcases zD e1 with ⟨y,S2,e2,e1⟩|⟨c,S2,e2,z⟩
  ·split at e1<;>cases e1
  ·cases z;exact ha En0 e2 k
theorem zkT {ta:TE} {a:TwE} (ha:RE K E ta a):RE K E (zjP ta) (eB (YB (bE a))):=by
 intro F j σ H ρ S r Q En0 e k
 rcases zD e with ⟨x,S1,e1,e⟩|⟨c,S1,e1,rfl⟩
 ·rcases zD e1 with ⟨y,S2,e2,e1⟩|⟨c,S2,e2,z⟩
  ·rcases zD e2 with ⟨z,S3,e3,e2⟩|⟨c,S3,e3,z⟩
   ·split at e2
    ·cases e2;cases e1;cases e
     exact ha En0 e3 fun j1 H1 X1 E1 u hu=>⟨_,hu.bl_inv,k _ _ X1 E1 _ (.bl _)⟩
    ·cases e2
   ·cases z
  ·cases z
 ·rcases zD e1 with ⟨y,S2,e2,e1⟩|⟨c,S2,e2,z⟩
  ·cases e1
  ·cases z
   rcases zD e2 with ⟨z,S3,e3,e2⟩|⟨c,S3,e3,z⟩
   ·split at e2<;>cases e2
   ·cases z;exact ha En0 e3 k
theorem zmy {t:TT} {c:TwT} {ta tb:TE} {a b:TwE} (hc:RT K E t c) (ha:RE K E ta a) (hb:RE K E tb b):RE K E (tIf t ta tb) (eIf c a b):=by
 intro F j σ H ρ S r Q En0 e k
 rcases zD e with ⟨x,S1,e1,e⟩|⟨c,S1,e1,rfl⟩
 ·refine hc En0 e1 fun j1 H1 X1 E1=> ?_
  cases x with
  |true=>exact ha E1 e (k.step X1)
  |false=>exact hb E1 e (k.step X1)
 ·exact hc En0 e1 k
noncomputable def Xv.isNon:Xv→Bool
 | .non=>true
 |_=>false
noncomputable def zmz:Xv→Sto→Option (Xv×Sto):=zmv fun x=>some (.bl x.isNon)
noncomputable def zhB:Xv→Sto→Option (Xv×Sto):=zmv fun x=>some (.bl (!x.isNon))
theorem zfL {x:Xv} {v:V} (h:Xis K j H x v):decide (v= .non)=x.isNon:=by cases h<;>simp [Xv.isNon]
theorem zkU {ta:TE} {a:TwE} (ha:RE K E ta a):RE K E (zlY ta) (eUn zmz a):=by
 intro F j σ H ρ S r Q En0 e k
 rcases zD e with ⟨x,S1,e1,e⟩|⟨c,S1,e1,rfl⟩
 ·cases e
  exact ha En0 e1 fun j1 H1 X1 E1 u hu=>k _ _ X1 E1 _ (by rw [zfL hu];exact .bl _)
 ·exact ha En0 e1 k
theorem ziZ {ta:TE} {a:TwE} (ha:RE K E ta a):RE K E (zjN ta) (eUn zhB a):=by
 intro F j σ H ρ S r Q En0 e k
 rcases zD e with ⟨x,S1,e1,e⟩|⟨c,S1,e1,rfl⟩
 ·cases e
  exact ha En0 e1 fun j1 H1 X1 E1 u hu=>k _ _ X1 E1 _ (by rw [zfL hu];exact .bl _)
 ·exact ha En0 e1 k
theorem zh:RL K E zeH (evL []):=fun En0 e k=>by
 cases e
 exact k _ _ Ext.refl En0 [] .nil
theorem zb {ta:TE} {tr:TA} {m:TwE} {ms:List TwE} (ha:RE K E ta m) (hr:RL K E tr (evL ms)):RL K E (VU ta tr) (evL (m::ms)):=by
 intro F j σ H ρ S r Q En0 e k
 rcases zD e with ⟨x,S1,e1,e⟩|⟨c,S1,e1,rfl⟩
 ·refine ha En0 e1 fun j1 H1 X1 E1 u hu=> ?_
  rcases zD e with ⟨xs,S2,e2,e⟩|⟨c,S2,e2,rfl⟩
  ·cases e
   exact hr E1 e2 fun j2 H2 X2 E2 vs hv=>k _ _ (X1.trans X2) E2 (u::vs) (.cons (hu.mono X2) hv)
  ·exact hr E1 e2 (PX.mono k X1)
 ·exact ha En0 e1 k
theorem WW:∀{ms:List TwE} {ρ:Rho} {S S':Sto} {xs:List Xv},evL ms ρ S=some (.ok xs S')→xs.length=ms.length
 |[],_,_,_,_,h=>by cases h;rfl
 |m::ms,ρ,S,S',xs,h=>by
  rcases zD h with ⟨x,S1,e1,h⟩|⟨c,S1,e1,z⟩
  ·rcases zD h with ⟨ys,S2,e2,h⟩|⟨c,S2,e2,z⟩
   ·cases h
    simp [WW e2]
   ·cases z
  ·cases z
theorem yw {t:TA} {ms:List TwE} (h:RL K E t (evL ms)) (hl:ms.length≤1000:=by simp):RE K E (zmg t) (xj ms):=by
 intro F j σ H ρ S r Q En0 e k
 rcases zD e with ⟨xs,S1,e1,e⟩|⟨c,S1,e1,rfl⟩
 ·cases e
  refine h En0 e1 fun j1 H1 X1 E1 vs hv=>⟨?_,fun p hp=> ?_⟩
  ·rw [hv.len,WW e1]
   exact Nat.le_trans hl (by decide)
  ·obtain ⟨E2,X2⟩:=E1.new (o:= .tup vs) hp
   exact k _ _ (X1.trans X2) E2 _ (.tup yS (hv.mono X2))
 ·exact h En0 e1 k
theorem En.lst {xs:List Xv} {vs:List V} {p:Addr} (En0:En K F j H σ ρ S) (hv:yC K j H xs vs) (hp:H p=none):En K F (j++[p]) (upd H p (.lst vs)) σ ρ (S++[.lst xs])∧Ext j H (j++[p]) (upd H p (.lst vs))∧Xis K (j++[p]) (upd H p (.lst vs)) (.ref S.length) (.ref p):=by
 have X:Ext j H (j++[p]) (upd H p (.lst vs)):=⟨fun n a e=>by rw [List.getElem?_append_left (List.getElem?_eq_some_iff.1 e).1];exact e,Zr.same (wU hp)⟩
 obtain ⟨E1,_⟩:=En0.cell (o:= .lst vs) (c:= .lst xs) hp ⟨vs,yS,hv.mono X⟩
 exact ⟨E1,X,.ref (by rw [←En0.jl];simp)⟩
theorem YC {t:TA} {ms:List TwE} (h:RL K E t (evL ms)) (hl:ms.length≤1000:=by simp):RE K E (zmh t) (TL ms):=by
 intro F j σ H ρ S r Q En0 e k
 rcases zD e with ⟨xs,S1,e1,e⟩|⟨c,S1,e1,rfl⟩
 ·cases e
  refine h En0 e1 fun j1 H1 X1 E1 vs hv=>⟨?_,fun p hp=> ?_⟩
  ·rw [hv.len,WW e1]
   exact Nat.le_trans hl (by decide)
  ·obtain ⟨E2,X2,h2⟩:=E1.lst hv hp
   exact k _ _ (X1.trans X2) E2 _ h2
 ·exact h En0 e1 k
theorem yl {t:TA} {ms:List TwE} {r:List V→Hp→VK→Prop} {f:Opn} (hr:Uc K r f) (h:RL K E t (evL ms)):RE K E (tCB r t) (eFn f ms):=by
 intro F j σ H ρ S r Q En0 e k
 rcases zD e with ⟨xs,S1,e1,e⟩|⟨c,S1,e1,rfl⟩
 ·obtain ⟨z,S3,e3,rfl⟩:=wc e
  exact h En0 e1 fun j1 H1 X1 E1 vs hv=>hr E1 hv e3 fun w j3 H3 X3 E3 hw=>k _ _ (X1.trans X3) E3 _ hw
 ·exact h En0 e1 k
end
end L2
namespace L2
open PySem
noncomputable def yx (S:Sto):Xv→Option (List Xv)
 | .ref n=>match S[n]? with
  |some (.lst xs)=>some xs
  |some (.frz xs)=>some xs
  |_=>none
 |_=>none
noncomputable def Wf (S:Sto) (x:Xv):Option (List Xv):=match x.tupOf with
 |some xs=>some xs
 |none=>yx S x
noncomputable def Ue (S:Sto):Xv→Option (Nat×List Xv)
 | .ref n=>match S[n]? with
  |some (.lst xs)=>some (n,xs)
  |_=>none
 |_=>none
section
variable {K:PySem.W.Frag} {E:XK} {F:Fm} {j:List Addr} {H:Hp} {σ:St} {ρ:Rho} {S:Sto} {x:Xv} {v:V}
theorem En.lstAt {xs:List Xv} (E0:En K F j H σ ρ S) (hx:Xis K j H x v) (h:L2.yx S x=some xs):∃a vs,v= .ref a∧SqX K H a vs∧yC K j H xs vs:=by
 cases x<;>simp only [L2.yx,reduceCtorEq] at h
 obtain ⟨a,rfl,hj⟩:=hx.ref_inv
 split at h
 ·cases h
  obtain ⟨vs,e1,e2⟩:=E0.cel _ _ _ (by assumption) hj
  exact ⟨a,vs,rfl,SqX.of e1,e2⟩
 ·cases h
  obtain ⟨vs,e1,e2⟩:=E0.cel _ _ _ (by assumption) hj
  refine ⟨a,vs,rfl,?_,e2⟩
  rcases e1 with ⟨o,e1⟩|e1
  ·exact .inl (.inr ⟨o,e1⟩)
  ·exact e1 H
 ·cases h
theorem En.seqAt {xs:List Xv} (E0:En K F j H σ ρ S) (hx:Xis K j H x v) (h:L2.Wf S x=some xs):∃a vs,v= .ref a∧(SqX K H a vs∨SqT K H a vs)∧yC K j H xs vs:=by
 unfold L2.Wf at h
 split at h
 ·cases h
  obtain ⟨a,vs,e1,e2,e3⟩:=hx.tupO (by assumption)
  exact ⟨a,vs,e1,.inr e2,e3⟩
 ·obtain ⟨a,vs,e1,e2,e3⟩:=E0.lstAt hx h
  exact ⟨a,vs,e1,.inl e2,e3⟩
theorem zb1 {n:Nat} {xs:List Xv} (h:Ue S x=some (n,xs)):x= .ref n∧S[n]? =some (.lst xs):=by
 cases x<;>simp only [Ue,reduceCtorEq] at h
 split at h
 ·cases h;exact ⟨rfl,by assumption⟩
 ·cases h
theorem En.wl {n:Nat} {xs:List Xv} (E0:En K F j H σ ρ S) (hx:Xis K j H x v) (h:Ue S x=some (n,xs)):∃a vs,v= .ref a∧j[n]? =some a∧H a=some (.lst vs)∧yC K j H xs vs:=by
 obtain ⟨rfl,hs⟩:=zb1 h
 obtain ⟨a,rfl,hj⟩:=hx.ref_inv
 obtain ⟨vs,e1,e2⟩:=E0.cel _ _ _ hs hj
 exact ⟨a,vs,rfl,hj,e1,e2⟩
theorem En.wr {n:Nat} {xs ys:List Xv} {ws:List V} {a:Addr} (E0:En K F j H σ ρ S) (h:Ue S x=some (n,xs)) (hj:j[n]? =some a) (hw:yC K j H ys ws):En K F j (upd H a (.lst ws)) σ ρ (S.set n (.lst ys))∧Ext j H j (upd H a (.lst ws)):=
 E0.write (zb1 h).2 rfl hj rfl fun X=>⟨ws,yS,hw.mono X⟩
theorem tyL {a:Addr} {vs:List V} (h:SqL K H a vs):tyV K "list" (.ref a) H:= .inl ⟨rfl,vs,h⟩
noncomputable def yE:Op2:=fun x y S=>match x.tupOf,y with
 |some xs,.int i=>(atI xs i).map fun z=>(z,S)
 |_,_=>none
noncomputable def vp:Op2:=fun x y S=>match yx S x,y with
 |some xs,.int i=>(atI xs i).map fun z=>(z,S)
 |_,_=>none
noncomputable def zaD:Op2:=zkS fun x y=>match x,y with
 | .str z,.int i=>if z.length≤sizeLine then (atI z.cps.toList i).map fun c=> .str ⟨#[c]⟩ else none
 |_,_=>none
theorem yg:YA K (zkI K) yE:=by
 intro F j σ H ρ S S' x y z u v Q E0 hx hy h k
 unfold yE at h
 split at h
 ·rename_i xs i ex
  cases e:atI xs i with
  |none=>rw [e] at h;cases h
  |some z'=>
   rw [e] at h
   cases h
   obtain ⟨a,vs,rfl,h1,h2⟩:=hx.tupO ex
   obtain ⟨w,e1,e2⟩:=h2.at_ e
   exact ⟨a,vs,_,w,rfl,hy.int_inv,h1,e1,k _ _ _ Ext.refl E0 e2⟩
 ·cases h
theorem xy:YA K (zkH K) vp:=by
 intro F j σ H ρ S S' x y z u v Q E0 hx hy h k
 unfold vp at h
 split at h
 ·rename_i xs i ex
  cases e:atI xs i with
  |none=>rw [e] at h;cases h
  |some z'=>
   rw [e] at h
   cases h
   obtain ⟨a,vs,rfl,h1,h2⟩:=E0.lstAt hx ex
   obtain ⟨w,e1,e2⟩:=h2.at_ e
   exact ⟨a,vs,_,w,rfl,hy.int_inv,h1.sql,e1,k _ _ _ Ext.refl E0 e2⟩
 ·cases h
theorem zcz:YA K zmk zaD:=by
 intro F j σ H ρ S S' x y z u v Q E0 hx hy h k
 obtain ⟨h',rfl⟩:=zhz h
 dsimp only at h'
 split at h'
 ·split at h'
  ·rename_i zz i hz
   cases e:atI zz.cps.toList i with
   |none=>rw [e] at h';cases h'
   |some c=>
    rw [e] at h'
    cases h'
    exact ⟨zz,i,c,hx.str_inv,hy.int_inv,hz,e,k _ _ _ Ext.refl E0 (.str _)⟩
  ·cases h'
 ·cases h'
noncomputable def oNo:TwO:=fun _ S=>some (.ok none S)
noncomputable def Uf (m:TwE):TwO:=fun ρ S=>rb (m ρ S) fun x S1=>match x with
 | .int i=>some (.ok (some i) S1)
 |_=>none
theorem zaE:RO K E zfB oNo:=fun E0 e k=>by
 cases e
 exact k _ _ Ext.refl E0
theorem Xx {t:TE} {m:TwE} (h:RE K E t m):RO K E (zjV t) (Uf m):=by
 intro F j σ H ρ S r Q En0 e k
 rcases zD e with ⟨x,S1,e1,e⟩|⟨c,S1,e1,rfl⟩
 ·split at e
  ·cases e
   exact h En0 e1 fun j1 H1 X1 E1 u hu=>⟨_,hu.int_inv,k _ _ X1 E1⟩
  ·cases e
 ·exact h En0 e1 k
noncomputable def zaF {α:Type} (xs:List α) (lo hi:Option Int):List α:=(xs.drop (HT.sIx xs.length 0 lo)).take (HT.sIx xs.length xs.length hi-HT.sIx xs.length 0 lo)
theorem yC.cut {xs:List Xv} {vs:List V} (h:yC K j H xs vs) (lo hi:Option Int):yC K j H (zaF xs lo hi) (zgq vs lo hi):=by
 unfold zgq zaF
 rw [h.len]
 exact (h.drop _).take _
noncomputable def eSl (f:Xv→Option Int→Option Int→Sto→Option (Xv×Sto)) (m:TwE) (lo hi:TwO):TwE:=fun ρ S=>rb (m ρ S) fun x S1=>rb (lo ρ S1) fun y S2=>rb (hi ρ S2) fun z S3=>okP (f x y z S3)
noncomputable def zhC (K:PySem.W.Frag) (r:V→Option Int→Option Int→Hp→VK→Prop) (f:Xv→Option Int→Option Int→Sto→Option (Xv×Sto)):Prop:=∀{F:Fm} {j:List Addr} {σ:St} {H:Hp} {ρ:Rho} {S S':Sto} {x z:Xv} {lo hi:Option Int} {u:V} {Q:VK},En K F j H σ ρ S→Xis K j H x u→f x lo hi S=some (z,S')→(∀w j' H',Ext j H j' H'→En K F j' H' σ ρ S'→Xis K j' H' z w→Q w H')→r u lo hi H Q
theorem zj4 {r:V→Option Int→Option Int→Hp→VK→Prop} {f:Xv→Option Int→Option Int→Sto→Option (Xv×Sto)} {te:TE} {tl th:TO} {m:TwE} {lo hi:TwO} (ho:zhC K r f) (hm:RE K E te m) (hl:RO K E tl lo) (hh:RO K E th hi):RE K E (tSl r te tl th) (eSl f m lo hi):=by
 intro F j σ H ρ S r Q En0 e k
 rcases zD e with ⟨x,S1,e1,e⟩|⟨c,S1,e1,rfl⟩
 ·refine hm En0 e1 fun j1 H1 X1 E1 u hu=> ?_
  rcases zD e with ⟨y,S2,e2,e⟩|⟨c,S2,e2,rfl⟩
  ·refine hl E1 e2 fun j2 H2 X2 E2=> ?_
   rcases zD e with ⟨z,S3,e3,e⟩|⟨c,S3,e3,rfl⟩
   ·obtain ⟨w,S4,e4,rfl⟩:=wc e
    exact hh E2 e3 fun j3 H3 X3 E3=>ho E3 (hu.mono (X2.trans X3)) e4 fun w j4 H4 X4 E4 hw=>k _ _ (X1.trans (X2.trans (X3.trans X4))) E4 _ hw
   ·exact hh E2 e3 (PX.mono k (X1.trans X2))
  ·exact hl E1 e2 (PX.mono k X1)
 ·exact hm En0 e1 k
noncomputable def TM:Xv→Option Int→Option Int→Sto→Option (Xv×Sto):=fun x lo hi S=>(yx S x).map fun xs=>(.ref S.length,S++[.lst (zaF xs lo hi)])
theorem zmA:zhC K (zhl K) TM:=by
 intro F j σ H ρ S S' x z lo hi u Q E0 hx h k
 unfold TM at h
 cases e:yx S x with
 |none=>rw [e] at h;cases h
 |some xs=>
  rw [e] at h
  cases h
  obtain ⟨a,vs,rfl,h1,h2⟩:=E0.lstAt hx e
  refine ⟨a,vs,rfl,h1.sql,fun p hp=> ?_⟩
  obtain ⟨E1,X1,h3⟩:=E0.lst (h2.cut lo hi) hp
  exact k _ _ _ X1 E1 h3
noncomputable def zdH:Xv→Option Int→Option Int→Sto→Option (Xv×Sto):=fun x lo hi S=>match x with
 | .str z=>if z.length≤sizeLine then some (.str (Txt.slice z lo hi),S) else none
 |_=>none
theorem zmB:zhC K ziV zdH:=by
 intro F j σ H ρ S S' x z lo hi u Q E0 hx h k
 unfold zdH at h
 split at h
 ·split at h
  ·cases h
   exact ⟨_,hx.str_inv,by assumption,k _ _ _ Ext.refl E0 (.str _)⟩
  ·cases h
 ·cases h
theorem UY {te:TE} {tl th:TO} {m:TwE} {lo hi:TwO} (hm:RE K E te m) (hl:RO K E tl lo) (hh:RO K E th hi):RE K E (tSl (zhl K) te tl th) (eSl TM m lo hi):= @zj4 K E (zhl K) TM te tl th m lo hi (@zmA K) hm hl hh
theorem zkV {te:TE} {tl th:TO} {m:TwE} {lo hi:TwO} (hm:RE K E te m) (hl:RO K E tl lo) (hh:RO K E th hi):RE K E (tSl ziV te tl th) (eSl zdH m lo hi):= @zj4 K E ziV zdH te tl th m lo hi (@zmB K) hm hl hh
noncomputable abbrev OpM:=Xv→List Xv→Sto→Option (Xv×Sto)
noncomputable def zgD (K:PySem.W.Frag) (r:V→List V→Hp→VK→Prop) (f:OpM):Prop:=∀{F:Fm} {j:List Addr} {σ:St} {H:Hp} {ρ:Rho} {S S':Sto} {x z:Xv} {ys:List Xv} {u:V} {vs:List V} {Q:VK},En K F j H σ ρ S→Xis K j H x u→yC K j H ys vs→f x ys S=some (z,S')→(∀w j' H',Ext j H j' H'→En K F j' H' σ ρ S'→Xis K j' H' z w→Q w H')→r u vs H Q
noncomputable def eMt (f:OpM) (o:TwE) (ms:List TwE):TwE:=fun ρ S=>rb (o ρ S) fun x S1=>(yx S1 x).bind fun _=>rb (evL ms ρ S1) fun ys S2=>okP (f x ys S2)
theorem Wq {r:V→List V→Hp→VK→Prop} {f:OpM} {to:TE} {t:TA} {o:TwE} {ms:List TwE} (hr:zgD K r f) (ho:RE K E to o) (ht:RL K E t (evL ms)):RE K E (tBM K "list" r to t) (eMt f o ms):=by
 intro F j σ H ρ S r Q En0 e k
 rcases zD e with ⟨x,S1,e1,e⟩|⟨c,S1,e1,rfl⟩
 ·refine ho En0 e1 fun j1 H1 X1 E1 u hu=> ?_
  cases el:L2.yx S1 x with
  |none=>rw [el] at e;cases e
  |some l=>
   rw [el] at e
   obtain ⟨a,vs,rfl,h1,_⟩:=E1.lstAt hu el
   refine ⟨tyL h1.sql,?_⟩
   rcases zD e with ⟨ys,S2,e2,e⟩|⟨c,S2,e2,rfl⟩
   ·obtain ⟨z,S3,e3,rfl⟩:=wc e
    exact ht E1 e2 fun j2 H2 X2 E2 ws hw=>hr E2 (hu.mono X2) hw e3 fun w j3 H3 X3 E3 hz=>k _ _ (X1.trans (X2.trans X3)) E3 _ hz
   ·exact ht E1 e2 (PX.mono k X1)
 ·exact ho En0 e1 k
noncomputable def xU:OpM:=fun x ys S=>match Ue S x,ys with
 |some (n,xs),[y]=>if xs.length<sizeLine then some (.non,S.set n (.lst (xs++[y]))) else none
 |_,_=>none
theorem wO:zgD K zfD xU:=by
 intro F j σ H ρ S S' x z ys u vs Q E0 hx hy h k
 unfold xU at h
 split at h
 ·rename_i n xs y e
  split at h
  ·rename_i hl
   cases h
   obtain ⟨a,ws,rfl,hj,h1,h2⟩:=E0.wl hx e
   obtain ⟨w,rfl,hw⟩:=hy.d1
   obtain ⟨E1,X1⟩:=E0.wr e hj (h2.append (.one hw))
   exact ⟨a,ws,w,rfl,rfl,h1,by rw [h2.len];exact hl,k _ _ _ X1 E1 .non⟩
  ·cases h
 ·cases h
noncomputable def Xy:OpM:=fun x ys S=>match Ue S x,ys with
 |some (n,xs),[y]=>(Wf S y).bind fun zs=>if xs.length+zs.length≤sizeLine then some (.non,S.set n (.lst (xs++zs))) else none
 |_,_=>none
theorem UZ:zgD K (zdG K) Xy:=by
 intro F j σ H ρ S S' x z ys u vs Q E0 hx hy h k
 unfold Xy at h
 split at h
 ·rename_i n xs y e
  cases e1:Wf S y with
  |none=>rw [e1] at h;cases h
  |some zs=>
   rw [e1] at h
   dsimp only [Option.bind] at h
   split at h
   ·rename_i hl
    cases h
    obtain ⟨a,ws,rfl,hj,h1,h2⟩:=E0.wl hx e
    obtain ⟨w,rfl,hw⟩:=hy.d1
    obtain ⟨b,ts,rfl,g1,g2⟩:=E0.seqAt hw e1
    obtain ⟨E1,X1⟩:=E0.wr e hj (h2.append g2)
    exact ⟨a,b,ws,ts,rfl,rfl,h1,g1,by rw [h2.len,g2.len];exact hl,k _ _ _ X1 E1 .non⟩
   ·cases h
 ·cases h
noncomputable def zH (a b:TwS):TwS:=fun ρ S=>match a ρ S with
 |some (.nx ρ1 S1)=>b ρ1 S1
 |r=>r
noncomputable def zO:TwS:=fun ρ S=>some (.nx ρ S)
noncomputable def vB:TwS:=fun _ _=>none
noncomputable def yD (m:TwE) (g:TwG):TwS:=fun ρ S=>sb (m ρ S) fun x S1=>sb (g x ρ S1) fun ρ1 S2=>some (.nx ρ1 S2)
noncomputable def wP (m:TwE):TwS:=fun ρ S=>sb (m ρ S) fun _ S1=>some (.nx ρ S1)
noncomputable def zY (m:TwE):TwS:=fun ρ S=>sb (m ρ S) fun x S1=>some (.rt x S1)
noncomputable def sIf (c:TwT) (a b:TwS):TwS:=fun ρ S=>sb (c ρ S) fun x S1=>if x then a ρ S1 else b ρ S1
noncomputable def TN (r:Option Fl) (go:Rho→Sto→Option Fl):Option Fl:=match r with
 |some (.nx ρ S)=>go ρ S
 |some (.ct ρ S)=>go ρ S
 |some (.bk ρ S)=>some (.nx ρ S)
 |r=>r
noncomputable def Vp (get:Sto→Option (List Xv)) (g:TwG) (b:TwS):Nat→Nat→Rho→Sto→Option Fl
 |0,_,_,_=>none
 |f+1,i,ρ,S=>(get S).bind fun xs=>match xs[i]? with
  |none=>if i=xs.length then some (.nx ρ S) else none
  |some x=>sb (g x ρ S) fun ρ1 S1=>TN (b ρ1 S1) fun ρ2 S2=>Vp get g b f (i+1) ρ2 S2
noncomputable def zcA (m:TwI) (g:TwG) (b:TwS):TwS:=fun ρ S=>sb (m ρ S) fun get S1=>(get S1).bind fun xs=>Vp get g b (xs.length+1) 0 ρ S1
noncomputable def zaG (c:TwT) (b:TwS):Nat→Rho→Sto→Option Fl
 |0,_,_=>none
 |n+1,ρ,S=>sb (c ρ S) fun x S1=>if x then TN (b ρ S1) fun ρ2 S2=>zaG c b n ρ2 S2 else some (.nx ρ S1)
noncomputable def sWh (n:Nat) (c:TwT) (b:TwS):TwS:=fun ρ S=>zaG c b n ρ S
noncomputable def gN (i:Nat):TwG:=fun x ρ S=>some (.ok (ρ.set i (some x)) S)
noncomputable def Ug:zeU:=fun xs ρ S=>match xs with
 |[]=>some (.ok ρ S)
 |_=>none
noncomputable def wu (g:TwG) (gs:zeU):zeU:=fun xs ρ S=>match xs with
 |x::r=>rb (g x ρ S) fun ρ1 S1=>gs r ρ1 S1
 |_=>none
noncomputable def gT (n:Nat) (gs:zeU):TwG:=fun x ρ S=>x.tupOf.bind fun l=>if l.length=n then gs l ρ S else none
noncomputable def zaH (o mi:TwE):TwG:=fun d ρ S=>rb (o ρ S) fun x S1=>rb (mi ρ S1) fun y S2=>match Ue S2 x,y with
 |some (n,xs),.int i=>(ixN xs.length i).map fun k=> .ok ρ (S2.set n (.lst (xs.set k d)))
 |_,_=>none
theorem zu {i:Nat}:RG K E (zbQ i) (gN i):=fun E0 hx e k=>by
 cases e
 exact k _ _ _ Ext.refl (E0.set hx)
theorem WX:RGs K E zkx Ug:=by
 intro F j σ H ρ S r xs vs R E0 hv e k
 unfold Ug at e
 split at e
 ·cases e
  obtain rfl:=hv.nil_inv
  exact ⟨rfl,k _ _ _ Ext.refl E0⟩
 ·cases e
theorem xP {t:TG} {u:TGs} {g:TwG} {gs:zeU} (h1:RG K E t g) (h2:RGs K E u gs):RGs K E (zg8 t u) (wu g gs):=by
 intro F j σ H ρ S r xs vs R E0 hv e k
 unfold wu at e
 split at e
 ·obtain ⟨w,ws,rfl,hw,hws⟩:=hv.cons_inv
  rcases zD e with ⟨ρ1,S1,e1,e⟩|⟨c,S1,e1,rfl⟩
  ·exact ⟨w,ws,rfl,h1 E0 hw e1 fun σ1 j1 H1 X1 E1=>h2 E1 (hws.mono X1) e (k.step X1)⟩
  ·exact ⟨w,ws,rfl,h1 E0 hw e1 k⟩
 ·cases e
theorem Ta {n:Nat} {t:TGs} {gs:zeU} (h:RGs K E t gs):RG K E (ziB K n t) (gT n gs):=by
 intro F j σ H ρ S r x v R E0 hx e k
 unfold gT at e
 cases ex:x.tupOf with
 |none=>rw [ex] at e;cases e
 |some l=>
  rw [ex] at e
  dsimp only [Option.bind] at e
  split at e
  ·rename_i hn
   obtain ⟨a,vs,rfl,h1,h2⟩:=hx.tupO ex
   exact ⟨a,vs,rfl,h1,by rw [h2.len];exact hn,h E0 h2 e k⟩
  ·cases e
theorem zaI {to ti:TE} {o mi:TwE} (ho:RE K E to o) (hi:RE K E ti mi):RG K E (zl7 to ti zjW) (zaH o mi):=by
 intro F j σ H ρ S r d vd R E0 hd e k
 rcases zD e with ⟨x,S1,e1,e⟩|⟨c,S1,e1,rfl⟩
 ·refine ho E0 e1 fun j1 H1 X1 E1 u hu=> ?_
  rcases zD e with ⟨y,S2,e2,e⟩|⟨c,S2,e2,rfl⟩
  ·refine hi E1 e2 fun j2 H2 X2 E2 w hw=> ?_
   split at e
   ·rename_i n xs i ex
    cases e3:ixN xs.length i with
    |none=>rw [e3] at e;cases e
    |some m=>
     rw [e3] at e
     cases e
     obtain ⟨a,vs,rfl,hj,h1,h2⟩:=E2.wl (hu.mono X2) ex
     obtain ⟨E3,X3⟩:=E2.wr ex hj (h2.set (hd.mono (X1.trans X2)) m)
     exact ⟨a,vs,i,m,rfl,hw.int_inv,h1,by rw [h2.len];exact e3,k _ _ _ (X1.trans (X2.trans X3)) E3⟩
   ·cases e
  ·exact hi E1 e2 (PX.mono k X1)
 ·exact ho E0 e1 k
theorem zC:RS K E zjQ zO:=fun E0 e k=>by
 cases e
 exact k _ _ _ Ext.refl E0
theorem we {t:TS}:RS K E t vB:=fun _ e _=>by cases e
theorem zo {t u:TS} {a b:TwS} (ha:RS K E t a) (hb:RS K E u b):RS K E (zl3 t u) (zH a b):=by
 intro F j D' σ H ρ S fl E0 e k
 unfold zH at e
 split at e
 ·rename_i ρ1 S1 e1
  exact ha (D':={D' with nx:=u D'}) E0 e1 fun σ1 j1 H1 X1 E1=>hb E1 e (k.step X1)
 ·rename_i hn
  refine ha (D':={D' with nx:=u D'}) E0 e ?_
  cases fl with
  |nx ρ1 S1=>exact absurd e (hn ρ1 S1)
  |bk ρ1 S1=>exact k
  |ct ρ1 S1=>exact k
  |rt x S1=>exact k
  |ex c S1=>exact k
theorem zQ {te:TE} {g:TG} {m:TwE} {g':TwG} (h:RE K E te m) (hg:RG K E g g'):RS K E (zkz te g) (yD m g'):=by
 intro F j D' σ H ρ S fl E0 e k
 rcases wm e with ⟨x,S1,e1,e⟩|⟨c,S1,e1,rfl⟩
 ·refine h E0 e1 fun j1 H1 X1 E1 u hu=> ?_
  rcases wm e with ⟨ρ1,S2,e2,e⟩|⟨c,S2,e2,rfl⟩
  ·cases e
   exact hg E1 hu e2 fun σ2 j2 H2 X2 E2=>k _ _ _ (X1.trans X2) E2
  ·exact hg E1 hu e2 (PX.mono k X1)
 ·exact h E0 e1 k
theorem xH {te:TE} {m:TwE} (h:RE K E te m):RS K E (zjR te) (wP m):=by
 intro F j D' σ H ρ S fl E0 e k
 rcases wm e with ⟨x,S1,e1,e⟩|⟨c,S1,e1,rfl⟩
 ·cases e
  exact h E0 e1 fun j1 H1 X1 E1 u hu=>k _ _ _ X1 E1
 ·exact h E0 e1 k
theorem zy {te:TE} {m:TwE} (h:RE K E te m):RS K E (zl4 te) (zY m):=by
 intro F j D' σ H ρ S fl E0 e k
 rcases wm e with ⟨x,S1,e1,e⟩|⟨c,S1,e1,rfl⟩
 ·cases e
  exact h E0 e1 fun j1 H1 X1 E1 u hu=>k _ _ _ _ _ X1 E1 hu
 ·exact h E0 e1 k
theorem yb {c:TT} {t u:TS} {m:TwT} {a b:TwS} (hc:RT K E c m) (ha:RS K E t a) (hb:RS K E u b):RS K E (zl5 c t u) (sIf m a b):=by
 intro F j D' σ H ρ S fl E0 e k
 rcases wm e with ⟨x,S1,e1,e⟩|⟨c,S1,e1,rfl⟩
 ·refine hc E0 e1 fun j1 H1 X1 E1=> ?_
  cases x with
  |true=>exact ha E1 e (k.step X1)
  |false=>exact hb E1 e (k.step X1)
 ·exact hc E0 e1 k
theorem zb2 {r:Option Fl} {go:Rho→Sto→Option Fl} {fl:Fl} (h:TN r go=some fl):∃f,r=some f∧((∃ρ S,(f= .nx ρ S∨f= .ct ρ S)∧go ρ S=some fl)∨(∃ρ S,f= .bk ρ S∧fl= .nx ρ S)∨(f=fl∧((∃x S,fl= .rt x S)∨∃c S,fl= .ex c S))):=by
 unfold TN at h
 split at h
 ·exact ⟨_,rfl,.inl ⟨_,_,.inl rfl,h⟩⟩
 ·exact ⟨_,rfl,.inl ⟨_,_,.inr rfl,h⟩⟩
 ·cases h;exact ⟨_,rfl,.inr (.inl ⟨_,_,rfl,rfl⟩)⟩
 ·rename_i n1 n2 n3
  refine ⟨fl,h,.inr (.inr ⟨rfl,?_⟩)⟩
  cases fl with
  |nx ρ S=>exact absurd h (n1 ρ S)
  |ct ρ S=>exact absurd h (n2 ρ S)
  |bk ρ S=>exact absurd h (n3 ρ S)
  |rt x S=>exact .inl ⟨x,S,rfl⟩
  |ex c S=>exact .inr ⟨c,S,rfl⟩
theorem VD {wi:TI} {g:TG} {tb:TS} {m:TwI} {g':TwG} {b:TwS} (hi:RI K E wi m) (hg:RG K E g g') (hb:RS K E tb b):RS K E (zl8 wi g tb) (zcA m g' b):=by
 intro F j D' σ H ρ S fl E0 e k
 rcases wm e with ⟨get,S1,e1,e⟩|⟨c,S1,e1,rfl⟩
 ·refine hi E0 e1 fun j1 H1 X1 E1 J ok=> ?_
  cases eg:get S1 with
  |none=>rw [eg] at e;cases e
  |some xs=>
   rw [eg] at e
   refine ⟨fun i n σ H=>∃j2 ρ2 S2,Ext j1 H1 j2 H∧En K F j2 H σ ρ2 S2∧Vp get g' b n i ρ2 S2=some fl,⟨xs.length+1,j1,ρ,S1,Ext.refl,E1,e⟩,?_⟩
   rintro i n σ2 H2 ⟨j2,ρ2,S2,X2,E2,e2⟩
   cases n with
   |zero=>cases e2
   |succ n=>
    unfold Vp at e2
    cases eg2:get S2 with
    |none=>rw [eg2] at e2;cases e2
    |some ys=>
     rw [eg2] at e2
     dsimp only [Option.bind] at e2
     obtain ⟨go,stop⟩:=ok i X2 E2 eg2
     split at e2
     ·split at e2
      ·rename_i hl
       cases e2
       exact .inl ⟨stop hl,k _ _ _ (X1.trans X2) E2⟩
      ·cases e2
     ·rename_i x ex
      obtain ⟨g1,g2⟩:=go x ex
      refine .inr ⟨g1,fun σ' H'=>∃j3 ρ3 S3,Ext j1 H1 j3 H'∧En K F j3 H' σ' ρ3 S3∧Vp get g' b n (i+1) ρ3 S3=some fl,fun _ _ z=>⟨n,Nat.lt_succ_self _,z⟩,fun v H3 hy=> ?_⟩
      obtain ⟨Sm,hv⟩:=g2 v H3 hy
      have E3:=E2.heap Sm
      have X3:Ext j2 H2 j2 H3:=Ext.same Sm
      rcases wm e2 with ⟨ρ4,S4,e4,e2⟩|⟨c,S4,e4,rfl⟩
      ·refine hg E3 hv e4 fun σ4 j4 H4 X4 E4=> ?_
       obtain ⟨f5,e5,h5⟩:=zb2 e2
       refine hb E4 e5 ?_
       have X14:=X2.trans (X3.trans X4)
       rcases h5 with ⟨ρ6,S6,h6,e6⟩|⟨ρ6,S6,rfl,rfl⟩|⟨rfl,h6⟩
       ·rcases h6 with rfl|rfl
        ·exact fun σ5 j5 H5 X5 E5=>⟨j5,ρ6,S6,X14.trans X5,E5,e6⟩
        ·exact fun σ5 j5 H5 X5 E5=>⟨j5,ρ6,S6,X14.trans X5,E5,e6⟩
       ·exact fun σ5 j5 H5 X5 E5=>k _ _ _ (X1.trans (X14.trans X5)) E5
       ·rcases h6 with ⟨x6,S6,rfl⟩|⟨c6,S6,rfl⟩
        ·exact fun v σ5 ρ5 j5 H5 X5 E5 hv=>k v σ5 ρ5 _ _ (X1.trans (X14.trans X5)) E5 hv
        ·exact PX.mono k (X1.trans X14)
      ·exact hg E3 hv e4 (PX.mono k (X1.trans (X2.trans X3)))
 ·exact hi E0 e1 k
theorem zaJ {c:TT} {tb:TS} {m:TwT} {b:TwS} {n:Nat} (hc:RT K E c m) (hb:RS K E tb b):RS K E (zg9 c tb) (sWh n m b):=by
 intro F j D' σ H ρ S fl E0 e k
 refine ⟨fun n σ2 H2=>∃j2 ρ2 S2,Ext j H j2 H2∧En K F j2 H2 σ2 ρ2 S2∧zaG m b n ρ2 S2=some fl,⟨n,j,ρ,S,Ext.refl,E0,e⟩,?_⟩
 rintro n σ2 H2 ⟨j2,ρ2,S2,X2,E2,e2⟩
 cases n with
 |zero=>cases e2
 |succ n=>
  unfold zaG at e2
  rcases wm e2 with ⟨x,S3,e3,e2⟩|⟨c,S3,e3,rfl⟩
  ·refine hc E2 e3 fun j3 H3 X3 E3=> ?_
   have X13:=X2.trans X3
   cases x with
   |false=>cases e2;exact k _ _ _ X13 E3
   |true=>
    obtain ⟨f5,e5,h5⟩:=zb2 e2
    refine ⟨fun σ' H'=>∃j3 ρ3 S3,Ext j H j3 H'∧En K F j3 H' σ' ρ3 S3∧zaG m b n ρ3 S3=some fl,fun σ' H' z=>⟨n,Nat.lt_succ_self _,z⟩,hb E3 e5 ?_⟩
    rcases h5 with ⟨ρ6,S6,h6,e6⟩|⟨ρ6,S6,rfl,rfl⟩|⟨rfl,h6⟩
    ·rcases h6 with rfl|rfl
     ·exact fun σ5 j5 H5 X5 E5=>⟨j5,ρ6,S6,X13.trans X5,E5,e6⟩
     ·exact fun σ5 j5 H5 X5 E5=>⟨j5,ρ6,S6,X13.trans X5,E5,e6⟩
    ·exact fun σ5 j5 H5 X5 E5=>k _ _ _ (X13.trans X5) E5
    ·rcases h6 with ⟨x6,S6,rfl⟩|⟨c6,S6,rfl⟩
     ·exact fun v σ5 ρ5 j5 H5 X5 E5 hv=>k v σ5 ρ5 _ _ (X13.trans X5) E5 hv
     ·exact PX.mono k X13
  ·exact hc E2 e3 (PX.mono k X2)
noncomputable def iL (m:TwE):TwI:=fun ρ S=>rb (m ρ S) fun x S1=>(yx S1 x).map fun _=> .ok (fun S=>yx S x) S1
noncomputable def iT (m:TwE):TwI:=fun ρ S=>rb (m ρ S) fun x S1=>x.tupOf.map fun l=> .ok (fun _=>some l) S1
theorem zaf {t:TE} {m:TwE} (h:RE K E t m):RI K E (zha K t) (iL m):=by
 intro F j σ H ρ S r R En0 e k
 rcases zD e with ⟨x,S1,e1,e⟩|⟨c,S1,e1,rfl⟩
 ·cases el:yx S1 x with
  |none=>rw [el] at e;cases e
  |some l=>
   rw [el] at e
   cases e
   refine h En0 e1 fun j1 H1 X1 E1 u hu=> ?_
   obtain ⟨a,vs,rfl,h1,_⟩:=E1.lstAt hu el
   refine ⟨a,rfl,⟨vs,h1.sql⟩,k _ _ X1 E1 _ ?_⟩
   intro F2 j2 H2 σ2 ρ2 S2 xs i X2 E2 e2
   obtain ⟨a',ws,ea,g1,g2⟩:=E2.lstAt (hu.mono X2) e2
   cases ea
   refine ⟨fun y ey=> ?_,fun hle=>⟨ws,g1.sql,by rw [g2.len];omega⟩⟩
   obtain ⟨w,f1,f2⟩:=g2.get ey
   refine ⟨⟨ws,w,g1.sql,f1⟩,?_⟩
   rintro v' H' ⟨rfl,hx⟩
   have:=hx ws g1.sql
   rw [f1] at this
   cases this
   exact ⟨VZ.refl _,f2⟩
 ·exact h En0 e1 k
theorem wv {t:TE} {m:TwE} (h:RE K E t m):RI K E (zkA K t) (iT m):=by
 intro F j σ H ρ S r R En0 e k
 rcases zD e with ⟨x,S1,e1,e⟩|⟨c,S1,e1,rfl⟩
 ·cases el:x.tupOf with
  |none=>rw [el] at e;cases e
  |some l=>
   rw [el] at e
   cases e
   refine h En0 e1 fun j1 H1 X1 E1 u hu=> ?_
   obtain ⟨a,vs,rfl,h1,_⟩:=hu.tupO el
   refine ⟨a,rfl,⟨vs,h1⟩,k _ _ X1 E1 _ ?_⟩
   intro F2 j2 H2 σ2 ρ2 S2 xs i X2 E2 e2
   cases e2
   obtain ⟨a',ws,ea,g1,g2⟩:=(hu.mono X2).tupO el
   cases ea
   refine ⟨fun y ey=> ?_,fun hle=>⟨ws,g1,by rw [g2.len];omega⟩⟩
   obtain ⟨w,f1,f2⟩:=g2.get ey
   refine ⟨⟨ws,w,g1,f1⟩,?_⟩
   rintro v' H' ⟨rfl,hx⟩
   have:=hx ws g1
   rw [f1] at this
   cases this
   exact ⟨VZ.refl _,f2⟩
 ·exact h En0 e1 k
noncomputable def ZK (lo:Int) (n:Nat):List Xv:=(List.range n).map fun (k:Nat)=>Xv.int (lo+(k:Int))
noncomputable def iR1 (m:TwE):TwI:=fun ρ S=>rb (m ρ S) fun x S1=>match x with
 | .int j=>if -(2^62)≤j∧j<2^62 then some (.ok (fun _=>some (ZK 0 j.toNat)) S1) else none
 |_=>none
theorem zhD {lo:Int} {n:Nat}:ziY K j H (Itr lo n) (fun _=>some (ZK lo n)):=by
 intro F2 j2 H2 σ2 ρ2 S2 xs i X2 E2 e2
 cases e2
 refine ⟨fun d hd=> ?_,fun hle=> ?_⟩
 ·unfold ZK at hd
  rw [List.getElem?_map] at hd
  have hi:i<n:=by
   apply Classical.byContradiction
   intro hn
   rw [List.getElem?_eq_none (by simp;omega)] at hd
   cases hd
  rw [List.getElem?_range hi] at hd
  cases hd
  refine ⟨hi,?_⟩
  rintro x H' ⟨rfl,rfl⟩
  exact ⟨VZ.refl _,.int _⟩
 ·unfold ZK at hle
  simp at hle
  show n≤i
  omega
theorem Tc {t:TE} {m:TwE} (h:RE K E t m):RI K E (zjS (VU t zeH)) (iR1 m):=by
 intro F j σ H ρ S r R En0 e k
 rcases zD e with ⟨x,S1,e1,e⟩|⟨c,S1,e1,rfl⟩
 ·split at e
  ·split at e
   ·rename_i hb
    cases e
    exact h En0 e1 fun j1 H1 X1 E1 u hu=>⟨_,by rw [hu.int_inv],hb.1,hb.2,k _ _ X1 E1 _ zhD⟩
   ·cases e
  ·cases e
 ·exact h En0 e1 k
end
end L2
namespace L2
open PySem
noncomputable def rn {α β:Type} (m:Option (Rs α)) (f:α→Sto→Option β):Option β:=match m with
 |some (.ok a S)=>f a S
 |_=>none
theorem zcB {α β:Type} {m:Option (Rs α)} {f:α→Sto→Option β} {r:β} (h:rn m f=some r):∃a S,m=some (.ok a S)∧f a S=some r:=by
 unfold rn at h
 split at h
 ·exact ⟨_,_,rfl,h⟩
 ·cases h
noncomputable def zcC (cap:List (Option Nat)) (ρ:Rho):Rho:=cap.map fun o=>o.bind fun i=>(ρ[i]?).join
noncomputable def YD (get:Sto→Option (List Xv)) (g:TwG) (c:TwT) (e:TwE) (ρc:Rho):Nat→Nat→List Xv→Sto→Option (Rs Xv)
 |0,_,_,_=>none
 |f+1,i,es,S=>(get S).bind fun xs=>match xs[i]? with
  |none=>if i=xs.length then some (.ok (.ref S.length) (S++[.lst es])) else none
  |some x=>rn (g x ρc S) fun ρ1 S1=>rn (c ρ1 S1) fun b S2=>if b then rn (e ρ1 S2) fun y S3=>if es.length<sizeLine then YD get g c e ρc f (i+1) (es++[y]) S3 else none
    else YD get g c e ρc f (i+1) es S2
noncomputable def xl (cap:List (Option Nat)) (m:TwI) (g:TwG) (c:TwT) (e:TwE):TwE:=fun ρ S=>rb (m ρ S) fun get S1=>(get S1).bind fun xs=>YD get g c e (zcC cap ρ) (xs.length+1) 0 [] S1
noncomputable def xq:TwT:=fun _ S=>some (.ok true S)
section
variable {K:PySem.W.Frag} {E:XK} {F:Fm} {j j':List Addr} {H H':Hp} {σ σ':St} {ρ ρ':Rho} {S S':Sto} {x:Xv} {v:V} {a:Addr} {o:HO}
theorem xc:RT K E (fun _ H Q=>Q true H) xq:=fun E1 e k=>by
 cases e
 exact k _ _ Ext.refl E1
noncomputable def Vq (j:List Addr) (S:Sto) (a:Addr):Prop:=∀(n:Nat) c,j[n]? =some a→S[n]? =some c→c.fz=true
theorem En.notIn (E1:En K F j H σ ρ S) (h:H a=none):Vq j S a:=fun n c e1 e2=>by
 cases z:c.fz with
 |true=>rfl
 |false=>
  obtain ⟨o,e,_⟩:=(E1.cel n c a e2 e1).mu z
  rw [h] at e;cases e
theorem En.outside (E1:En K F j H σ ρ S) (h:Vq j S a) {o0:HO} (h0:H a=some o0) (m0:o0.mu=true) (hf:F.H0 a=none):En K F j (upd H a o) σ ρ S∧Ext j H j (upd H a o):=by
 have X:Ext j H j (upd H a o):=⟨fun _ _ e=>e,fun b u e m=>by
  have:b≠a:=fun q=>by subst q;rw [h0] at e;cases e;rw [m] at m0;cases m0
  rw [yG this];exact e⟩
 refine ⟨⟨E1.len,fun i x e=> ?_,E1.jl,E1.inj,fun n c b e1 e2=> ?_,E1.ext.trans X,E1.old,E1.l0,fun b u e=> ?_,E1.fresh,fun b e=> ?_⟩,X⟩
 ·obtain ⟨v,e1,e2⟩:=E1.slot i x e
  exact ⟨v,e1,e2.mono X⟩
 ·refine (E1.cel n c b e1 e2).mono X fun z=>yG fun q=> ?_
  subst q
  rw [h n c e2 e1] at z;cases z
 ·have hb:b≠a:=fun q=>by subst q;rw [hf] at e;cases e
  rcases E1.keep b u e with h|h
  ·exact .inl (by rw [yG hb];exact h)
  ·exact .inr h
 ·have hb:b≠a:=fun q=>by subst q;rw [yS] at e;cases e
  rw [yG hb] at e
  exact E1.dom b e
theorem En.adopt {c:Ce} (E1:En K F j H σ ρ S) (h:Vq j S a) (hf:F.H0 a=none) (hc:zbq K (j++[a]) H a c):En K F (j++[a]) H σ ρ (S++[c])∧Ext j H (j++[a]) H:=by
 have X:Ext j H (j++[a]) H:=⟨fun n b e=>by rw [List.getElem?_append_left (List.getElem?_eq_some_iff.1 e).1];exact e,Zr.refl _⟩
 have lt:∀{n:Nat} {d:Ce},S[n]? =some d→n<S.length:=fun e=>(List.getElem?_eq_some_iff.1 e).1
 have at_:∀{n:Nat} {b:Addr} {d:Ce},(j++[a])[n]? =some b→(S++[c])[n]? =some d→(j[n]? =some b∧S[n]? =some d)∨(n=S.length∧b=a∧d=c):=fun {n b d} e1 e2=>by
  by_cases hn:n<S.length
  ·rw [List.getElem?_append_left hn] at e2
   rw [List.getElem?_append_left (by rw [E1.jl];exact hn)] at e1
   exact .inl ⟨e1,e2⟩
  ·rw [List.getElem?_append_right (by omega)] at e2
   rw [List.getElem?_append_right (by rw [E1.jl];omega),E1.jl] at e1
   cases hm:n-S.length with
   |zero=>rw [hm] at e1 e2;simp at e1 e2;exact .inr ⟨by omega,e1.symm,e2.symm⟩
   |succ m=>rw [hm] at e1;simp at e1
 refine ⟨⟨E1.len,fun i x e=> ?_,by simp [E1.jl],fun n m b c1 c2 e1 e2 e3 e4 z1 z2=> ?_,fun n d b e1 e2=> ?_,E1.ext.trans X,fun n d e=> ?_,E1.l0,E1.keep,fun n b hn e=> ?_,E1.dom⟩,X⟩
 ·obtain ⟨v,e1,e2⟩:=E1.slot i x e
  exact ⟨v,e1,e2.mono X⟩
 ·rcases at_ e1 e3 with ⟨f1,f2⟩|⟨f1,f2,f3⟩
  ·rcases at_ e2 e4 with ⟨g1,g2⟩|⟨g1,g2,g3⟩
   ·exact E1.inj n m b c1 c2 f1 g1 f2 g2 z1 z2
   ·subst g2
    rw [h n c1 f1 f2] at z1;cases z1
  ·rcases at_ e2 e4 with ⟨g1,g2⟩|⟨g1,g2,g3⟩
   ·subst f2
    rw [h m c2 g1 g2] at z2;cases z2
   ·rw [f1,g1]
 ·rcases at_ e2 e1 with ⟨f1,f2⟩|⟨f1,rfl,rfl⟩
  ·exact (E1.cel n d b f2 f1).mono X fun _=>rfl
  ·exact hc
 ·obtain ⟨d',e1,e2⟩:=E1.old n d e
  exact ⟨d',by rw [List.getElem?_append_left (lt e1)];exact e1,e2⟩
 ·by_cases hm:n<j.length
  ·rw [List.getElem?_append_left hm] at e
   exact E1.fresh n b hn e
  ·rw [List.getElem?_append_right (by omega)] at e
   cases hk:n-j.length with
   |zero=>rw [hk] at e;simp at e;subst e;exact hf
   |succ m=>rw [hk] at e;simp at e
theorem zgE {cap:List (Option Nat)} (E1:En K F j H σ ρ S):(vX cap σ).length=(zcC cap ρ).length∧∀(i:Nat) x,(zcC cap ρ)[i]? =some (some x)→∃v,(vX cap σ)[i]? =some (some v)∧Xis K j H x v:=by
 refine ⟨by simp [vX,zcC],fun i x h=> ?_⟩
 unfold zcC at h
 unfold vX
 rw [List.getElem?_map] at h ⊢
 cases e:cap[i]? with
 |none=>rw [e] at h;cases h
 |some o=>
  rw [e] at h
  cases o with
  |none=>simp at h
  |some k=>
   simp only [Option.map_some,Option.bind_some,Option.some.injEq] at h ⊢
   cases q:ρ[k]? with
   |none=>rw [q] at h;simp at h
   |some z=>
    rw [q] at h
    simp at h
    subst h
    obtain ⟨v,e1,e2⟩:=E1.slot k x q
    exact ⟨v,by rw [e1];rfl,e2⟩
theorem xf {cap:List (Option Nat)} {wi:TI} {g:TG} {tt:TT} {te:TE} {m:TwI} {g':TwG} {c:TwT} {e:TwE} (hi:RI K E wi m) (hg:RG K E0 g g') (hc:RT K E0 tt c) (he:RE K E0 te e):RE K E (zhs cap wi g tt te) (xl cap m g' c e):=by
 intro F j σ H ρ S r Q En0 h k
 rcases zD h with ⟨get,S1,e1,h⟩|⟨c1,S1,e1,rfl⟩
 ·refine hi En0 e1 fun j1 H1 X1 E1 J ok acc hacc=> ?_
  cases eg:get S1 with
  |none=>rw [eg] at h;cases h
  |some xs=>
   rw [eg] at h
   have hf:F.H0 acc=none:=E1.dom acc hacc
   obtain ⟨Ea,Xa⟩:=E1.new (o:= .lst []) hacc
   refine ⟨fun i n ys H2=>∃j2 S2 es,Ext j1 H1 j2 H2∧En K F j2 H2 σ ρ S2∧H2 acc=some (.lst ys)∧yC K j2 H2 es ys∧Vq j2 S2 acc∧YD get g' c e (zcC cap ρ) n i es S2=some r,
    ⟨xs.length+1,j1,S1,[],Xa,Ea,yS,.nil,E1.notIn hacc,h⟩,?_⟩
   rintro i n ys H2 ⟨j2,S2,es,X2,E2,h2,hes,nin,e2⟩
   cases n with
   |zero=>cases e2
   |succ n=>
    unfold YD at e2
    cases eg2:get S2 with
    |none=>rw [eg2] at e2;cases e2
    |some zs=>
     rw [eg2] at e2
     dsimp only [Option.bind] at e2
     obtain ⟨go,stop⟩:=ok i X2 E2 eg2
     split at e2
     ·split at e2
      ·rename_i hl
       cases e2
       obtain ⟨E3,X3⟩:=E2.adopt (c:= .lst es) nin hf ⟨ys,h2,hes.mono ⟨fun n b e=>by rw [List.getElem?_append_left (List.getElem?_eq_some_iff.1 e).1];exact e,Zr.refl _⟩⟩
       exact .inl ⟨stop hl,k _ _ (X1.trans (X2.trans X3)) E3 _ (.ref (by rw [←E2.jl];simp))⟩
      ·cases e2
     ·rename_i x ex
      obtain ⟨g1,g2⟩:=go x ex
      refine .inr ⟨g1,fun v H3 hy=> ?_⟩
      obtain ⟨Sm,hv⟩:=g2 v H3 hy
      have E3:=E2.heap Sm
      have X3:Ext j2 H2 j2 H3:=Ext.same Sm
      have h3:H3 acc=some (.lst ys):=Sm _ _ h2
      obtain ⟨cl,cs⟩:=zgE (cap:=cap) E3
      have I0:=E3.enter cl cs
      obtain ⟨ρ4,S4,e4,e2⟩:=zcB e2
      obtain ⟨b,S5,e5,e2⟩:=zcB e2
      have behind:∀{j6:List Addr} {H6:Hp} {σ6:St} {ρ6:Rho} {S6:Sto},En K ⟨H3,j2,S2⟩ j6 H6 σ6 ρ6 S6→En K F j6 H6 σ ρ S6∧Ext j2 H2 j6 H6∧H6 acc=some (.lst ys)∧Vq j6 S6 acc:=fun {j6 H6 σ6 ρ6 S6} X=>by
       obtain ⟨E6,X6⟩:=E3.leave X
       refine ⟨E6,X3.trans X6,?_,fun n d q1 q2=> ?_⟩
       ·rcases X.keep acc _ h3 with q|⟨n,d,q1,q2,q3⟩
        ·exact q
        ·rw [nin n d q1 q2] at q3;cases q3
       ·by_cases hn:n<j2.length
        ·have p1:j2[n]? =some j2[n]:=List.getElem?_eq_getElem hn
         have p2:=X6.pre n _ p1
         rw [q1] at p2
         cases p2
         have hn2:n<S2.length:=by rw [←E2.jl];exact hn
         obtain ⟨d',f1,_,f3⟩:=X.old n _ (List.getElem?_eq_getElem hn2)
         rw [q2] at f1
         cases f1
         have hz:=nin n _ p1 (List.getElem?_eq_getElem hn2)
         rw [f3 hz]
         exact hz
        ·have q:=X.fresh n acc (by dsimp only;omega) q1
         have q:H3 acc=none:=q
         rw [h3] at q;cases q
      refine hg I0 hv e4 fun σ4 j4 H4 X4 I4=>hc I4 e5 fun j5 H5 X5 I5=> ?_
      cases b with
      |true=>
       rw [if_pos rfl]
       rw [if_pos rfl] at e2
       obtain ⟨y,S6,e6,e2⟩:=zcB e2
       split at e2
       ·rename_i hsz
        refine he I5 e6 fun j6 H6 X6 I6 w hw=> ?_
        obtain ⟨E6,X26,h6,nin6⟩:=behind I6
        obtain ⟨E7,X7⟩:=E6.outside (o:= .lst (ys++[w])) nin6 h6 rfl hf
        refine ⟨h6,by rw [hes.len];exact hsz,n,Nat.lt_succ_self _,j6,S6,es++[y],X2.trans (X26.trans X7),E7,yS,((hes.mono X26).append (.one hw)).mono X7,nin6,e2⟩
       ·cases e2
      |false=>
       rw [if_neg (by simp)]
       rw [if_neg (by simp)] at e2
       obtain ⟨E6,X26,h6,nin6⟩:=behind I5
       exact ⟨n,Nat.lt_succ_self _,j5,S5,es,X2.trans X26,E6,h6,hes.mono X26,nin6,e2⟩
 ·exact hi En0 e1 k
theorem Xz {i:Nat} {cap:List (Option Nat)} {wi:TI} {g:TG} {tt:TT} {te:TE} {m:TwE} (h:RE K E (zhs cap wi g tt te) m):RS K E (zdz i cap wi g tt te) (yD m (gN i)):=by
 intro F j D' σ H ρ S fl E1 e k
 rcases wm e with ⟨x,S1,e1,e⟩|⟨c,S1,e1,rfl⟩
 ·cases e
  exact h (Q:=fun v H2=>D'.nx (σ.set i (some v)) H2) E1 e1 fun j1 H1 X1 E1 u hu=>k _ _ _ X1 (E1.set hu)
 ·exact h (Q:=fun v H2=>D'.nx (σ.set i (some v)) H2) E1 e1 k
noncomputable abbrev TwF:=List Xv→Sto→Option (Rs Xv)
noncomputable def ye (n k:Nat) (b:TwS):TwF:=fun xs S=>if xs.length=n then match b (xs.map some++List.replicate k none) S with
  |some (.rt x S')=>some (.ok x S')
  |some (.nx _ S')=>some (.ok .non S')
  |some (.ex c S')=>some (.ex c S')
  |_=>none
 else none
noncomputable def zmC (K:PySem.W.Frag) (F:Fm) (Q:VK) (E:XK):Rs Xv→Prop
 | .ok x S'=>∀v j' H' σ ρ,En K F j' H' σ ρ S'→Xis K j' H' x v→Q v H'
 | .ex c S'=>∀j' H' σ ρ C,En K F j' H' σ ρ S'→PySem.W.nsIn K mainGlobals c=some (some (.ref C))→E (.ref C) none H'
noncomputable def sTw (K:PySem.W.Frag) (n:Nat) (tw:TwF):Sp:=fun vs H Q E=>vs.length=n∧∃(j:List Addr) (S:Sto) (xs:List Xv) (r:Rs Xv),En K ⟨H,j,S⟩ j H (vs.map some) (xs.map some) S∧tw xs S=some r∧zmC K ⟨H,j,S⟩ Q E r
theorem yy {n k:Nat} {N:List Str} {t:TS} {b:TwS} {vs:List V} {Q:VK} (hN:N.length=n+k) (h:RS K E t b) (hs:sTw K n (ye n k b) vs H Q E):t {nx:=fun _ H'=>Q .non H',rt:=Q} (Wm N vs) H:=by
 obtain ⟨hn,j,S,xs,r,E1,e,ret⟩:=hs
 have es:Wm N vs=vs.map some++List.replicate k none:=by
  unfold Wm
  rw [hN,hn,Nat.add_sub_cancel_left]
 rw [es]
 unfold ye at e
 split at e
 ·split at e
  ·rename_i x S' e1
   cases e
   exact h E1.grow e1 fun v σ ρ j' H' X E' hv=>ret _ _ _ _ _ E' hv
  ·rename_i ρ' S' e1
   cases e
   exact h E1.grow e1 fun σ j' H' X E'=>ret _ _ _ _ _ E' .non
  ·rename_i c S' e1
   cases e
   exact h E1.grow e1 fun j' H' σ' ρ' C X E' hC=>ret _ _ _ _ _ E' hC
  ·cases e
 ·cases e
theorem wE {P:Program} {w:World} {mg:Str→Option Value} {base:Heap} {CX:CXT} {k n:Nat} {f:Addr} {fd:FuncData} {ps:List Str} (hl:ps.length=n:=by rfl):yB P w K mg base CX k f fd ps (sTw K n fun _ _=>none):=
 ⟨fun vs H Q E h=>h.1.trans hl.symm,fun A outer s H args us vs Q E hr he hb hv hs=>by
  obtain ⟨_,_,_,_,_,_,z,_⟩:=hs
  cases z⟩
noncomputable def zv (tw:TwF) (ms:List TwE):TwE:=fun ρ S=>rb (evL ms ρ S) fun xs S1=>tw xs S1
theorem zeV {xs:List Xv} {vs:List V} (hv:yC K j H xs vs):(vs.map some).length=(xs.map some).length∧∀(i:Nat) x,(xs.map some)[i]? =some (some x)→∃v,(vs.map some)[i]? =some (some v)∧Xis K j H x v:=by
 refine ⟨by simp [hv.len],fun i x h=> ?_⟩
 rw [List.getElem?_map] at h ⊢
 cases e:xs[i]? with
 |none=>rw [e] at h;cases h
 |some y=>
  rw [e] at h
  simp at h
  subst h
  obtain ⟨v,e1,e2⟩:=hv.get e
  exact ⟨v,by rw [e1];rfl,e2⟩
theorem Td {n:Nat} {tw:TwF} {xs:List Xv} {vs:List V} {r:Rs Xv} {Q:VK} {E':XK} (E1:En K F j H σ ρ S) (hv:yC K j H xs vs) (hn:vs.length=n) (et:tw xs S=some r) (k:Po K F j H σ ρ E' (PoV K Q) r):sTw K n tw vs H Q E':=by
 obtain ⟨l,s⟩:=zeV hv
 refine ⟨hn,j,S,xs,r,E1.enter l s,et,?_⟩
 cases r with
 |ok x S'=>
  intro v j' H' σ' ρ' X hx
  obtain ⟨E2,X2⟩:=E1.leave X
  exact k j' H' X2 E2 v hx
 |ex c S'=>
  intro j' H' σ' ρ' C X hC
  obtain ⟨E2,X2⟩:=E1.leave X
  exact k j' H' σ ρ C X2 E2 hC
theorem zr {n:Nat} {tw:TwF} {ms:List TwE} {t:TA} (h:RL K E t (evL ms)) (hn:ms.length=n:=by rfl):RE K E (zjT (sTw K n tw) [] E t) (zv tw ms):=by
 intro F j σ H ρ S r Q En0 e k
 rcases zD e with ⟨xs,S1,e1,e⟩|⟨c,S1,e1,rfl⟩
 ·refine h En0 e1 fun j1 H1 X1 E1 vs hv=> ?_
  rw [List.append_nil]
  exact Td E1 hv (by rw [hv.len,WW e1,hn]) e (k.step X1)
 ·exact h En0 e1 k
end
noncomputable def zaK (K:PySem.W.Frag):Sp:=fun vs H Q _=>∃(a:Addr) (ns:List Int),vs=[V.ref a]∧ziR H∧SqX K H a (ns.map V.int)∧ns.length≤63∧∀H',Q (.bl true) H'
theorem zkW {P:Program} {w:World} {K:PySem.W.Frag} {mg:Str→Option Value} {base:Heap} {CX:CXT} {k:Nat} {f:Addr} {fd:FuncData} {ps:List Str} {tw:TwF} (Fn:yB P w K mg base CX k f fd ps (sTw K 1 tw))
  (h:∀ns:List Int,ns.length≤63→∃S,tw [.ref 0] [.frz (ns.map Xv.int)]=some (.ok (.bl true) S)):yB P w K mg base CX k f fd ps (zaK K):=by
 refine Fn.imp ?_
 rintro vs H Q E ⟨a,ns,rfl,hO,hS,hl,q⟩
 obtain ⟨S',e⟩:=h ns hl
 refine ⟨rfl,[a],[.frz (ns.map Xv.int)],[.ref 0],_,?_,e,fun v j' H' σ ρ E' hv=> ?_⟩
 ·refine ⟨rfl,fun i x e=> ?_,rfl,fun n m b c d _ _ e3 _ z _=> ?_,fun n c b e1 e2=> ?_,Ext.refl,fun n c e=>⟨c,e,fun z=>z,fun _=>rfl⟩,rfl,fun b u e=> .inl e,fun n b hn e=> ?_,fun b e=>e⟩
  ·cases i with
   |zero=>simp at e;subst e;exact ⟨_,rfl,.ref rfl⟩
   |succ i=>simp at e
  ·cases n with
   |zero=>simp at e3;subst e3;cases z
   |succ n=>simp at e3
  ·cases n with
   |zero=>
    simp at e1 e2
    subst e1 e2
    refine ⟨ns.map V.int,?_,yC.ints ns⟩
    rcases hS with (hS|⟨o,hS⟩)|hS
    ·rcases hO a with z|⟨o,xs,z⟩
     ·rw [z] at hS;cases hS
     ·rw [z] at hS;cases hS
    ·exact .inl ⟨o,hS⟩
    ·exact .inr fun H=> .inr hS
   |succ n=>simp at e1
  ·dsimp only at hn
   have:=(List.getElem?_eq_some_iff.1 e).1
   omega
 ·rw [hv.bl_inv]
  exact q H'
end L2
namespace L2
open PySem PySem.Spec PyProof.Rows
open PySem.Builtin.Int (intBits)
noncomputable def xI (g:Int→Int→Xv):Op2:=fun x y S=>match x,y with
 | .int a,.int b=>some (g a b,S)
 |_,_=>none
noncomputable def xIC (c:Int→Int→Bool) (g:Int→Int→Xv):Op2:=fun x y S=>match x,y with
 | .int a,.int b=>if c a b then some (g a b,S) else none
 |_,_=>none
noncomputable def xX:Op2:=xI fun i j=> .int (i+j)
noncomputable def zhE:Op2:=xI fun i j=> .int (i-j)
noncomputable def zi0:Op2:=xIC (fun i j=>decide ((-(2^64)<i∧i<2^64)∨(-(2^64)<j∧j<2^64))) fun i j=> .int (i*j)
noncomputable def Vr:Op2:=xIC (fun i j=>decide (intBits i+intBits j≤134217728)) fun i j=> .int (i*j)
noncomputable def TQ:Op2:=xIC (fun _ j=>decide (0<j)) fun i j=> .int (i % j)
noncomputable def zeW:Op2:=xIC (fun i j=>decide (0≤j∧j≤1000000∧i.natAbs<2^64)) fun i j=> .int (i^j.toNat)
noncomputable def dLt:Op2:=xI fun i j=> .bl (decide (i<j))
noncomputable def dLe:Op2:=xI fun i j=> .bl (decide (i≤j))
noncomputable def dGt:Op2:=xI fun i j=> .bl (decide (j<i))
noncomputable def ZL:Op2:=xI fun i j=> .bl (decide (i=j))
noncomputable def zcD:Op2:=xI fun i j=> .bl (!decide (i=j))
noncomputable def zi1:Xv→Sto→Option (Xv×Sto):=fun x S=>match x with
 | .int i=>some (.int (-i),S)
 |_=>none
section
variable {K:PySem.W.Frag} {E:XK} {F:Fm} {j j':List Addr} {H H':Hp} {σ σ':St} {ρ ρ':Rho} {S S':Sto} {x:Xv} {v:V} {ta tb:TE} {a b:TwE}
theorem zhF {g:Int→Int→V} {g':Int→Int→Xv} (hg:∀i k j H,Xis K j H (g' i k) (g i k)):YA K (rI0 g) (xI g'):=by
 intro F j σ H ρ S S' x y z u v Q E1 hx hy h k
 unfold xI at h
 split at h
 ·cases h
  exact ⟨_,_,hx.int_inv,hy.int_inv,k _ _ _ Ext.refl E1 (hg _ _ _ _)⟩
 ·cases h
theorem zi2 {C:Int→Int→Prop} {c:Int→Int→Bool} {g:Int→Int→V} {g':Int→Int→Xv} (hc:∀i j,c i j=true→C i j) (hg:∀i k j H,Xis K j H (g' i k) (g i k)):YA K (rI C g) (xIC c g'):=by
 intro F j σ H ρ S S' x y z u v Q E1 hx hy h k
 unfold xIC at h
 split at h
 ·split at h
  ·cases h
   exact ⟨_,_,hx.int_inv,hy.int_inv,hc _ _ (by assumption),k _ _ _ Ext.refl E1 (hg _ _ _ _)⟩
  ·cases h
 ·cases h
theorem zaL {p:Int→Int→Bool} (ha:RE K E ta a) (hb:RE K E tb b):RE K E (zdj p ta tb) (eOp (xI fun i j=> .bl (p i j)) a b):=
 zp (r:=rI0 fun i j=> .bl (p i j)) (zhF fun i k _ _=> .bl _) ha hb
theorem yQ:YA K (rI0 fun i j=> .int (i+j)) xX:=zhF fun _ _ _ _=> .int _
theorem zeX:YA K (rI0 fun i j=> .int (i-j)) zhE:=zhF fun _ _ _ _=> .int _
theorem zkX:YA K (rI zhc fun i j=> .int (i*j)) zi0:=zi2 (fun i j h=>by simpa [zhc] using h) fun _ _ _ _=> .int _
theorem WY:YA K (rI zjZ fun i j=> .int (i*j)) Vr:=zi2 (fun i j h=>⟨intBits i,intBits j,Nat.le_refl _,Nat.le_refl _,by simpa using h⟩) fun _ _ _ _=> .int _
theorem Wr:YA K (rI (fun _ j=>0<j) fun i j=> .int (i % j)) TQ:=zi2 (fun i j h=>by simpa using h) fun _ _ _ _=> .int _
theorem zeY:YA K (rI zkD fun i j=> .int (i^j.toNat)) zeW:=zi2 (fun i j h=>by simpa [zkD] using h) fun _ _ _ _=> .int _
theorem zfM (ha:RE K E ta a) (hb:RE K E tb b):RE K E (tLt ta tb) (eOp dLt a b):=zaL ha hb
theorem zhG (ha:RE K E ta a) (hb:RE K E tb b):RE K E (tLe ta tb) (eOp dLe a b):=zaL ha hb
theorem Ws (ha:RE K E ta a) (hb:RE K E tb b):RE K E (tGt ta tb) (eOp dGt a b):=zaL ha hb
theorem xS (ha:RE K E ta a) (hb:RE K E tb b):RE K E (zlW ta tb) (eOp ZL a b):=zaL ha hb
theorem Te (ha:RE K E ta a) (hb:RE K E tb b):RE K E (zlX ta tb) (eOp zcD a b):=zaL ha hb
theorem zkY:zmu K (rU fun i=> .int (-i)) zi1:=by
 intro F j σ H ρ S S' x z u Q E1 hx h k
 unfold zi1 at h
 split at h
 ·cases h
  exact ⟨_,hx.int_inv,k _ _ _ Ext.refl E1 (.int _)⟩
 ·cases h
noncomputable def ww:Op2:=fun x y S=>match x,y with
 | .str a,.str b=>if a.length+b.length≤sizeLine then some (.str (a++b),S) else none
 |_,_=>none
theorem wW:YA K (fun x y H Q=>∃i j,x= .str i∧y= .str j∧i.length+j.length≤sizeLine∧Q (.str (i++j)) H) ww:=by
 intro F j σ H ρ S S' x y z u v Q E1 hx hy h k
 unfold ww at h
 split at h
 ·split at h
  ·cases h
   exact ⟨_,_,hx.str_inv,hy.str_inv,by assumption,k _ _ _ Ext.refl E1 (.str _)⟩
  ·cases h
 ·cases h
noncomputable def zb3:Op2:=fun x y S=>match x,y with
 | .tup a,.tup b=>if a.length+b.length≤sizeLine then some (.tup (a++b),S) else none
 |_,_=>none
theorem zfN:YA K (zj1 K) zb3:=by
 intro F j σ H ρ S S' x y z u v Q E1 hx hy h k
 unfold zb3 at h
 split at h
 ·split at h
  ·rename_i hz
   cases h
   obtain ⟨p,xs,rfl,h1,h2⟩:=hx.tup_inv
   obtain ⟨q,ys,rfl,g1,g2⟩:=hy.tup_inv
   refine ⟨p,q,xs,ys,rfl,rfl,SqT.of h1,SqT.of g1,by rw [h2.len,g2.len];exact hz,fun e=> ?_,fun _ e=> ?_,fun _ _ l hl=> ?_⟩
   ·subst e
    obtain rfl:=List.length_eq_zero_iff.1 h2.len.symm
    exact k _ _ _ Ext.refl E1 hy
   ·subst e
    obtain rfl:=List.length_eq_zero_iff.1 g2.len.symm
    refine k _ _ _ Ext.refl E1 ?_
    rw [List.append_nil]
    exact hx
   ·obtain ⟨E2,X2⟩:=E1.new (o:= .tup (xs++ys)) hl
    exact k _ _ _ X2 E2 (.tup yS ((h2.append g2).mono X2))
  ·cases h
 ·cases h
noncomputable def zb4:Op2:=fun x y S=>match yx S x,yx S y with
 |some a,some b=>if a.length+b.length≤sizeLine then some (.ref S.length,S++[.lst (a++b)]) else none
 |_,_=>none
theorem zfO:YA K (zj3 K) zb4:=by
 intro F j σ H ρ S S' x y z u v Q E1 hx hy h k
 unfold zb4 at h
 split at h
 ·rename_i l1 l2 e1 e2
  split at h
  ·rename_i hz
   cases h
   obtain ⟨p,xs,rfl,h1,h2⟩:=E1.lstAt hx e1
   obtain ⟨q,ys,rfl,g1,g2⟩:=E1.lstAt hy e2
   refine ⟨p,q,xs,ys,rfl,rfl,h1,g1,by rw [h2.len,g2.len];exact hz,fun l hl=> ?_⟩
   obtain ⟨E2,X2,h3⟩:=E1.lst (h2.append g2) hl
   exact k _ _ _ X2 E2 h3
  ·cases h
 ·cases h
noncomputable def zfP (g:Int→Int→Xv):Opn:=fun xs S=>match xs with
 |[.int i,.int j]=>some (g i j,S)
 |_=>none
theorem zfQ {g:Int→Int→V} {g':Int→Int→Xv} (hg:∀i k j H,Xis K j H (g' i k) (g i k)):Uc K (fun xs H Q=>∃i j,xs=[V.int i,V.int j]∧Q (g i j) H) (zfP g'):=by
 intro F j σ H ρ S S' xs z vs Q E1 hv h k
 unfold zfP at h
 split at h
 ·cases h
  obtain ⟨x,y,rfl,hx,hy⟩:=hv.d2
  exact ⟨_,_,by rw [hx.int_inv,hy.int_inv],k _ _ _ Ext.refl E1 (hg _ _ _ _)⟩
 ·cases h
noncomputable def zkZ:Opn:=zfP fun i j=> .int (if j<i then j else i)
noncomputable def zi3:Opn:=zfP fun i j=> .int (if j>i then j else i)
theorem zk0:Uc K (fun xs H Q=>∃i j,xs=[V.int i,V.int j]∧Q (.int (if j<i then j else i)) H) zkZ:=zfQ fun _ _ _ _=> .int _
theorem zk1:Uc K (fun xs H Q=>∃i j,xs=[V.int i,V.int j]∧Q (.int (if j>i then j else i)) H) zi3:=zfQ fun _ _ _ _=> .int _
noncomputable def wx:Opn:=fun xs S=>match xs with
 |[x]=>(Wf S x).map fun l=>(.int l.length,S)
 |_=>none
theorem xg:Uc K (fun xs H Q=>∃p ys,xs=[V.ref p]∧(SqL K H p ys∨SqT K H p ys)∧Q (.int ys.length) H) wx:=by
 intro F j σ H ρ S S' xs z vs Q E1 hv h k
 unfold wx at h
 split at h
 ·rename_i x
  cases e:Wf S x with
  |none=>rw [e] at h;cases h
  |some l=>
   rw [e] at h
   cases h
   obtain ⟨w,rfl,hx⟩:=hv.d1
   obtain ⟨a,ws,rfl,h1,h2⟩:=E1.seqAt hx e
   refine ⟨a,ws,rfl,?_,k _ _ _ Ext.refl E1 (by rw [h2.len];exact .int _)⟩
   rcases h1 with h1|h1
   ·exact .inl h1.sql
   ·exact .inr h1
 ·cases h
noncomputable def zaM:Opn:=fun xs S=>match xs with
 |[.str z]=>if z.length≤sizeLine then some (.int z.length,S) else none
 |_=>none
theorem zcE:Uc K (fun xs H Q=>∃z,xs=[V.str z]∧z.length≤sizeLine∧Q (.int z.length) H) zaM:=by
 intro F j σ H ρ S S' xs z vs Q E1 hv h k
 unfold zaM at h
 split at h
 ·split at h
  ·cases h
   obtain ⟨x,rfl,hx⟩:=hv.d1
   exact ⟨_,by rw [hx.str_inv],by assumption,k _ _ _ Ext.refl E1 (.int _)⟩
  ·cases h
 ·cases h
noncomputable def Zg:Opn:=fun xs S=>match xs with
 |[.tup l]=>some (.tup l,S)
 |[x]=>(yx S x).map fun l=>(.tup l,S)
 |_=>none
theorem vY:Uc K (fun xs H Q=>∃p ys,xs=[V.ref p]∧((SqL K H p ys∧∀l,H l=none→Q (.ref l) (upd H l (.tup ys)))∨(SqT K H p ys∧Q (.ref p) H))) Zg:=by
 intro F j σ H ρ S S' xs z vs Q E1 hv h k
 unfold Zg at h
 split at h
 ·cases h
  obtain ⟨w,rfl,hx⟩:=hv.d1
  obtain ⟨a,ws,rfl,h1,h2⟩:=hx.tup_inv
  exact ⟨a,ws,rfl,.inr ⟨SqT.of h1,k _ _ _ Ext.refl E1 hx⟩⟩
 ·rename_i x _
  cases e:yx S x with
  |none=>rw [e] at h;cases h
  |some l=>
   rw [e] at h
   cases h
   obtain ⟨w,rfl,hx⟩:=hv.d1
   obtain ⟨a,ws,rfl,h1,h2⟩:=E1.lstAt hx e
   refine ⟨a,ws,rfl,.inl ⟨h1.sql,fun p hp=> ?_⟩⟩
   obtain ⟨E2,X2⟩:=E1.new (o:= .tup ws) hp
   exact k _ _ _ X2 E2 (.tup yS (h2.mono X2))
 ·cases h
noncomputable def Xf:List Xv→Option (List Int)
 |[]=>some []
 | .int i::r=>(Xf r).map (i:: ·)
 |_::_=>none
theorem Uh:∀{xs:List Xv} {ns:List Int} {vs:List V},Xf xs=some ns→yC K j H xs vs→vs=ns.map V.int
 |[],ns,vs,e,h=>by cases e;exact h.nil_inv
 |x::r,ns,vs,e,h=>by
  obtain ⟨v,ws,rfl,h1,h2⟩:=h.cons_inv
  cases x<;>simp only [Xf,reduceCtorEq] at e
  cases e2:Xf r with
  |none=>rw [e2] at e;cases e
  |some ms=>
   rw [e2] at e
   cases e
   rw [h1.int_inv,Uh e2 h2]
   rfl
noncomputable def Ui:List Xv→Option (List Bool)
 |[]=>some []
 | .bl i::r=>(Ui r).map (i:: ·)
 |_::_=>none
theorem zdI:∀{xs:List Xv} {ns:List Bool} {vs:List V},Ui xs=some ns→yC K j H xs vs→vs=ns.map V.bl
 |[],ns,vs,e,h=>by cases e;exact h.nil_inv
 |x::r,ns,vs,e,h=>by
  obtain ⟨v,ws,rfl,h1,h2⟩:=h.cons_inv
  cases x<;>simp only [Ui,reduceCtorEq] at e
  cases e2:Ui r with
  |none=>rw [e2] at e;cases e
  |some ms=>
   rw [e2] at e
   cases e
   rw [h1.bl_inv,zdI e2 h2]
   rfl
noncomputable def zeZ:Opn:=fun xs S=>match xs with
 |[x]=>((yx S x).bind Xf).map fun ns=>(.int ns.sum,S)
 |_=>none
theorem ze0:Uc K (zmo K) zeZ:=by
 intro F j σ H ρ S S' xs z vs Q E1 hv h k
 unfold zeZ at h
 split at h
 ·rename_i x
  cases e:yx S x with
  |none=>rw [e] at h;cases h
  |some l=>
   rw [e] at h
   cases e2:Xf l with
   |none=>simp [e2] at h
   |some ns=>
    simp [e2] at h
    obtain ⟨rfl,rfl⟩:=h
    obtain ⟨w,rfl,hx⟩:=hv.d1
    obtain ⟨p,ws,rfl,h1,h2⟩:=E1.lstAt hx e
    refine ⟨p,ns,rfl,?_,k _ _ _ Ext.refl E1 (.int _)⟩
    rw [←Uh e2 h2]
    exact h1.sql
 ·cases h
noncomputable def zdJ:Opn:=fun xs S=>match xs with
 |[x]=>(x.tupOf.bind Xf).map fun ns=>(.int ns.sum,S)
 |_=>none
theorem zi4:Uc K (zj2 K) zdJ:=by
 intro F j σ H ρ S S' xs z vs Q E1 hv h k
 unfold zdJ at h
 split at h
 ·rename_i x
  cases e:x.tupOf with
  |none=>rw [e] at h;cases h
  |some l=>
   rw [e] at h
   cases e2:Xf l with
   |none=>simp [e2] at h
   |some ns=>
    simp [e2] at h
    obtain ⟨rfl,rfl⟩:=h
    obtain ⟨w,rfl,hx⟩:=hv.d1
    obtain ⟨p,ws,rfl,h1,h2⟩:=hx.tupO e
    refine ⟨p,ns,rfl,?_,k _ _ _ Ext.refl E1 (.int _)⟩
    rw [←Uh e2 h2]
    exact h1
 ·cases h
noncomputable def zaN:Opn:=fun xs S=>match xs with
 |[x]=>((yx S x).bind Ui).map fun ns=>(.bl (ns.all id),S)
 |_=>none
theorem zaO:Uc K (zms K) zaN:=by
 intro F j σ H ρ S S' xs z vs Q E1 hv h k
 unfold zaN at h
 split at h
 ·rename_i x
  cases e:yx S x with
  |none=>rw [e] at h;cases h
  |some l=>
   rw [e] at h
   cases e2:Ui l with
   |none=>simp [e2] at h
   |some ns=>
    simp only [Option.bind_some,e2,Option.map_some,Option.some.injEq,Prod.mk.injEq] at h
    obtain ⟨rfl,rfl⟩:=h
    obtain ⟨w,rfl,hx⟩:=hv.d1
    obtain ⟨p,ws,rfl,h1,h2⟩:=E1.lstAt hx e
    refine ⟨p,ns,rfl,?_,k _ _ _ Ext.refl E1 (.bl _)⟩
    rw [←zdI e2 h2]
    exact h1.sql
 ·cases h
noncomputable def yV (neg:Bool):Op2:=fun x y S=>match x,y with
 | .int a,.int b=>some (.bl (neg !=decide (a=b)),S)
 | .str a,.str b=>some (.bl (neg !=decide (a=b)),S)
 | .bl a,.bl b=>some (.bl (neg !=decide (a=b)),S)
 | .non,.non=>some (.bl (neg !=true),S)
 | .int _,.str _=>some (.bl (neg !=false),S)
 | .str _,.int _=>some (.bl (neg !=false),S)
 |_,_=>none
theorem yR:YA K rEq (yV false):=by
 intro F j σ H ρ S S' x y z u v Q E1 hx hy h k
 cases hx<;>cases hy<;>simp only [yV,reduceCtorEq,Option.some.injEq,Prod.mk.injEq,Bool.false_bne] at h<;>obtain ⟨rfl,rfl⟩:=h<;>refine ⟨rfl,k _ _ _ Ext.refl E1 ?_⟩<;>simp<;>exact .bl _
theorem ze1:YA K rNe (yV true):=by
 intro F j σ H ρ S S' x y z u v Q E1 hx hy h k
 cases hx<;>cases hy<;>simp only [yV,reduceCtorEq,Option.some.injEq,Prod.mk.injEq,Bool.true_bne] at h<;>obtain ⟨rfl,rfl⟩:=h<;>refine ⟨rfl,k _ _ _ Ext.refl E1 ?_⟩<;>simp<;>exact .bl _
noncomputable def Vs:Xv→Bool
 | .non=>true
 | .bl _=>true
 | .int _=>true
 | .str _=>true
 |_=>false
noncomputable def zcF:Xv→Xv→Bool
 | .non,.non=>true
 | .bl a,.bl b=>a==b
 | .bl a,.int b=>(if a then 1 else 0)==b
 | .int a,.bl b=>a==(if b then 1 else 0)
 | .int a,.int b=>a==b
 | .str a,.str b=>a==b
 |_,_=>false
noncomputable def dIn (neg:Bool):Op2:=fun x y S=>(Wf S y).bind fun l=>if Vs x&&l.all Vs then some (.bl (neg !=l.any fun z=>zcF z x),S) else none
theorem zdK {v:V} {x:Xv} (h:Xis K j H x v):Vn v=Vs x:=by cases h<;>rfl
theorem zk2 {v w:V} {x y:Xv} (h:Xis K j H x v) (g:Xis K j H y w) (fx:Vs x=true) (fy:Vs y=true):eqV v w=zcF x y:=by cases h<;>cases g<;>first|rfl|cases fx|cases fy
theorem zfR:∀{xs:List Xv} {vs:List V},yC K j H xs vs→vs.all Vn=xs.all Vs
 |_,_,.nil=>rfl
 |_,_,.cons h l=>by rw [List.all_cons,List.all_cons,zdK h,zfR l]
theorem zfS {v:V} {x:Xv} (hx:Xis K j H x v) (fx:Vs x=true):∀{xs:List Xv} {vs:List V},yC K j H xs vs→xs.all Vs=true→inV v vs=xs.any fun z=>zcF z x
 |_,_,.nil,_=>rfl
 |_,_,.cons h l,f=>by
  rw [List.all_cons,Bool.and_eq_true] at f
  have:=zfS hx fx l f.2
  unfold inV at this ⊢
  rw [List.any_cons,List.any_cons,zk2 h hx f.1 fx,this]
theorem TC {neg:Bool}:YA K (rIn K neg) (dIn neg):=by
 intro F j σ H ρ S S' x y z u v Q E1 hx hy h k
 unfold dIn at h
 cases e:Wf S y with
 |none=>rw [e] at h;cases h
 |some l=>
  rw [e] at h
  dsimp only [Option.bind] at h
  split at h
  ·rename_i hf
   have hf:=Bool.and_eq_true_iff.1 hf
   cases h
   obtain ⟨p,ws,rfl,h1,h2⟩:=E1.seqAt hy e
   refine ⟨p,ws,rfl,?_,by rw [zdK hx];exact hf.1,by rw [zfR h2];exact hf.2,k _ _ _ Ext.refl E1 ?_⟩
   ·rcases h1 with h1|h1
    ·exact .inl h1.sql
    ·exact .inr h1
   ·rw [zfS hx hf.1 h2 hf.2]
    cases neg<;>simp<;>exact .bl _
  ·cases h
noncomputable def vZ (f:Xv→Option D):List Xv→Option (List D)
 |[]=>some []
 |x::r=>(f x).bind fun d=>(vZ f r).map (d:: ·)
noncomputable def wf (S:Sto):Nat→Xv→Option D
 |0,x=>match x with
  | .non=>some .non
  | .bl b=>some (.bl b)
  | .int i=>some (.int i)
  | .str s=>some (.str s)
  |_=>none
 |n+1,x=>match x with
  | .non=>some .non
  | .bl b=>some (.bl b)
  | .int i=>some (.int i)
  | .str s=>some (.str s)
  | .tup l=>(vZ (wf S n) l).map .tup
  | .ct l=>(vZ (wf S n) l).map .tup
  | .ref m=>(yx S (.ref m)).bind fun l=>(vZ (wf S n) l).map .lst
theorem Uj {f:Xv→Option D} {n:Nat} (hf:∀x v d,Xis K j H x v→f x=some d→Is K H v d∧D.depth d≤n):∀{xs:List Xv} {vs:List V} {ds:List D},yC K j H xs vs→vZ f xs=some ds→IsL K H vs ds∧D.depths ds≤n
 |_,_,_,.nil,e=>by cases e;exact ⟨.nil,by simp [D.depths]⟩
 |x::r,_,ds,.cons h l,e=>by
  unfold vZ at e
  cases e1:f x with
  |none=>rw [e1] at e;cases e
  |some d=>
   rw [e1] at e
   cases e2:vZ f r with
   |none=>simp [e2] at e
   |some es=>
    simp [e2] at e
    subst e
    obtain ⟨a1,a2⟩:=hf _ _ _ h e1
    obtain ⟨b1,b2⟩:=Uj hf l e2
    exact ⟨.cons a1 b1,by unfold D.depths;omega⟩
theorem zag (E1:En K F j H σ ρ S):∀(n:Nat) (x:Xv) (v:V) (d:D),Xis K j H x v→wf S n x=some d→Is K H v d∧D.depth d≤n
 |0,x,v,d,h,e=>by
  cases h<;>simp only [wf,Option.some.injEq,reduceCtorEq] at e<;>subst e<;>refine ⟨by constructor,by simp [D.depth]⟩
 |n+1,x,v,d,h,e=>by
  have ih:=zag E1 n
  cases h with
  |non=>simp only [wf,Option.some.injEq] at e;subst e;exact ⟨.non,by simp [D.depth]⟩
  |bl b=>simp only [wf,Option.some.injEq] at e;subst e;exact ⟨.bl b,by simp [D.depth]⟩
  |int b=>simp only [wf,Option.some.injEq] at e;subst e;exact ⟨.int b,by simp [D.depth]⟩
  |str b=>simp only [wf,Option.some.injEq] at e;subst e;exact ⟨.str b,by simp [D.depth]⟩
  | @tup a vs l h1 h2=>
   simp only [wf] at e
   cases e2:vZ (wf S n) l with
   |none=>rw [e2] at e;cases e
   |some ds=>
    rw [e2] at e
    cases e
    obtain ⟨a1,a2⟩:=Uj ih h2 e2
    exact ⟨.tup (SqT.of h1) a1,by unfold D.depth;omega⟩
  | @ct a vs l h1 h2=>
   simp only [wf] at e
   cases e2:vZ (wf S n) l with
   |none=>rw [e2] at e;cases e
   |some ds=>
    rw [e2] at e
    cases e
    obtain ⟨a1,a2⟩:=Uj ih h2 e2
    exact ⟨.tup (h1 H) a1,by unfold D.depth;omega⟩
  | @ref m a h1=>
   simp only [wf] at e
   cases e1:yx S (.ref m) with
   |none=>rw [e1] at e;cases e
   |some l=>
    rw [e1] at e
    cases e2:vZ (wf S n) l with
    |none=>simp [e2] at e
    |some ds=>
     simp [e2] at e
     subst e
     obtain ⟨a',vs,ea,g1,g2⟩:=E1.lstAt (.ref h1) e1
     cases ea
     obtain ⟨a1,a2⟩:=Uj ih g2 e2
     exact ⟨.lst g1.sql a1,by unfold D.depth;omega⟩
noncomputable def D.many:D→Bool
 | .tup _=>true
 | .lst _=>true
 |_=>false
noncomputable def zhH (c:String) (S:Sto):Xv→Option Bool
 | .non=>some false
 | .int _=>some (c=="int")
 | .bl _=>some (c=="bool"||c=="int")
 | .str _=>some (c=="str")
 | .tup _=>some (c=="tuple")
 | .ct _=>some (c=="tuple")
 | .ref n=>(yx S (.ref n)).map fun _=>c=="list"
structure zdL (c:String):Prop where
 non:∀K,PySem.W.kitOne K (.type "NoneType") (.type c)=some false
 bl:∀K,PySem.W.kitOne K (.type "bool") (.type c)=some (c=="bool"||c=="int")
 int:∀K,PySem.W.kitOne K (.type "int") (.type c)=some (c=="int")
 str:∀K,PySem.W.kitOne K (.type "str") (.type c)=some (c=="str")
 tup:∀K,PySem.W.kitOne K (.type "tuple") (.type c)=some (c=="tuple")
 lst:∀K,PySem.W.kitOne K (.type "list") (.type c)=some (c=="list")
theorem Tf (a b:String) (K:PySem.W.Frag) (h1:(Value.type a==Value.type b)=false) (h:(fastBuiltinMro a).map (·.contains (.type b))=some false) (hm:PySem.W.kitMeta b=true):PySem.W.kitOne K (.type a) (.type b)=some false:=zkQ h1 h hm rfl
theorem zi5:zdL "int":=⟨fun K=>Tf _ _ K (by decide) (by decide+kernel) (by decide+kernel),fun K=>zcu,fun K=>zaC,fun K=>Tf _ _ K (by decide) (by decide+kernel) (by decide+kernel),fun K=>Tf _ _ K (by decide) (by decide+kernel) (by decide+kernel),fun K=>Tf _ _ K (by decide) (by decide+kernel) (by decide+kernel)⟩
theorem zhI:zdL "bool":=⟨fun K=>Tf _ _ K (by decide) (by decide+kernel) (by decide+kernel),fun K=>zaC,fun K=>zcv,fun K=>Tf _ _ K (by decide) (by decide+kernel) (by decide+kernel),fun K=>Tf _ _ K (by decide) (by decide+kernel) (by decide+kernel),fun K=>Tf _ _ K (by decide) (by decide+kernel) (by decide+kernel)⟩
theorem zfT:zdL "str":=⟨fun K=>Tf _ _ K (by decide) (by decide+kernel) (by decide+kernel),fun K=>Tf _ _ K (by decide) (by decide+kernel) (by decide+kernel),fun K=>Tf _ _ K (by decide) (by decide+kernel) (by decide+kernel),fun K=>zaC,fun K=>Tf _ _ K (by decide) (by decide+kernel) (by decide+kernel),fun K=>Tf _ _ K (by decide) (by decide+kernel) (by decide+kernel)⟩
noncomputable def zdM (c:String):Xv→Sto→Option (Xv×Sto):=fun x S=>(zhH c S x).map fun b=>(.bl b,S)
theorem zi6 {c:String} (ok:zdL c) (E1:En K F j H σ ρ S) {b:Bool} {Q:VK} (h:Xis K j H x v) (e:zhH c S x=some b) (k:Q (.bl b) H):ziU K [v,.ty c] H Q:=by
 cases h with
 |non=>cases e;exact ⟨_,_,_,_,_,rfl,rfl,.of .non,ok.non K,k⟩
 |bl b=>cases e;exact ⟨_,_,_,_,_,rfl,rfl,.of (.bl b),ok.bl K,k⟩
 |int i=>cases e;exact ⟨_,_,_,_,_,rfl,rfl,.of (.int i),ok.int K,k⟩
 |str z=>cases e;exact ⟨_,_,_,_,_,rfl,rfl,.of (.str z),ok.str K,k⟩
 |tup h l=>cases e;exact ⟨_,_,_,_,_,rfl,rfl,.sqt (SqT.of h),ok.tup K,k⟩
 |ct h l=>cases e;exact ⟨_,_,_,_,_,rfl,rfl,.sqt (h H),ok.tup K,k⟩
 | @ref n a h=>
  simp only [zhH] at e
  cases e1:yx S (.ref n) with
  |none=>rw [e1] at e;cases e
  |some l=>
   rw [e1] at e
   cases e
   obtain ⟨a',vs,ea,g1,g2⟩:=E1.lstAt (.ref h) e1
   cases ea
   exact ⟨_,_,_,_,_,rfl,rfl,.sql g1.sql,ok.lst K,k⟩
theorem zcG {c:String} {t:TE} {m:TwE} (ok:zdL c) (h:RE K E t m):RE K E (tCB (ziU K) (VU t (VU (tC (.ty c)) zeH))) (eUn (zdM c) m):=by
 intro F j σ H ρ S r Q En0 e k
 rcases zD e with ⟨x,S1,e1,e⟩|⟨c,S1,e1,rfl⟩
 ·obtain ⟨z,S3,e3,rfl⟩:=wc e
  unfold zdM at e3
  cases e4:zhH c S1 x with
  |none=>rw [e4] at e3;cases e3
  |some b=>
   rw [e4] at e3
   cases e3
   exact h En0 e1 fun j1 H1 X1 E1 u hu=>zi6 ok E1 hu e4 (k _ _ X1 E1 _ (.bl _))
 ·exact h En0 e1 k
noncomputable def zb5 (xs:List Xv):List Xv:=xs.zipIdx.map fun p=> .tup [.int (p.2:Int),p.1]
theorem zdN {xs:List Xv} {i:Nat} {y:Xv} (h:(zb5 xs)[i]? =some y):∃x,xs[i]? =some x∧y= .tup [.int (i:Int),x]:=by
 unfold zb5 at h
 rw [List.getElem?_map,List.getElem?_zipIdx] at h
 cases e:xs[i]? with
 |none=>rw [e] at h;cases h
 |some x=>
  rw [e] at h
  simp at h
  exact ⟨x,rfl,h.symm⟩
theorem Tg (xs:List Xv):(zb5 xs).length=xs.length:=by simp [zb5]
theorem zng {p:Addr} {H':Hp} {i:Int} {y:Xv} {w:V} (Sm:VZ H H') (hp:H' p=some (.tup [.int i,w])) (h:Xis K j H y w):Xis K j H' (.tup [.int i,y]) (.ref p):=
 .tup hp (.cons (.int i) (.one (h.mono (Ext.same Sm))))
noncomputable def zi7 (m:TwE):TwI:=fun ρ S=>rb (m ρ S) fun x S1=>x.tupOf.map fun l=> .ok (fun _=>some (zb5 l)) S1
theorem zdO {t:TE} {m:TwE} (h:RE K E t m):RI K E (zhx K (VU t zeH)) (zi7 m):=by
 intro F j σ H ρ S r R En0 e k
 rcases zD e with ⟨x,S1,e1,e⟩|⟨c,S1,e1,rfl⟩
 ·cases el:x.tupOf with
  |none=>rw [el] at e;cases e
  |some l=>
   rw [el] at e
   cases e
   refine h En0 e1 fun j1 H1 X1 E1 u hu=> ?_
   obtain ⟨a,vs,rfl,h1,_⟩:=hu.tupO el
   refine ⟨a,rfl,⟨vs,h1⟩,k _ _ X1 E1 _ ?_⟩
   intro F2 j2 H2 σ2 ρ2 S2 xs i X2 E2 e2
   cases e2
   obtain ⟨a',ws,ea,g1,g2⟩:=(hu.mono X2).tupO el
   cases ea
   refine ⟨fun y ey=> ?_,fun hle=>⟨ws,g1,by rw [g2.len];rw [Tg] at hle;omega⟩⟩
   obtain ⟨y',ey',rfl⟩:=zdN ey
   obtain ⟨w,f1,f2⟩:=g2.get ey'
   refine ⟨⟨ws,w,g1,f1⟩,?_⟩
   rintro v' H' ⟨p,w',rfl,hp,rfl,hx⟩
   have:=hx ws g1
   rw [f1] at this
   cases this
   exact ⟨wU hp,zng (wU hp) yS f2⟩
 ·exact h En0 e1 k
end
end L2
namespace L2
open PySem PySem.Spec PyProof.Rows
noncomputable def ze2:Xv→Option Key
 | .int i=>some (.inl i)
 | .str z=>some (.inr z)
 |_=>none
noncomputable def zcH (S:Sto):Xv→Option (Nat×List (Key×Xv))
 | .ref n=>match S[n]? with
  |some (.dk kvs)=>some (n,kvs)
  |_=>none
 |_=>none
noncomputable def zgF (S:Sto):Xv→Option (Nat×List (Key×Xv))
 | .ref n=>match S[n]? with
  |some (.dk kvs)=>some (n,kvs)
  |some (.fdk kvs)=>some (n,kvs)
  |_=>none
 |_=>none
noncomputable def Xg {κ:Type} [DecidableEq κ] (kvs:List (κ×Xv)) (k:κ):Option Xv:=(kvs.find? fun kv=>decide (kv.1=k)).map (·.2)
section
variable {K:PySem.W.Frag} {E:XK} {F:Fm} {j:List Addr} {H:Hp} {σ:St} {ρ:Rho} {S:Sto} {x:Xv} {v:V} {κ:Type}
theorem zcI {k:Key} (h:Xis K j H x v) (e:ze2 x=some k):v=kV k:=by
 cases h<;>simp only [ze2,Option.some.injEq,reduceCtorEq] at e<;>subst e<;>rfl
theorem zb6 {n:Nat} {kvs:List (Key×Xv)} (h:zcH S x=some (n,kvs)):x= .ref n∧S[n]? =some (.dk kvs):=by
 cases x<;>simp only [zcH,reduceCtorEq] at h
 split at h
 ·cases h;exact ⟨rfl,by assumption⟩
 ·cases h
theorem En.dk {n:Nat} {kvs:List (Key×Xv)} (E1:En K F j H σ ρ S) (hx:Xis K j H x v) (h:zcH S x=some (n,kvs)):∃a ks,v= .ref a∧j[n]? =some a∧H a=some (.dK ks)∧KX K j H kvs ks:=by
 obtain ⟨rfl,hs⟩:=zb6 h
 obtain ⟨a,rfl,hj⟩:=hx.ref_inv
 obtain ⟨ks,e1,e2⟩:=E1.cel _ _ _ hs hj
 exact ⟨a,ks,rfl,hj,e1,e2⟩
theorem zi8 {p:Nat×List (Key×Xv)} (h:zcH S x=some p):zgF S x=some p:=by
 obtain ⟨n,kvs⟩:=p
 obtain ⟨rfl,e⟩:=zb6 h
 unfold zgF
 dsimp only
 rw [e]
theorem En.dr {n:Nat} {kvs:List (Key×Xv)} (E1:En K F j H σ ρ S) (hx:Xis K j H x v) (h:zgF S x=some (n,kvs)):∃a ks,v= .ref a∧j[n]? =some a∧Rd H a (.dK ks)∧KX K j H kvs ks:=by
 cases x<;>simp only [zgF,reduceCtorEq] at h
 obtain ⟨a,rfl,hj⟩:=hx.ref_inv
 split at h
 ·rename_i hs
  cases h
  obtain ⟨ks,e1,e2⟩:=E1.cel _ _ _ hs hj
  exact ⟨a,ks,rfl,hj,.inl e1,e2⟩
 ·rename_i hs
  cases h
  obtain ⟨o,ks,e1,e2⟩:=E1.cel _ _ _ hs hj
  exact ⟨a,ks,rfl,hj,.inr ⟨o,e1⟩,e2⟩
 ·cases h
theorem VY.r {a:Addr} {kvs:List (Key×V)} {k:Key} (e:Rd H a (.dK kvs)):VY H a (kV k) (Wo kvs k):= .inl ⟨kvs,k,e,rfl,rfl⟩
theorem KX.val [DecidableEq κ] {k:κ}:∀{kvs:List (κ×Xv)} {ks:List (κ×V)},KX K j H kvs ks→(∀y,Xg kvs k=some y→∃w,Wo ks k=some w∧Xis K j H y w)∧(Xg kvs k=none→Wo ks k=none)
 |_,_,.nil=>⟨fun _ e=>by simp [Xg] at e,fun _=>rfl⟩
 |(k1,y1)::r,(_,w1)::rs,.cons h l=>by
  obtain ⟨i1,i2⟩:=KX.val (k:=k) l
  by_cases e:k1=k
  ·subst e
   refine ⟨fun y ey=> ?_,fun ey=> ?_⟩
   ·simp [Xg] at ey
    subst ey
    exact ⟨w1,by simp [Wo],h⟩
   ·simp [Xg] at ey
  ·have e1:Xg ((k1,y1)::r) k=Xg r k:=by simp [Xg,List.find?_cons,e]
   have e2:Wo ((k1,w1)::rs) k=Wo rs k:=by simp [Wo,List.find?_cons,e]
   rw [e1,e2]
   exact ⟨i1,i2⟩
noncomputable def zdP (d k:TwE):TwE:=fun ρ S=>rb (d ρ S) fun x S1=>rb (k ρ S1) fun y S2=>match zgF S2 x,ze2 y with
 |some (_,kvs),some key=>(Xg kvs key).map fun z=> .ok z S2
 |_,_=>none
theorem zi9 {td ty:TE} {d k:TwE} (hd:RE K E td d) (hk:RE K E ty k):RE K E (zjY td ty) (zdP d k):=by
 intro F j σ H ρ S r Q En0 e kk
 rcases zD e with ⟨x,S1,e1,e⟩|⟨c,S1,e1,rfl⟩
 ·refine hd En0 e1 fun j1 H1 X1 E1 u hu=> ?_
  rcases zD e with ⟨y,S2,e2,e⟩|⟨c,S2,e2,rfl⟩
  ·refine hk E1 e2 fun j2 H2 X2 E2 w hw=> ?_
   split at e
   ·rename_i n kvs key ed ek
    cases ev:Xg kvs key with
    |none=>rw [ev] at e;cases e
    |some z=>
     rw [ev] at e
     cases e
     obtain ⟨a,ks,rfl,hj,f1,f2⟩:=E2.dr (hu.mono X2) ed
     obtain ⟨z',g1,g2⟩:=f2.val.1 _ ev
     refine ⟨a,z',rfl,?_,kk _ _ (X1.trans X2) E2 _ g2⟩
     rw [zcI hw ek,←g1]
     exact VY.r f1
   ·cases e
  ·exact hk E1 e2 (PX.mono kk X1)
 ·exact hd En0 e1 kk
noncomputable def zgG (neg:Bool) (k d:TwE):TwE:=fun ρ S=>rb (k ρ S) fun y S1=>rb (d ρ S1) fun x S2=>match zcH S2 x,ze2 y with
 |some (_,kvs),some key=>some (.ok (.bl (neg !=(Xg kvs key).isSome)) S2)
 |_,_=>none
theorem zfU {a:Addr} {ks:List (Key×V)} {kvs:List (Key×Xv)} {key:Key} (f1:H a=some (.dK ks)) (f2:KX K j H kvs ks):∃o,VY H a (kV key) o∧o.isSome=(Xg kvs key).isSome∧∀z zd,Xis K j H z zd→Xis K j H ((Xg kvs key).getD z) (o.getD zd):=by
 refine ⟨_,VY.k f1,?_,fun z zd hz=> ?_⟩
 ·cases ev:Xg kvs key with
  |none=>rw [f2.val.2 ev];rfl
  |some y=>obtain ⟨w,g1,_⟩:=f2.val.1 _ ev;rw [g1];rfl
 ·cases ev:Xg kvs key with
  |none=>rw [f2.val.2 ev];exact hz
  |some y=>obtain ⟨w,g1,g2⟩:=f2.val.1 _ ev;rw [g1];exact g2
theorem zk3 {td ty:TE} {d k:TwE} (hk:RE K E ty k) (hd:RE K E td d):RE K E (zmm ty td) (zgG false k d):=by
 intro F j σ H ρ S r Q En0 e kk
 rcases zD e with ⟨y,S1,e1,e⟩|⟨c,S1,e1,rfl⟩
 ·refine hk En0 e1 fun j1 H1 X1 E1 u hu=> ?_
  rcases zD e with ⟨x,S2,e2,e⟩|⟨c,S2,e2,rfl⟩
  ·refine hd E1 e2 fun j2 H2 X2 E2 w hw=> ?_
   split at e
   ·rename_i n kvs key ed ek
    cases e
    obtain ⟨a,ks,rfl,hj,f1,f2⟩:=E2.dk hw ed
    obtain ⟨o,g1,g2,_⟩:=zfU (key:=key) f1 f2
    refine ⟨a,o,rfl,by rw [zcI (hu.mono X2) ek];exact g1,kk _ _ (X1.trans X2) E2 _ ?_⟩
    rw [g2,Bool.false_bne]
    exact .bl _
   ·cases e
  ·exact hd E1 e2 (PX.mono kk X1)
 ·exact hk En0 e1 kk
theorem zgH {td ty:TE} {d k:TwE} (hk:RE K E ty k) (hd:RE K E td d):RE K E (zfH ty td) (zgG true k d):=by
 intro F j σ H ρ S r Q En0 e kk
 rcases zD e with ⟨y,S1,e1,e⟩|⟨c,S1,e1,rfl⟩
 ·refine hk En0 e1 fun j1 H1 X1 E1 u hu=> ?_
  rcases zD e with ⟨x,S2,e2,e⟩|⟨c,S2,e2,rfl⟩
  ·refine hd E1 e2 fun j2 H2 X2 E2 w hw=> ?_
   split at e
   ·rename_i n kvs key ed ek
    cases e
    obtain ⟨a,ks,rfl,hj,f1,f2⟩:=E2.dk hw ed
    obtain ⟨o,g1,g2,_⟩:=zfU (key:=key) f1 f2
    refine ⟨a,o,rfl,by rw [zcI (hu.mono X2) ek];exact g1,kk _ _ (X1.trans X2) E2 _ ?_⟩
    rw [g2,Bool.true_bne]
    exact .bl _
   ·cases e
  ·exact hd E1 e2 (PX.mono kk X1)
 ·exact hk En0 e1 kk
end
end L2
namespace L2
open PySem PySem.Spec PyProof.Rows
open PySem.Builtin.Int (intBits)
noncomputable def W {α:Type} (r:Option (Rs α)) (P:α→Sto→Prop):Prop:=∃a S,r=some (.ok a S)∧P a S
noncomputable def WO (r:Option (Xv×Sto)) (P:Xv→Sto→Prop):Prop:=∃a S,r=some (a,S)∧P a S
noncomputable def WS (r:Option Fl) (N:Rho→Sto→Prop) (R:Xv→Sto→Prop):Prop:=(∃ρ S,r=some (.nx ρ S)∧N ρ S)∨∃x S,r=some (.rt x S)∧R x S
section
variable {ρ:Rho} {S S':Sto} {d x y:Xv} {a b m o:TwE} {c:TwT} {s t:TwS} {i k:Nat} {P:Xv→Sto→Prop} {PB:Bool→Sto→Prop} {PL:List Xv→Sto→Prop} {PO:Option Int→Sto→Prop} {N:Rho→Sto→Prop} {R:Xv→Sto→Prop}
theorem W.of {α:Type} {r:Option (Rs α)} {a:α} {P:α→Sto→Prop} (e:r=some (.ok a S)) (h:P a S):W r P:=⟨a,S,e,h⟩
theorem WO.of {r:Option (Xv×Sto)} (e:r=some (x,S)) (h:P x S):WO r P:=⟨x,S,e,h⟩
theorem W.imp {α:Type} {r:Option (Rs α)} {P Q:α→Sto→Prop} (h:W r P) (k:∀a S,P a S→Q a S):W r Q:=by
 obtain ⟨a,S,e,h⟩:=h
 exact ⟨a,S,e,k _ _ h⟩
theorem WS.nx {r:Option Fl} (e:r=some (.nx ρ S)) (h:N ρ S):WS r N R:= .inl ⟨ρ,S,e,h⟩
theorem WS.rt {r:Option Fl} (e:r=some (.rt x S)) (h:R x S):WS r N R:= .inr ⟨x,S,e,h⟩
theorem W.bind {α β:Type} {r:Option (Rs α)} {f:α→Sto→Option (Rs β)} {P:β→Sto→Prop} (h:W r fun a S=>W (f a S) P):W (rb r f) P:=by
 obtain ⟨a,S,rfl,h⟩:=h
 exact h
theorem WS.bind {α:Type} {r:Option (Rs α)} {f:α→Sto→Option Fl} (h:W r fun a S=>WS (f a S) N R):WS (sb r f) N R:=by
 obtain ⟨a,S,rfl,h⟩:=h
 exact h
theorem W.okP {r:Option (Xv×Sto)} (h:WO r P):W (okP r) P:=by
 obtain ⟨a,S,rfl,h⟩:=h
 exact ⟨a,S,rfl,h⟩
theorem zk4 (h:ρ[i]? =some (some d)) (k:P d S):W (ze i ρ S) P:= .of (by unfold ze;rw [h]) k
theorem znh (k:P d S):W (eC d ρ S) P:= .of rfl k
theorem zmD {f:Op2} (h:W (a ρ S) fun x S1=>W (b ρ S1) fun y S2=>WO (f x y S2) P):W (eOp f a b ρ S) P:=W.bind (h.imp fun _ _ h=>W.bind (h.imp fun _ _ h=>W.okP h))
theorem zmE {f:Xv→Sto→Option (Xv×Sto)} (h:W (a ρ S) fun x S1=>WO (f x S1) P):W (eUn f a ρ S) P:=W.bind (h.imp fun _ _ h=>W.okP h)
theorem vt (h:W (a ρ S) fun x S1=>∃v,x= .bl v∧PB v S1):W (bE a ρ S) PB:=W.bind (h.imp fun x S1 h=>by obtain ⟨v,rfl,k⟩:=h;exact .of rfl k)
theorem zmF (h:W (c ρ S) fun v S1=>P (.bl v) S1):W (eB c ρ S) P:=W.bind (h.imp fun _ _ k=> .of rfl k)
theorem vC (h:W (c ρ S) fun v S1=>PB (!v) S1):W (YB c ρ S) PB:=W.bind (h.imp fun _ _ k=> .of rfl k)
theorem xr {c2:TwT} (h:W (c ρ S) fun v S1=>(v=true→W (c2 ρ S1) PB)∧(v=false→PB false S1)):W (Xw c c2 ρ S) PB:=W.bind (h.imp fun v S1 k=>by
 cases v with
 |true=>rw [if_pos rfl];exact k.1 rfl
 |false=>exact .of rfl (k.2 rfl))
theorem Xh {c2:TwT} (h:W (c ρ S) fun v S1=>(v=true→PB true S1)∧(v=false→W (c2 ρ S1) PB)):W (bOr c c2 ρ S) PB:=W.bind (h.imp fun v S1 k=>by
 cases v with
 |true=>exact .of rfl (k.1 rfl)
 |false=>rw [if_neg (by simp)];exact k.2 rfl)
theorem zah (h:W (a ρ S) fun x S1=>∃v,x= .bl v∧(v=true→W (b ρ S1) P)∧(v=false→P (.bl false) S1)):W (zgC a b ρ S) P:=W.bind ((vt h).imp fun v S1 k=>by
 cases v with
 |true=>rw [if_pos rfl];exact k.1 rfl
 |false=>exact .of rfl (k.2 rfl))
theorem zk5 (h:W (a ρ S) fun x S1=>∃v,x= .bl v∧(v=true→P (.bl true) S1)∧(v=false→W (b ρ S1) P)):W (eOr a b ρ S) P:=W.bind ((vt h).imp fun v S1 k=>by
 cases v with
 |true=>exact .of rfl (k.1 rfl)
 |false=>rw [if_neg (by simp)];exact k.2 rfl)
theorem zk6 (k:PL [] S):W (evL [] ρ S) PL:= .of rfl k
theorem zja {ms:List TwE} (h:W (m ρ S) fun d S1=>W (evL ms ρ S1) fun ds S2=>PL (d::ds) S2):W (evL (m::ms) ρ S) PL:=W.bind (h.imp fun _ _ h=>W.bind (h.imp fun _ _ k=> .of rfl k))
theorem zk7 {ms:List TwE} (h:W (evL ms ρ S) fun ds S1=>P (.tup ds) S1):W (xj ms ρ S) P:=W.bind (h.imp fun _ _ k=> .of rfl k)
theorem zk8 {ms:List TwE} (h:W (evL ms ρ S) fun ds S1=>P (.ref S1.length) (S1++[.lst ds])):W (TL ms ρ S) P:=W.bind (h.imp fun _ _ k=> .of rfl k)
theorem zmG {f:Opn} {ms:List TwE} (h:W (evL ms ρ S) fun ds S1=>WO (f ds S1) P):W (eFn f ms ρ S) P:=W.bind (h.imp fun _ _ h=>W.okP h)
theorem zjb {tw:TwF} {ms:List TwE} (h:W (evL ms ρ S) fun ds S1=>W (tw ds S1) P):W (zv tw ms ρ S) P:=W.bind h
theorem zk9 (k:PO none S):W (oNo ρ S) PO:= .of rfl k
theorem zhJ (h:W (m ρ S) fun x S1=>∃k,x= .int k∧PO (some k) S1):W (Uf m ρ S) PO:=W.bind (h.imp fun x S1 h=>by obtain ⟨v,rfl,k⟩:=h;exact .of rfl k)
theorem zmH {f:Xv→Option Int→Option Int→Sto→Option (Xv×Sto)} {lo hi:TwO} (h:W (m ρ S) fun x S1=>W (lo ρ S1) fun u S2=>W (hi ρ S2) fun v S3=>WO (f x u v S3) P):W (eSl f m lo hi ρ S) P:=
 W.bind (h.imp fun _ _ h=>W.bind (h.imp fun _ _ h=>W.bind (h.imp fun _ _ h=>W.okP h)))
theorem zb7 {f:OpM} {ms:List TwE} (h:W (o ρ S) fun x S1=>(∃l,yx S1 x=some l)∧W (evL ms ρ S1) fun ys S2=>WO (f x ys S2) P):W (eMt f o ms ρ S) P:=W.bind (h.imp fun x S1 h=>by
 obtain ⟨⟨l,e⟩,h⟩:=h
 rw [e,Option.bind_some]
 exact W.bind (h.imp fun _ _ h=>W.okP h))
theorem zhK (h:W (a ρ S) fun x S1=>W (b ρ S1) fun y S2=>∃n kvs k z,zgF S2 x=some (n,kvs)∧ze2 y=some k∧Xg kvs k=some z∧P z S2):W (zdP a b ρ S) P:=
 W.bind (h.imp fun _ _ h=>W.bind (h.imp fun _ _ h=>by obtain ⟨n,kvs,k,z,e1,e2,e3,q⟩:=h;rw [e1,e2];dsimp only;rw [e3];exact .of rfl q))
theorem zjc (h:W (a ρ S) fun x S1=>W (b ρ S1) fun y S2=>∃n kvs k z,zcH S2 x=some (n,kvs)∧ze2 y=some k∧Xg kvs k=some z∧P z S2):W (zdP a b ρ S) P:=zhK (h.imp fun _ _ h=>h.imp fun _ _ ⟨n,kvs,k,z,e,r⟩=>⟨n,kvs,k,z,zi8 e,r⟩)
theorem zcJ {neg:Bool} (h:W (a ρ S) fun y S1=>W (b ρ S1) fun x S2=>∃n kvs k,zcH S2 x=some (n,kvs)∧ze2 y=some k∧P (.bl (neg !=(Xg kvs k).isSome)) S2):W (zgG neg a b ρ S) P:=
 W.bind (h.imp fun _ _ h=>W.bind (h.imp fun _ _ h=>by obtain ⟨n,kvs,k,e1,e2,q⟩:=h;rw [e1,e2];exact .of rfl q))
theorem zE (h:WS (s ρ S) (fun ρ1 S1=>WS (t ρ1 S1) N R) R):WS (zH s t ρ S) N R:=by
 unfold zH
 rcases h with ⟨ρ1,S1,e,h⟩|⟨x,S1,e,h⟩
 ·rw [e];exact h
 ·rw [e];exact .rt rfl h
theorem zI (h:N ρ S):WS (zO ρ S) N R:= .nx rfl h
theorem zla {g:TwG} (h:W (m ρ S) fun d S1=>W (g d ρ S1) N):WS (yD m g ρ S) N R:=WS.bind (h.imp fun _ _ h=>WS.bind (h.imp fun _ _ k=> .nx rfl k))
theorem zlb (h:W (m ρ S) fun d S1=>N (ρ.set i (some d)) S1):WS (yD m (gN i) ρ S) N R:=WS.bind (h.imp fun _ _ k=> .nx rfl k)
theorem zaP (h:W (m ρ S) fun d S1=>W (a ρ S1) fun x S2=>W (b ρ S2) fun y S3=>∃n l q j,Ue S3 x=some (n,l)∧y= .int q∧ixN l.length q=some j∧N ρ (S3.set n (.lst (l.set j d)))):WS (yD m (zaH a b) ρ S) N R:=
 WS.bind (h.imp fun d S1 h=>WS.bind (W.bind (h.imp fun x S2 h=>W.bind (h.imp fun y S3 h=>by
  obtain ⟨n,l,q,j,e1,rfl,e2,k⟩:=h
  rw [e1]
  dsimp only
  rw [e2]
  exact .of rfl (.nx rfl k)))))
theorem zjd (h:W (m ρ S) fun _ S1=>N ρ S1):WS (wP m ρ S) N R:=WS.bind (h.imp fun _ _ k=> .nx rfl k)
theorem ZM (h:W (m ρ S) fun d S1=>R d S1):WS (zY m ρ S) N R:=WS.bind (h.imp fun _ _ k=> .rt rfl k)
theorem zL (h:W (c ρ S) fun v S1=>(v=true→WS (s ρ S1) N R)∧(v=false→WS (t ρ S1) N R)):WS (sIf c s t ρ S) N R:=WS.bind (h.imp fun v S1 k=>by
 cases v with
 |true=>rw [if_pos rfl];exact k.1 rfl
 |false=>rw [if_neg (by simp)];exact k.2 rfl)
theorem Zh {r:Option Fl} (I:Rho→Sto→Prop) (h:WS r I R) (k:∀ρ S,I ρ S→N ρ S):WS r N R:=by
 rcases h with ⟨ρ,S,e,h⟩|h
 ·exact .inl ⟨ρ,S,e,k ρ S h⟩
 ·exact .inr h
theorem zj5 {n:Nat} (h:WS (zaG c s n ρ S) N R):WS (sWh n c s ρ S) N R:=h
theorem zfV {n:Nat} (h:W (c ρ S) fun v S1=>(v=true→WS (s ρ S1) (fun ρ2 S2=>WS (zaG c s n ρ2 S2) N R) R)∧(v=false→N ρ S1)):WS (zaG c s (n+1) ρ S) N R:=by
 unfold zaG
 refine WS.bind (h.imp fun v S1 k=> ?_)
 cases v with
 |true=>
  rw [if_pos rfl]
  rcases k.1 rfl with ⟨ρ2,S2,e2,h⟩|⟨x,S2,e2,h⟩
  ·rw [e2];exact h
  ·rw [e2];exact .rt rfl h
 |false=>exact .nx rfl (k.2 rfl)
theorem Th {n:TwI} {g:TwG} (h:W (n ρ S) fun get S1=>∃xs,get S1=some xs∧WS (Vp get g s (xs.length+1) 0 ρ S1) N R):WS (zcA n g s ρ S) N R:=WS.bind (h.imp fun get S1 h=>by
 obtain ⟨xs,e,h⟩:=h
 rw [e,Option.bind_some]
 exact h)
theorem WZ {get:Sto→Option (List Xv)} {g:TwG} {xs:List Xv} (J:Nat→Rho→Sto→Prop) (hg:∀i ρ S,i≤xs.length→J i ρ S→get S=some xs)
  (h:∀(i:Nat) (x:Xv) ρ S,xs[i]? =some x→J i ρ S→W (g x ρ S) fun ρ1 S1=>WS (s ρ1 S1) (fun ρ2 S2=>J (i+1) ρ2 S2) R) (h0:J 0 ρ S) (k:∀ρ S,J xs.length ρ S→N ρ S):WS (Vp get g s (xs.length+1) 0 ρ S) N R:=by
 have aux:∀(n i:Nat) (ρ:Rho) (S:Sto),i+n=xs.length→J i ρ S→WS (Vp get g s (n+1) i ρ S) N R:=by
  intro n
  induction n with
  |zero=>
   intro i ρ S e hj
   unfold Vp
   rw [hg i ρ S (by omega) hj,Option.bind_some,List.getElem?_eq_none (by omega)]
   dsimp only
   rw [if_pos (by omega)]
   exact .nx rfl (k ρ S (by rw [show xs.length=i by omega];exact hj))
  |succ n ih=>
   intro i ρ S e hj
   unfold Vp
   have hi:i<xs.length:=by omega
   rw [hg i ρ S (by omega) hj,Option.bind_some,List.getElem?_eq_getElem hi]
   refine WS.bind ((h i _ ρ S (List.getElem?_eq_getElem hi) hj).imp fun ρ1 S1 h1=> ?_)
   rcases h1 with ⟨ρ2,S2,e2,h2⟩|⟨x,S2,e2,h2⟩
   ·rw [e2];exact ih (i+1) ρ2 S2 (by omega) h2
   ·rw [e2];exact .rt rfl h2
 exact aux xs.length 0 ρ S (by omega) h0
theorem zj6 (h:W (m ρ S) fun x S1=>∃l,yx S1 x=some l∧Q' (fun S=>yx S x) S1):W (iL m ρ S) Q':=W.bind (h.imp fun x S1 h=>by
 obtain ⟨l,e,k⟩:=h
 rw [e]
 exact .of rfl k)
theorem zdQ {Q':(Sto→Option (List Xv))→Sto→Prop} (h:W (m ρ S) fun x S1=>∃l,x.tupOf=some l∧Q' (fun _=>some l) S1):W (iT m ρ S) Q':=W.bind (h.imp fun x S1 h=>by
 obtain ⟨l,e,k⟩:=h
 rw [e]
 exact .of rfl k)
theorem ze3 {Q':(Sto→Option (List Xv))→Sto→Prop} (h:W (m ρ S) fun x S1=>∃k:Int,x= .int k∧(-(2^62)≤k∧k<2^62)∧Q' (fun _=>some (ZK 0 k.toNat)) S1):W (iR1 m ρ S) Q':=W.bind (h.imp fun x S1 h=>by
 obtain ⟨k,rfl,hk,q⟩:=h
 dsimp only
 rw [if_pos hk]
 exact .of rfl q)
theorem Ti {lo:Int} {n i:Nat} {x:Xv} (h:(ZK lo n)[i]? =some x):i<n∧x= .int (lo+i):=by
 unfold ZK at h
 rw [List.getElem?_map] at h
 have hi:i<n:=by
  apply Classical.byContradiction
  intro hn
  rw [List.getElem?_eq_none (by simp;omega)] at h
  cases h
 rw [List.getElem?_range hi] at h
 cases h
 exact ⟨hi,rfl⟩
theorem XA {lo:Int} {n:Nat}:(ZK lo n).length=n:=by simp [ZK]
theorem Uk {cap:List (Option Nat)} {n:TwI} {g:TwG} (h:W (n ρ S) fun get S1=>∃xs,get S1=some xs∧W (YD get g c m (zcC cap ρ) (xs.length+1) 0 [] S1) P):W (xl cap n g c m ρ S) P:=W.bind (h.imp fun get S1 h=>by
 obtain ⟨xs,e,h⟩:=h
 rw [e,Option.bind_some]
 exact h)
theorem Wt {get:Sto→Option (List Xv)} {g:TwG} {ρc:Rho} {xs:List Xv} (hl:xs.length≤sizeLine) (J:Nat→List Xv→Sto→Prop) (hg:∀i es S,i≤xs.length→J i es S→get S=some xs)
  (h:∀(i:Nat) (x:Xv) es S,xs[i]? =some x→es.length=i→J i es S→W (g x ρc S) fun ρ1 S1=>W (c ρ1 S1) fun b S2=>b=true∧W (m ρ1 S2) fun y S3=>J (i+1) (es++[y]) S3) (h0:J 0 [] S)
  (k:∀es S,es.length=xs.length→J xs.length es S→P (.ref S.length) (S++[.lst es])):W (YD get g c m ρc (xs.length+1) 0 [] S) P:=by
 have aux:∀(n i:Nat) (es:List Xv) (S:Sto),i+n=xs.length→es.length=i→J i es S→W (YD get g c m ρc (n+1) i es S) P:=by
  intro n
  induction n with
  |zero=>
   intro i es S e el hj
   unfold YD
   rw [hg i es S (by omega) hj,Option.bind_some,List.getElem?_eq_none (by omega)]
   dsimp only
   rw [if_pos (by omega)]
   exact .of rfl (k es S (by omega) (by rw [show xs.length=i by omega];exact hj))
  |succ n ih=>
   intro i es S e el hj
   unfold YD
   have hi:i<xs.length:=by omega
   rw [hg i es S (by omega) hj,Option.bind_some,List.getElem?_eq_getElem hi]
   obtain ⟨ρ1,S1,e1,b,S2,e2,rfl,y,S3,e3,q⟩:=h i _ es S (List.getElem?_eq_getElem hi) el hj
   dsimp only [rn]
   rw [e1]
   dsimp only [rn]
   rw [e2]
   dsimp only [rn]
   rw [if_pos rfl,e3]
   dsimp only [rn]
   rw [if_pos (by omega)]
   exact ih (i+1) (es++[y]) S3 (by omega) (by simp [el]) q
 exact aux xs.length 0 [] S (by omega) rfl h0
theorem zje (k:PB true S):W (xq ρ S) PB:= .of rfl k
theorem VE {n k:Nat} {xs:List Xv} {ρ0:Rho} (hn:xs.length=n) (h0:xs.map some++List.replicate k none=ρ0) (h:WS (s ρ0 S) (fun _ S1=>P .non S1) P):W (ye n k s xs S) P:=by
 unfold ye
 rw [if_pos hn,h0]
 rcases h with ⟨ρ,S1,e,h⟩|⟨x,S1,e,h⟩
 ·rw [e];exact .of rfl h
 ·rw [e];exact .of rfl h
variable {p q:Int}
theorem zlc (k:P (.int (p+q)) S):WO (xX (.int p) (.int q) S) P:= .of rfl k
theorem zld (k:P (.int (p-q)) S):WO (zhE (.int p) (.int q) S) P:= .of rfl k
theorem zle (k:P (.int (-p)) S):WO (zi1 (.int p) S) P:= .of rfl k
theorem zmI (k:P (.bl (decide (p<q))) S):WO (dLt (.int p) (.int q) S) P:= .of rfl k
theorem zmJ (k:P (.bl (decide (p≤q))) S):WO (dLe (.int p) (.int q) S) P:= .of rfl k
theorem zmK (k:P (.bl (decide (q<p))) S):WO (dGt (.int p) (.int q) S) P:= .of rfl k
theorem zlf (k:P (.bl (decide (p=q))) S):WO (ZL (.int p) (.int q) S) P:= .of rfl k
theorem zlg (k:P (.bl (!decide (p=q))) S):WO (zcD (.int p) (.int q) S) P:= .of rfl k
theorem Wu (h:0<q) (k:P (.int (p % q)) S):WO (TQ (.int p) (.int q) S) P:= .of (by unfold TQ xIC;exact if_pos (by simpa using h)) k
theorem Va (h:intBits p+intBits q≤134217728) (k:P (.int (p*q)) S):WO (Vr (.int p) (.int q) S) P:= .of (by unfold Vr xIC;exact if_pos (by simpa using h)) k
theorem zlh (h:(-(2^64)<p∧p<2^64)∨(-(2^64)<q∧q<2^64)) (k:P (.int (p*q)) S):WO (zi0 (.int p) (.int q) S) P:= .of (by unfold zi0 xIC;exact if_pos (decide_eq_true h)) k
theorem zli (h:0≤q∧q≤1000000∧p.natAbs<2^64) (k:P (.int (p^q.toNat)) S):WO (zeW (.int p) (.int q) S) P:= .of (by unfold zeW xIC;exact if_pos (decide_eq_true h)) k
theorem zlj (k:P (.int (if q<p then q else p)) S):WO (zkZ [.int p,.int q] S) P:= .of rfl k
theorem zlk (k:P (.int (if q>p then q else p)) S):WO (zi3 [.int p,.int q] S) P:= .of rfl k
theorem xL {l:List Xv} (h:yx S x=some l) (k:P (.int l.length) S):WO (wx [x] S) P:= .of (by
 unfold wx Wf
 dsimp only
 have:x.tupOf=none:=by cases x<;>first|rfl|cases h
 rw [this]
 dsimp only
 rw [h]
 rfl) k
theorem xz {l:List Xv} {z:Xv} (h:yx S x=some l) (e:atI l p=some z) (k:P z S):WO (vp x (.int p) S) P:= .of (by unfold vp;rw [h];dsimp only;rw [e];rfl) k
theorem wX {l:List Xv} {z:Xv} (h:x.tupOf=some l) (e:atI l p=some z) (k:P z S):WO (yE x (.int p) S) P:= .of (by unfold yE;rw [h];dsimp only;rw [e];rfl) k
theorem zmL {β:Type} {x:β} {l:List β}:atI (x::l) 0=some x:=by
 unfold atI ixN
 rw [if_pos (show (0:Int)≤0 by decide),if_pos (by simp only [List.length_cons];omega)]
 rfl
theorem zmM {β:Type} {x y:β} {l:List β}:atI (x::y::l) 1=some y:=by
 unfold atI ixN
 rw [if_pos (show (0:Int)≤1 by decide),if_pos (by simp only [List.length_cons];omega)]
 rfl
theorem zll {l:List Xv} (k:P x S):WO (yE (.tup (x::l)) (.int 0) S) P:=wX rfl zmL k
theorem zlm {l:List Xv} (k:P y S):WO (yE (.tup (x::y::l)) (.int 1) S) P:=wX rfl zmM k
theorem Zi {β:Type} {l:List β} {k:Int} {z:β} (h0:0≤k) (h:l[k.toNat]? =some z):atI l k=some z:=by
 have hk:=(List.getElem?_eq_some_iff.1 h).1
 unfold atI ixN
 rw [if_pos h0,if_pos (by omega)]
 exact h
theorem Vb {n:Nat} {l:List Xv} (h:Ue S x=some (n,l)) (hz:l.length<sizeLine) (k:P .non (S.set n (.lst (l++[y])))):WO (xU x [y] S) P:= .of (by unfold xU;rw [h];dsimp only;rw [if_pos hz]) k
theorem zcK {l:List Xv} {lo hi:Option Int} (h:yx S x=some l) (k:P (.ref S.length) (S++[.lst (zaF l lo hi)])):WO (TM x lo hi S) P:= .of (by unfold TM;rw [h];rfl) k
theorem TD {neg:Bool} {l:List Xv} (h:Wf S y=some l) (hf:(Vs x&&l.all Vs)=true) (k:P (.bl (neg !=l.any fun z=>zcF z x)) S):WO (dIn neg x y S) P:= .of (by unfold dIn;rw [h,Option.bind_some,if_pos hf]) k
theorem zaQ {c:String} {v:Bool} (h:zhH c S x=some v) (k:P (.bl v) S):WO (zdM c x S) P:= .of (by unfold zdM;rw [h];rfl) k
end
theorem wF {S:Sto} {n:Nat} {l:List Xv} (h:S[n]? =some (.lst l)):Ue S (.ref n)=some (n,l):=by simp [Ue,h]
theorem zR {S:Sto} {n:Nat} {l:List Xv} (h:S[n]? =some (.lst l)):yx S (.ref n)=some l:=by simp [yx,h]
theorem Ul {S:Sto} {n:Nat} {l:List (Key×Xv)} (h:S[n]? =some (.dk l)):zcH S (.ref n)=some (n,l):=by simp [zcH,h]
end L2
namespace L2
open PySem PySem.Spec PyProof.Rows PySem.Calls
section
variable {X:Cx}
end
section
variable {K:PySem.W.Frag} {E:XK}
noncomputable def VF (p q:Int→Int→Bool) (a b c:TwE):TwE:=fun ρ S=>rb (a ρ S) fun x S1=>rb (b ρ S1) fun y S2=>match x,y with
 | .int i,.int j=>if p i j then rb (c ρ S2) fun z S3=>match z with
   | .int k=>some (.ok (.bl (q j k)) S3)
   |_=>none
  else some (.ok (.bl false) S2)
 |_,_=>none
theorem Um {p q:Int→Int→Bool} {ta tb tc:TE} {a b c:TwE} (ha:RE K E ta a) (hb:RE K E tb b) (hc:RE K E tc c):RE K E (zeC (rI0 fun i j=> .bl (p i j)) (rI0 fun i j=> .bl (q i j)) ta tb tc) (VF p q a b c):=by
 intro F j σ H ρ S r Q En0 e k
 rcases zD e with ⟨x,S1,e1,e⟩|⟨c,S1,e1,rfl⟩
 ·refine ha En0 e1 fun j1 H1 X1 E1 u hu=> ?_
  rcases zD e with ⟨y,S2,e2,e⟩|⟨c,S2,e2,rfl⟩
  ·have hij:∃i l,x= .int i∧y= .int l:=by
    cases x<;>cases y<;>first|exact ⟨_,_,rfl,rfl⟩|(cases e;done)
   obtain ⟨i,l,rfl,rfl⟩:=hij
   dsimp only at e
   refine hb E1 e2 fun j2 H2 X2 E2 v hv=>⟨i,l,hu.int_inv,hv.int_inv,p i l,rfl,?_⟩
   by_cases hp:p i l=true
   ·rw [if_pos hp] at e ⊢
    rcases zD e with ⟨z,S3,e3,e⟩|⟨c,S3,e3,rfl⟩
    ·have hk:∃m,z= .int m:=by
      cases z<;>first|exact ⟨_,rfl⟩|(cases e;done)
     obtain ⟨m,rfl⟩:=hk
     cases e
     exact hc E2 e3 fun j3 H3 X3 E3 w hw=>⟨l,m,hv.int_inv,hw.int_inv,k _ _ (X1.trans (X2.trans X3)) E3 _ (.bl _)⟩
    ·exact hc E2 e3 (PX.mono k (X1.trans X2))
   ·rw [if_neg hp] at e ⊢
    cases e
    exact k _ _ (X1.trans X2) E2 _ (.bl _)
  ·exact hb E1 e2 (PX.mono k X1)
 ·exact ha En0 e1 k
theorem Uo {ρ:Rho} {S:Sto} {P:Xv→Sto→Prop} {p q:Int→Int→Bool} {a b c:TwE} (h:W (a ρ S) fun x S1=>∃i,x= .int i∧W (b ρ S1) fun y S2=>∃j,y= .int j∧(p i j=true→W (c ρ S2) fun z S3=>∃k,z= .int k∧P (.bl (q j k)) S3)∧(p i j=false→P (.bl false) S2)):W (VF p q a b c ρ S) P:=W.bind (h.imp fun x S1 h=>by
 obtain ⟨i,rfl,h⟩:=h
 refine W.bind (h.imp fun y S2 h=> ?_)
 obtain ⟨j,rfl,h1,h2⟩:=h
 dsimp only
 cases hp:p i j with
 |true=>
  rw [if_pos rfl]
  exact W.bind ((h1 hp).imp fun z S3 h=>by obtain ⟨k,rfl,q⟩:=h;exact .of rfl q)
 |false=>
  rw [if_neg (by simp)]
  exact .of rfl (h2 hp))
end
end L2
namespace L2
open PySem PySem.Spec PyProof.Rows PySem.Calls
section
variable {K:PySem.W.Frag} {E:XK}
end
end L2
namespace L2
open PySem PySem.Spec PyProof.Rows PySem.Calls
noncomputable def TR (f:D→D→Option Bool):List D→List D→Option Bool
 |a::l,b::m=>(f a b).bind fun x=>(TR f l m).map (x&& ·)
 |_,_=>some true
theorem Vc {f:D→D→Option Bool}:∀{l m:List D} {b:Bool},TR f l m=some b→∃e:Nat→Bool,(∀(j:Nat) a c,l[j]? =some a→m[j]? =some c→f a c=some (e j))∧b=(List.range (min l.length m.length)).all e
 |[],m,b,h=>by
  unfold TR at h
  cases h
  exact ⟨fun _=>true,fun j a c ha=>by simp at ha,by simp⟩
 |a::l,[],b,h=>by
  unfold TR at h
  cases h
  exact ⟨fun _=>true,fun j a c ha hc=>by simp at hc,by simp⟩
 |a::l,c::m,b,h=>by
  unfold TR at h
  cases e1:f a c with
  |none=>rw [e1] at h;cases h
  |some x=>
   rw [e1,Option.bind_some] at h
   cases e2:TR f l m with
   |none=>rw [e2] at h;cases h
   |some y=>
    rw [e2] at h
    cases h
    obtain ⟨e,k,rfl⟩:=Vc e2
    refine ⟨fun j=>match j with
     |0=>x
     |j+1=>e j,fun j p q hp hq=> ?_,?_⟩
    ·cases j with
     |zero=>simp at hp hq;subst hp hq;exact e1
     |succ j=>exact k j p q (by simpa using hp) (by simpa using hq)
    ·rw [List.length_cons,List.length_cons,Nat.succ_min_succ,List.range_succ_eq_map,List.all_cons,List.all_map]
     rfl
noncomputable def eqG:Nat→D→D→Option Bool
 |0,d,e=>match d,e with
  | .non,.non=>some true
  | .bl a,.bl b=>some (a==b)
  | .int a,.int b=>some (a==b)
  | .str a,.str b=>some (a==b)
  |_,_=>none
 |n+1,d,e=>match d,e with
  | .non,.non=>some true
  | .bl a,.bl b=>some (a==b)
  | .int a,.int b=>some (a==b)
  | .str a,.str b=>some (a==b)
  | .tup l,.tup m=>(TR (eqG n) l m).map (· &&(l.length==m.length))
  | .lst l,.lst m=>if l.length=m.length then TR (eqG n) l m else some false
  |_,_=>none
section
variable {X:Cx} {pins:List (Addr×Obj)} {σ:St} {H:Hp} {s:Shared}
theorem wQ {n:Nat} {e:Nat→Bool} (h:∀j,j<n→e j=true):(List.range n).all e=true:=List.all_eq_true.2 fun j hj=>h j (List.mem_range.1 hj)
theorem zhL (I:Inv X pins σ H s):∀(n:Nat) {d e:D} {x:V} {b:Bool},eqG n d e=some b→Is X.K H x d→Is X.K H x e→b=true:=by
 intro n
 induction n with
 |zero=>
  intro d e x b h hx hy
  unfold eqG at h
  split at h
  ·cases h;rfl
  ·rw [hx.bl_inv] at hy;cases hy;cases h;simp
  ·rw [hx.int_inv] at hy;cases hy;cases h;simp
  ·rw [hx.str_inv] at hy;cases hy;cases h;simp
  ·cases h
 |succ n ih=>
  intro d e x b h hx hy
  unfold eqG at h
  have items:∀{xs:List V} {l m:List D} {b:Bool},TR (eqG n) l m=some b→IsL X.K H xs l→IsL X.K H xs m→b=true:=fun {xs l m b} ha hl hm=>by
   obtain ⟨e,k,rfl⟩:=Vc ha
   refine wQ fun j hj=> ?_
   have h1:j<l.length:=by omega
   have h2:j<m.length:=by omega
   obtain ⟨x,hx1,hx2⟩:=hl.get (List.getElem?_eq_getElem h1)
   obtain ⟨y,hy1,hy2⟩:=hm.get (List.getElem?_eq_getElem h2)
   rw [hx1] at hy1
   cases hy1
   exact ih (k j _ _ (List.getElem?_eq_getElem h1) (List.getElem?_eq_getElem h2)) hx2 hy2
  split at h
  ·cases h;rfl
  ·rw [hx.bl_inv] at hy;cases hy;cases h;simp
  ·rw [hx.int_inv] at hy;cases hy;cases h;simp
  ·rw [hx.str_inv] at hy;cases hy;cases h;simp
  ·rename_i l m
   cases ha:TR (eqG n) l m with
   |none=>rw [ha] at h;cases h
   |some b'=>
    rw [ha] at h
    cases h
    obtain ⟨a,xs,rfl,h1,h2⟩:=hx.tup_inv
    obtain ⟨a',ys,e,g1,g2⟩:=hy.tup_inv
    cases e
    obtain rfl:=I.tuple_inj h1 g1
    rw [items ha h2 g2]
    have e3:=h2.len;have e4:=g2.len
    simp;omega
  ·rename_i l m
   obtain ⟨a,xs,rfl,h1,h2⟩:=hx.lst_inv
   obtain ⟨a',ys,e,g1,g2⟩:=hy.lst_inv
   cases e
   obtain rfl:=I.list_inj h1 g1
   have e3:=h2.len;have e4:=g2.len
   rw [if_pos (by omega)] at h
   exact items h h2 g2
  ·cases h
theorem Vd {A:Around} {xs ys:List V} {its its2:List Value} {l m:List D} {e:Nat→Bool} (rx:yr xs its) (ry:yr ys its2) (hx:IsL X.K H xs l) (hy:IsL X.K H ys m)
  (k:∀{x y:V} {u v:Value} {d d':D} {j:Nat},l[j]? =some d→m[j]? =some d'→Is X.K H x d→Is X.K H y d'→yA x u→yA y v→SeqAt.EqAt A.in1 s u v (e j)):
  ∀j (h1:j<its.toArray.size) (h2:j<its2.toArray.size),SeqAt.EqAt A.in1 s its.toArray[j] its2.toArray[j] (e j):=by
 intro j h1 h2
 have e1:j<xs.length:=by rw [rx.length];simpa using h1
 have e2:j<ys.length:=by rw [ry.length];simpa using h2
 have el:j<l.length:=by rw [←hx.len];exact e1
 have em:j<m.length:=by rw [←hy.len];exact e2
 obtain ⟨x,hx1,hx2⟩:=hx.get (i:=j) (d:=l[j]) (List.getElem?_eq_getElem el)
 obtain ⟨y,hy1,hy2⟩:=hy.get (i:=j) (d:=m[j]) (List.getElem?_eq_getElem em)
 obtain ⟨u,hu,ru⟩:=rx.get hx1
 obtain ⟨v,hv,rv⟩:=ry.get hy1
 have g1:its.toArray[j]=u:=by
  have:its[j]? =some its[j]:=List.getElem?_eq_getElem (by simpa using h1)
  rw [hu] at this
  simpa using (Option.some.inj this).symm
 have g2:its2.toArray[j]=v:=by
  have:its2[j]? =some its2[j]:=List.getElem?_eq_getElem (by simpa using h2)
  rw [hv] at this
  simpa using (Option.some.inj this).symm
 rw [g1,g2]
 exact k (List.getElem?_eq_getElem el) (List.getElem?_eq_getElem em) hx2 hy2 ru rv
theorem zdR (I:Inv X pins σ H s):∀(n:Nat) {A:Around} {d d':D} {x y:V} {u v:Value} {b:Bool},eqG n d d'=some b→A.units+n<cLine→Is X.K H x d→Is X.K H y d'→yA x u→yA y v→SeqAt.EqAt A s u v b:=by
 intro n
 induction n with
 |zero=>
  intro A d d' x y u v b h hu hx hy ru rv
  unfold eqG at h
  split at h
  ·cases h;rw [hx.non_inv] at ru;rw [hy.non_inv] at rv;cases ru;cases rv;exact SeqAt.EqAt.same _
  ·cases h;rw [hx.bl_inv] at ru;rw [hy.bl_inv] at rv;cases ru;cases rv;exact SeqAt.EqAt.bool_bool _ _
  ·cases h;rw [hx.int_inv] at ru;rw [hy.int_inv] at rv;obtain ⟨t,rfl⟩:=ru;obtain ⟨t',rfl⟩:=rv;exact SeqAt.EqAt.int_int _ _ _ _
  ·cases h;rw [hx.str_inv] at ru;rw [hy.str_inv] at rv;obtain ⟨t,rfl⟩:=ru;obtain ⟨t',rfl⟩:=rv;exact SeqAt.EqAt.str_str _ _ _ _
  ·cases h
 |succ n ih=>
  intro A d d' x y u v b h hu hx hy ru rv
  have hself:=fun (e:x=y)=>zhL I (n+1) h hx (e ▸ hy)
  unfold eqG at h
  split at h
  ·cases h;rw [hx.non_inv] at ru;rw [hy.non_inv] at rv;cases ru;cases rv;exact SeqAt.EqAt.same _
  ·cases h;rw [hx.bl_inv] at ru;rw [hy.bl_inv] at rv;cases ru;cases rv;exact SeqAt.EqAt.bool_bool _ _
  ·cases h;rw [hx.int_inv] at ru;rw [hy.int_inv] at rv;obtain ⟨t,rfl⟩:=ru;obtain ⟨t',rfl⟩:=rv;exact SeqAt.EqAt.int_int _ _ _ _
  ·cases h;rw [hx.str_inv] at ru;rw [hy.str_inv] at rv;obtain ⟨t,rfl⟩:=ru;obtain ⟨t',rfl⟩:=rv;exact SeqAt.EqAt.str_str _ _ _ _
  ·rename_i l m
   cases ha:TR (eqG n) l m with
   |none=>rw [ha] at h;cases h
   |some b'=>
    rw [ha] at h
    cases h
    obtain ⟨e,k,rfl⟩:=Vc ha
    obtain ⟨a,xs,rfl,h1,h2⟩:=hx.tup_inv
    obtain ⟨a',ys,rfl,g1,g2⟩:=hy.tup_inv
    cases ru;cases rv
    by_cases hab:a=a'
    ·subst hab;rw [hself rfl];exact SeqAt.EqAt.same _
    ·obtain ⟨its,r1,p1,_⟩:=I.tuple h1
     obtain ⟨its2,r2,p2,_⟩:=I.tuple g1
     refine SeqAt.EqAt.of_refs hab ?_
     have:=SeqAt.RcAt.tuples (A:=A) (e:=e) p1 p2 (by omega) (Vd r1 r2 h2 g2 fun hi hj hx hy ru rv=>ih (A:=A.in1) (k _ _ _ hi hj) (by show A.units+1+n<cLine;omega) hx hy ru rv)
     have s1:its.toArray.size=l.length:=by have e1:=r1.length;have e3:=h2.len;simp;omega
     have s2:its2.toArray.size=m.length:=by have e1:=r2.length;have e3:=g2.len;simp;omega
     rwa [s1,s2] at this
  ·rename_i l m
   obtain ⟨a,xs,rfl,h1,h2⟩:=hx.lst_inv
   obtain ⟨a',ys,rfl,g1,g2⟩:=hy.lst_inv
   cases ru;cases rv
   by_cases hab:a=a'
   ·subst hab;rw [hself rfl];exact SeqAt.EqAt.same _
   ·obtain ⟨its,r1,p1,_⟩:=I.list h1
    obtain ⟨its2,r2,p2,_⟩:=I.list g1
    have s1:its.toArray.size=l.length:=by have e1:=r1.length;have e3:=h2.len;simp;omega
    have s2:its2.toArray.size=m.length:=by have e1:=r2.length;have e3:=g2.len;simp;omega
    refine SeqAt.EqAt.of_refs hab ?_
    split at h
    ·rename_i hlm
     obtain ⟨e,k,rfl⟩:=Vc h
     have:=SeqAt.RcAt.lists (A:=A) (e:=e) p1.isList p2.isList (by omega) (by omega) (Vd r1 r2 h2 g2 fun hi hj hx hy ru rv=>ih (A:=A.in1) (k _ _ _ hi hj) (by show A.units+1+n<cLine;omega) hx hy ru rv)
     rw [s1] at this
     rwa [show min l.length m.length=l.length by omega]
    ·rename_i hlm
     cases h
     exact SeqAt.RcAt.lists_lengths p1.isList p2.isList (by rw [s1,s2];simpa using hlm) (by omega)
  ·cases h
noncomputable def zmN (K:PySem.W.Frag) (neg:Bool):R2:=fun x y H Q=>∃(d e:D) (b:Bool),(∃l m,(d= .tup l∧e= .tup m)∨(d= .lst l∧e= .lst m))∧Is K H x d∧Is K H y e∧eqG 40 d e=some b∧Q (.bl (neg !=b)) H
theorem zln {k:Nat} {K:PySem.W.Frag} (hr:vx k X.A) (hK:X.K=K:=by rfl):OpR X (compareOp .NotEq) (zmN K true):=by
 subst hK
 intro pins s σ H x y v u Q I rx ry h
 obtain ⟨d,e,b,⟨l,m,hd⟩,hx,hy,hb,q⟩:=h
 have hu:X.A.units+41<cLine:=Nat.lt_of_le_of_lt (by omega) hr.units
 rw [show (true !=b)= !b by cases b<;>rfl] at q
 unfold eqG at hb
 rcases hd with ⟨rfl,rfl⟩|⟨rfl,rfl⟩
 ·dsimp only at hb
  cases ha:TR (eqG 39) l m with
  |none=>rw [ha] at hb;cases hb
  |some b'=>
   rw [ha] at hb
   cases hb
   obtain ⟨e,k,rfl⟩:=Vc ha
   obtain ⟨a,xs,rfl,h1,h2⟩:=hx.tup_inv
   obtain ⟨a',ys,rfl,g1,g2⟩:=hy.tup_inv
   cases rx;cases ry
   obtain ⟨its,r1,p1,_⟩:=I.tuple h1
   obtain ⟨its2,r2,p2,_⟩:=I.tuple g1
   have s1:its.toArray.size=l.length:=by have e1:=r1.length;have e3:=h2.len;simp;omega
   have s2:its2.toArray.size=m.length:=by have e1:=r2.length;have e3:=g2.len;simp;omega
   refine SeqAt.RcNeAt.tuples (e:=e) p1 p2 (by omega) (Vd r1 r2 h2 g2 fun hi hj hx hy ru rv=>zdR I 39 (A:=X.A.in1) (k _ _ _ hi hj) (by show X.A.units+1+39<cLine;omega) hx hy ru rv) _ _ _ _ ?_
   rw [s1,s2]
   exact ⟨.bl _,H,I,rfl,q⟩
 ·dsimp only at hb
  obtain ⟨a,xs,rfl,h1,h2⟩:=hx.lst_inv
  obtain ⟨a',ys,rfl,g1,g2⟩:=hy.lst_inv
  cases rx;cases ry
  obtain ⟨its,r1,p1,_⟩:=I.list h1
  obtain ⟨its2,r2,p2,_⟩:=I.list g1
  have s1:its.toArray.size=l.length:=by have e1:=r1.length;have e3:=h2.len;simp;omega
  have s2:its2.toArray.size=m.length:=by have e1:=r2.length;have e3:=g2.len;simp;omega
  split at hb
  ·rename_i hlm
   obtain ⟨e,k,rfl⟩:=Vc hb
   refine SeqAt.RcNeAt.lists (e:=e) p1.isList p2.isList (by omega) (by omega) (Vd r1 r2 h2 g2 fun hi hj hx hy ru rv=>zdR I 39 (A:=X.A.in1) (k _ _ _ hi hj) (by show X.A.units+1+39<cLine;omega) hx hy ru rv) _ _ _ _ ?_
   rw [show min l.length m.length=l.length by omega] at q
   rw [s1]
   exact ⟨.bl _,H,I,rfl,q⟩
  ·rename_i hlm
   cases hb
   refine SeqAt.RcNeAt.lists_lengths p1.isList p2.isList (by rw [s1,s2];simpa using hlm) (by omega) _ _ _ _ ?_
   exact ⟨.bl true,H,I,rfl,q⟩
end
end L2
namespace L2
open PySem PySem.Spec PyProof.Rows PySem.Calls PySem.W
section
variable {cmp:Nat→Nat→(Bool→Shared→Prop)→Shared→Prop} {r:Nat→Int} {n:Nat} {s:Shared}
end
end L2
namespace L2
open PySem PySem.Spec PyProof.Rows PySem.Calls PySem.W
section
variable {prog:Program} {w:World} {A:Around} {E:Value→Shared→Prop} {s:Shared}
end
end L2
namespace L2
open PySem PySem.Spec PyProof.Rows PySem.Calls PySem.W
open PySem.AutoSeq1 (wpAny_loadPart')
open PySem.MeetsSeq PySem.MeetsSeq2 PySem.MeetsSeq3
section
variable {prog:Program} {w:World} {A:Around} {E:Value→Shared→Prop} {s:Shared}
end
section
variable {X:Cx}
end
end L2
namespace L2
open PySem PySem.Spec PyProof.Rows PySem.Calls PySem.W
section
variable {X:Cx} {pins:List (Addr×Obj)} {σ:St} {H:Hp} {s:Shared} {a:Addr} {d:V} {u r:Value} {A:Around} {E:Value→Shared→Prop} {kvs:List (Key×V)} {k:Key}
end
section
variable {X:Cx} {o e f:Expr} {apos cpos:Pos} {td ty tx:TE}
end
end L2
namespace L2
open PySem PySem.Spec PyProof.Rows PySem.Calls PySem.W
open PySem.AutoSeq1 (wpAny_loadPart')
section
variable {prog:Program} {w:World} {A:Around} {E:Value→Shared→Prop} {s:Shared}
end
section
variable {X:Cx}
end
end L2
namespace L2
open PySem PySem.Spec PyProof.Rows PySem.Calls PySem.W
section
variable {prog:Program} {w:World} {A:Around} {E:Value→Shared→Prop} {s:Shared}
end
section
variable {X:Cx}
end
end L2
namespace L2
open PySem PySem.Spec PyProof.Rows PySem.Calls PySem.W
open PySem.AutoSeq1 (wpAny_loadPart')
section
variable {prog:Program} {w:World} {A:Around} {E:Value→Shared→Prop} {s:Shared}
end
section
variable {X:Cx}
end
end L2
namespace L2
open PySem PySem.Spec PyProof.Rows PySem.Calls
mutual
inductive zhM (h:Heap):NK→Value→Prop where
 |int (i:Int) (t:Tok):zhM h (.int i) (.int i t)
 |str (x:Str) (t:Tok):zhM h (.str x) (.str x t)
 |tup {a:Addr} {o:Obj} {items:Array Value} {n:Nat} {l:List NK}:h.get? a=some o→o.cls= .type "tuple"→o.data= .seq items n→zfW h l items.toList→zhM h (.tup l) (.ref a)
inductive zfW (h:Heap):List NK→List Value→Prop where
 |nil:zfW h [] []
 |cons {k:NK} {v:Value} {ks:List NK} {vs:List Value}:zhM h k v→zfW h ks vs→zfW h (k::ks) (v::vs)
end
section
variable {h h':Heap}
end
section
variable {prog:Program} {w:World} {E:Value→Shared→Prop}
end
end L2
namespace L2
open PySem PySem.Spec PyProof.Rows PySem.Calls
mutual
inductive NIs (K:PySem.W.Frag) (H:Hp):V→NK→Prop where
 |int (i:Int):NIs K H (.int i) (.int i)
 |str (x:Str):NIs K H (.str x) (.str x)
 |tup {a:Addr} {vs:List V} {l:List NK}:SqT K H a vs→zjf K H vs l→NIs K H (.ref a) (.tup l)
inductive zjf (K:PySem.W.Frag) (H:Hp):List V→List NK→Prop where
 |nil:zjf K H [] []
 |cons {v:V} {k:NK} {vs:List V} {ks:List NK}:NIs K H v k→zjf K H vs ks→zjf K H (v::vs) (k::ks)
end
section
variable {X:Cx} {pins:List (Addr×Obj)} {σ:St} {H:Hp} {s:Shared}
end
noncomputable abbrev PN:List (NK×Addr×V)→List (NK×Addr×Value)→Prop:=Paired fun (p:NK×Addr×V) (q:NK×Addr×Value)=>p.1=q.1∧p.2.1=q.2.1∧yA p.2.2 q.2.2
section
variable {X:Cx} {pins:List (Addr×Obj)} {σ:St} {H:Hp} {s:Shared} {a:Addr}
end
section
variable {X:Cx} {pins:List (Addr×Obj)} {σ:St} {H:Hp} {s:Shared} {a:Addr} {y v d:V} {u r:Value} {o:Option V} {A:Around} {E:Value→Shared→Prop}
end
section
variable {X:Cx} {o i e f value:Expr} {pos pos' tpos apos cpos:Pos} {td ty tv tx:TE} {K:PySem.W.Frag} {r:Nat}
end
end L2
namespace L2
open PySem PySem.Spec PyProof.Rows PySem.Calls PySem.W
section
variable {prog:Program} {w:World} {A:Around} {E:Value→Shared→Prop} {s:Shared} {d it:Addr} {es:Array DictEntry} {ep i:Nat}
end
end L2
namespace L2
open PySem PySem.Spec PyProof.Rows PySem.Calls PySem.W
noncomputable def ltL:List Int→List Int→Bool
 |[],[]=>false
 |[],_::_=>true
 |_::_,[]=>false
 |a::x,b::y=>if a=b then ltL x y else decide (a<b)
section
variable {prog:Program} {w:World} {A:Around} {E:Value→Shared→Prop} {s:Shared}
end
end L2
namespace L2
open PySem PySem.Spec PyProof.Rows PySem.Calls PySem.W
section
variable {prog:Program} {w:World} {A:Around} {E:Value→Shared→Prop} {s:Shared} {T:String} {r d:Addr} {n:Nat} {P:Nat→Value→Prop} {OK:Heap→Prop} {Q:Value→Shared→Prop}
end
section
variable {X:Cx}
end
end L2
namespace L2
open PySem PySem.Spec PyProof.Rows PySem.Calls
open AutoSeq1 (wpAny_loadPart')
section
variable {prog:Program} {w:World} {A:Around} {E:Value→Shared→Prop} {s:Shared} {it t:Addr} {its:Array Value}
end
section
variable {X:Cx}
end
end L2
namespace L2
open PySem PySem.Spec PyProof.Rows
section
variable {X:Cx}
noncomputable def zj7 (ta:TA):TI:=fun σ H R=>ta σ H fun vs H1=>∃i j c:Int,vs=[.int i,.int j,.int c]∧(c≠0∧c.natAbs<1000000)∧Builtin.Range.small i j c=true∧R (zkO i c (Builtin.Range.rangeSize i j c).toNat) H1
theorem zgI {tg a b c:Expr} {ta:TA} {p pos:Pos} (hg:Gl X "range") (hm:X.mg "range"=none) (ha:PA X [a,b,c] ta) (hs:starEach [a,b,c] X.env=(false,eval a X.env)::starEach [b,c] X.env:=by rfl)
  (hs2:(backTo pos (starEach [b,c] X.env)).any (·.1)=false:=by rfl):
  PI X tg (.Call (.Name "range" p) [a,b,c] [] pos) (zj7 ta):=by
 intro pins s σ H R I h
 refine Call_ (Xm I hg hm boot_range (PyProof.Rows.callWith_type1 (thn (ha pos pins s σ H _ I h) ?_) hs hs2))
 rintro us s1 ⟨vs,H1,I1,r1,q1⟩
 obtain ⟨i,j,c,e,⟨c0,c1⟩,sm,q⟩:=q1
 subst e
 cases r1 with
 |cons r rr=>
  cases rr with
  |cons r' rr=>
   cases rr with
   |cons r'' rr=>
    cases rr
    obtain ⟨t,rfl⟩:=r
    obtain ⟨t',rfl⟩:=r'
    obtain ⟨t'',rfl⟩:=r''
    refine call_range_3 c0 ?_ (.inl (PyProof.noPylong_small (by omega)))
    refine wpAny_pyIter_range (IsRange.new ..) sm ?_
    have I2:Inv X pins σ H1 {s1 with heap:=s1.heap.push {cls:= .type "range",data:= .fields #[.int i t,.int j t',.int c t'']},toks:=s1.toks}:=I1.kept fun b o e=>Heap.get?_push_of_some _ e
    refine ⟨(s1.heap.push {cls:= .type "range",data:= .fields #[.int i t,.int j t',.int c t'']}).objs.size,[(s1.heap.push {cls:= .type "range",data:= .fields #[.int i t,.int j t',.int c t'']}).objs.size],_,_,H1,rfl,
     I2.kept (t':=s1.toks) fun b o e=>Heap.get?_push_of_some _ e,zdC _ i c (Builtin.Range.rangeSize i j c).toNat,?_,fun b hb=> ?_,q⟩
    ·have e1:i+((0:Nat):Int)*c=i:=by simp
     have nn:0≤Builtin.Range.rangeSize i j c:=by
      unfold Builtin.Range.rangeSize
      split
      ·split
       ·have:=Int.ediv_nonneg (a:=j-i-1) (b:=c) (by omega) (by omega)
        omega
       ·omega
      ·split
       ·have:=Int.ediv_nonneg (a:=i-j-1) (b:= -c) (by omega) (by omega)
        omega
       ·omega
     have e2:(((Builtin.Range.rangeSize i j c).toNat:Nat):Int)-((0:Nat):Int)=Builtin.Range.rangeSize i j c:=by omega
     show IsRangeIter _ _ (i+((0:Nat):Int)*c) ((((Builtin.Range.rangeSize i j c).toNat:Nat):Int)-((0:Nat):Int)) c
     rw [e1,e2]
     exact Heap.get?_push_size _ rfl
    ·have e:b=(s1.heap.push {cls:= .type "range",data:= .fields #[.int i t,.int j t',.int c t'']}).objs.size:=by simpa using hb
     subst e
     exact I2.fpOk (Nat.le_refl _) (I2.hok.fresh (Nat.le_refl _))
end
end L2
namespace L2
open PySem PySem.Spec PyProof.Rows PySem.Calls PySem.W
section
variable {cmp:Nat→Nat→(Bool→Shared→Prop)→Shared→Prop} {r:Nat→Int} {n:Nat} {s:Shared}
end
section
variable {prog:Program} {w:World} {A:Around} {E:Value→Shared→Prop} {κ:SortKind} {it:Array Keyed} {s:Shared}
end
end L2
namespace L2
open PySem PySem.Spec PyProof.Rows PySem.Calls PySem.W
section
variable {X:Cx} {pins:List (Addr×Obj)} {σ:St} {H:Hp} {s:Shared} {h':Heap}
end
noncomputable def zmO (is:List (List Int)):Prop:=(2≤is.length→∀l∈is,l≠[])∧∀i j,i<j→j<is.length→ltL (is.getD j []) (is.getD i [])=true
section
variable {X:Cx} {k:Nat} {f:Addr} {fd:FuncData} {ps:List Str} {sp:Sp} {pins:List (Addr×Obj)} {σ:St} {H:Hp} {s:Shared}
end
section
variable {X:Cx}
end
end L2
namespace L2
open PySem PySem.Spec PyProof.Rows PySem.Calls PySem.W
section
variable {X:Cx}
end
end L2
namespace L2
open PySem PySem.Spec PyProof.Rows
namespace Sm
noncomputable def inB (b j:Nat):Bool:=b.testBit j
noncomputable def plL (b:Nat):List Nat:=(List.range 8).filter (inB b)
noncomputable def pl (b:Nat):Array Nat:=(plL b).toArray
noncomputable def st (h:Int):Nat→Nat×Nat
 |0=>(SetTable.bits h % 8,SetTable.bits h)
 |n+1=>SetTable.leap 7 (st h n).1 (st h n).2
noncomputable def pos (h:Int) (n:Nat):Nat:=(st h n).1
noncomputable def mkP (s:Nat×Nat):SetTable.Probe:={j:=s.1,more:=0,i:=s.1,perturb:=s.2,dummy:=none}
structure Tb (t:SetTable) (b:Nat):Prop where
 mask:t.mask=7
 place:t.place=pl b
 dum:t.dummies= #[]
noncomputable def ix (b j:Nat):Nat:=((List.range j).filter (inB b)).length
inductive zj8 (f:Nat→Int) (b:Nat) (x:Int) (n:Nat):SetTable.Met→Prop
 |empty (m:Nat):n≤m→inB b (pos x m)=false→(∀k,n≤k→k<m→inB b (pos x k)=true∧f (pos x k)≠x)→zj8 f b x n (.empty (pos x m) none)
 |cand (m:Nat):n≤m→inB b (pos x m)=true→f (pos x m)=x→(∀k,n≤k→k<m→inB b (pos x k)=true∧f (pos x k)≠x)→zj8 f b x n (.candidate (pos x m) (ix b (pos x m)) (mkP (st x (m+1))))
noncomputable def zmP (b:Nat) (f:Nat→Int):Prop:=∀j<8,inB b j=true→∃n,pos (f j) n=j∧∀m,m<n→inB b (pos (f j) m)=true
end Sm
end L2
namespace L2
open PySem PySem.Spec PyProof.Rows PySem.Calls PySem.W
section
variable {prog:Program} {w:World} {E:Value→Shared→Prop}
structure zno (w:World) (h:Heap) (a:Addr) (b:Nat) (f:Nat→Int×Value) (kf:Nat→NK) (o:Obj) (ep:Nat) (t:SetTable):Prop where
 get:h.get? a=some o
 ex:o.ExactSet
 data:o.data= .set ((Sm.pl b).map f) ep t
 tb:Sm.Tb t b
 plain:t.plain=true
 lt:b<256
 few:(Sm.plL b).length≤4
 chain:Sm.zmP b fun j=>(f j).1
 keys:∀j<8,Sm.inB b j=true→(f j).1=zg2 w (kf j)∧(∃c,(f j).2= .ref c∧zhM h (kf j) (.ref c))∧ziy (kf j)≤8
 inj:∀i<8,∀j<8,Sm.inB b i=true→Sm.inB b j=true→kf i=kf j→i=j
variable {a:Addr} {b:Nat} {f:Nat→Int×Value} {kf:Nat→NK} {o:Obj} {ep:Nat} {t:SetTable} {A:Around} {s:Shared}
end
end L2
namespace L2
open PySem PySem.Spec PyProof.Rows PySem.Calls PySem.W
section
variable {h h':Heap}
end
section
variable {prog:Program} {w:World} {E:Value→Shared→Prop}
variable {a:Addr} {b:Nat} {f:Nat→Int×Value} {kf:Nat→NK} {o:Obj} {ep:Nat} {t:SetTable} {A:Around} {s:Shared}
end
end L2
namespace L2
open PySem PySem.Spec PyProof.Rows PySem.Calls PySem.W
section
variable {h h':Heap}
end
section
variable {prog:Program} {w:World}
variable {A:Around} {R:Result→Shared→Prop} {I:Addr} {fp wr:List Addr} {G:Array GenState→Array GenState→Prop} {n:Nat} {P:Nat→Value→Prop} {St:Nat→Shared→Prop}
end
end L2
namespace L2
open PySem PySem.Spec PyProof.Rows PySem.Calls PySem.W
section
variable {prog:Program} {w:World} {A:Around} {E:Value→Shared→Prop} {s:Shared}
noncomputable def zbr (w:World):Bool:= !w.params.followText "set-order"
noncomputable def zcL (led:Bool):Obj:={cls:= .type "set",dict:=none,data:= .set #[] 0 (.fresh 0 0 led)}
theorem zlo (x:Value) {Q₁:Value→Shared→Prop} (h:Q₁ (.ref s.heap.objs.size) {s with heap:=s.heap.push (zcL (zbr w))}):
  codeAny (model prog w) A (.call (.builtin "set.__new__") ⟨[.type "set",x],[]⟩) (wants Q₁ E) s:=by
 refine codeAny_of_tree ?_
 show wpAny _ A.in1 (do checkBuiltinCall "set.__new__" ⟨[.type "set",x],[]⟩;again (.builtin "set.__new__" ⟨[.type "set",x],[]⟩)) _ _ s
 refine wpAny_bind (wpAny_of_eq (F.newCall_set_1 x) (wpAny_pure ⟨plainId_quiet F.plain_set_new _,codeAny_builtin F.entry_set_new ?_⟩))
 rw [Around.under_plainId F.plain_set_new _]
 unfold Builtin.«set.__new__» Builtin.Frozenset.newClass
 have hsub:=sub_set_self
 obtain ⟨hp,g,d,tk,os⟩:=s
 dsimp only
 wp_walk
 refine wpAny_askSetting (wpAny_pure ?_)
 dsimp only
 simp only [newObj]
 exact wpAny_bind (wpAny_alloc (wpAny_pure (wpAny_pure h)))
end
end L2
set_option maxHeartbeats 3200000
namespace L2
open PySem PySem.Spec PyProof.Rows PySem.Calls PySem.W
section
variable {prog:Program} {w:World} {A:Around} {E:Value→Shared→Prop} {s:Shared}
end
end L2
namespace L2
open PySem PySem.Spec PyProof.Rows PySem.Calls PySem.W
structure znp (h:Heap) (a:Addr) (b:Nat) (f:Nat→Int×Value) (o:Obj) (ep:Nat) (t:SetTable):Prop where
 get:h.get? a=some o
 ex:o.ExactSet
 data:o.data= .set ((Sm.pl b).map f) ep t
 tb:Sm.Tb t b
 plain:t.plain=true
 lt:b<256
 few:(Sm.plL b).length≤4
section
variable {prog:Program} {w:World} {A:Around} {E:Value→Shared→Prop} {s:Shared} {d it:Addr}
variable {b:Nat} {f:Nat→Int×Value} {o:Obj} {ep:Nat} {t:SetTable}
end
end L2
namespace L2
open PySem PySem.Spec PyProof.Rows PySem.Calls PySem.W
section
variable {prog:Program} {w:World} {A:Around} {E:Value→Shared→Prop} {s:Shared} {d it:Addr}
variable {b:Nat} {f:Nat→Int×Value} {o:Obj} {ep:Nat} {t:SetTable} {i:Nat}
end
end L2
namespace L2
open PySem PySem.Spec PyProof.Rows PySem.Calls PySem.W
mutual
noncomputable def cp:NK→NK→Bool
 | .int _,.int _=>true
 | .tup x,.tup y=>cpL x y
 |_,_=>false
noncomputable def cpL:List NK→List NK→Bool
 |a::x,b::y=>cp a b&&cpL x y
 |_,_=>true
end
end L2
namespace L2
open PySem PySem.Spec PyProof.Rows PySem.Calls PySem.W
section
open PySem.SeqAt
open PySem.AutoSeq1 (wpAny_loadPart')
open PySem.MeetsSeq PySem.MeetsSeq2 PySem.MeetsSeq3
variable {prog:Program} {w:World} {E:Value→Shared→Prop}
end
end L2
namespace L2
open PySem PySem.Spec PyProof.Rows PySem.Calls PySem.W
section
variable {prog:Program} {w:World} {A:Around} {E:Value→Shared→Prop} {s:Shared}
noncomputable def zlp (b:Bool):NK→Prop
 | .tup (.tup _::_)=>b=false
 | .tup (.int _::_)=>b=true
 |_=>False
end
end L2
namespace L2
open PySem PySem.Spec PyProof.Rows PySem.Calls PySem.W
section
variable {prog:Program} {w:World} {A:Around} {E:Value→Shared→Prop} {s:Shared}
end
end L2
namespace L2
open PySem PySem.Spec PyProof.Rows PySem.Calls PySem.W
structure KOk (b:Bool) (ks:List NK):Prop where
 cmp:∀x∈ks,∀y∈ks,cp x y=true
 dep:∀k∈ks,ziy k≤8
 fst:∀k∈ks,zlp b k
section
variable {X:Cx}
end
end L2
namespace L2
open PySem PySem.Spec PyProof.Rows PySem.Calls PySem.W
section
variable {X:Cx}
end
end L2
namespace L2
open PySem PySem.Spec PyProof.Rows PySem.Calls PySem.W
section
variable {prog:Program} {w:World} {A:Around} {E:Value→Shared→Prop} {s:Shared}
end
section
variable {X:Cx}
end
end L2
namespace L2
open PySem PySem.Spec PyProof.Rows PySem.Calls PySem.W
section
variable {X:Cx} {pins:List (Addr×Obj)} {σ:St} {H:Hp} {s:Shared}
end
section
variable {X:Cx}
end
end L2
namespace L2
open PySem PySem.Spec PyProof.Rows PySem.Calls PySem.W
section
variable {prog:Program} {w:World} {A:Around} {E:Value→Shared→Prop} {s:Shared}
end
section
variable {X:Cx} {pins:List (Addr×Obj)} {σ:St} {H H':Hp} {s:Shared} {h':Heap}
end
section
variable {X:Cx}
inductive ze4 (H:Hp):List Addr→List (Int×V)→Prop
 |nil:ze4 H [] []
 |cons {p:Addr} {x:Int×V} {ps:List Addr} {xs:List (Int×V)}:H p=some (.tup [.int x.1,x.2])→ze4 H ps xs→ze4 H (p::ps) (x::xs)
end
end L2
namespace L2
open PySem PySem.Spec PyProof.Rows PySem.Calls PySem.W
section
variable {X:Cx}
noncomputable def zmQ (ns:List Int):Int:=ns.foldl (fun a b=>if b>a then b else a) (ns.headD 0)
theorem zhN (ns:List Int):∀k,k<ns.length→ns.getD (argBest (fun i j=>decide (ns.getD i 0>ns.getD j 0)) k) 0=(ns.take (k+1)).foldl (fun a b=>if b>a then b else a) (ns.headD 0)∧argBest (fun i j=>decide (ns.getD i 0>ns.getD j 0)) k≤k:=by
 intro k
 induction k with
 |zero=>
  intro h
  cases ns with
  |nil=>simp at h
  |cons a r=>simp [argBest]
 |succ k ih=>
  intro h
  obtain ⟨h1,h2⟩:=ih (by omega)
  have hg:ns[k+1]? =some (ns.getD (k+1) 0):=by rw [List.getD_eq_getElem?_getD,List.getElem?_eq_getElem h];rfl
  obtain ⟨hi,e⟩:=List.getElem?_eq_some_iff.1 hg
  rw [List.take_succ_eq_append_getElem hi,e,List.foldl_append,←h1]
  have hb:∀f:Nat→Nat→Bool,argBest f (k+1)=if f (k+1) (argBest f k)=true then k+1 else argBest f k:=fun f=>rfl
  rw [hb,List.foldl_cons,List.foldl_nil]
  by_cases q:ns.getD (k+1) 0>ns.getD (argBest (fun i j=>decide (ns.getD i 0>ns.getD j 0)) k) 0
  ·rw [if_pos (decide_eq_true q),if_pos q]
   exact ⟨rfl,Nat.le_refl _⟩
  ·rw [if_neg (by rw [decide_eq_false q];decide),if_neg q]
   exact ⟨rfl,by omega⟩
end
end L2
namespace L2
open PySem PySem.Spec PyProof.Rows PySem.Calls PySem.W
open PySem.AutoSeq1 (wpAny_loadPart')
open PySem.MeetsSeq PySem.MeetsSeq2 PySem.MeetsSeq3
section
variable {prog:Program} {w:World} {E:Value→Shared→Prop}
end
section
variable {X:Cx}
end
end L2
namespace L2
open PySem PySem.Spec PyProof.Rows PySem.Calls
noncomputable def Its (x:Str):It:=⟨fun i _=>∃c,x.cps[i]? =some c,fun i H v H'=>H'=H∧∃c,x.cps[i]? =some c∧v= .str ⟨#[c]⟩,fun i _=>x.cps[i]? =none⟩
theorem zhO {P:Program} {w:World} {K:PySem.W.Frag} {tg:Expr} (x:Str) (t:Tok) (it:Addr):zex P w K tg (Its x) [it] it (fun i h=>h.IsStrIter it "str_ascii_iterator" x t i) where
 mem:=by simp
 obj:=fun i h st b hb=>by
  have e:b=it:=by simpa using hb
  subst e
  obtain ⟨o,e,c,d⟩:=st
  exact ⟨o,e,fun v z=>by rw [d] at z;cases z⟩
 keep:=fun i h h' st k=>by
  obtain ⟨o,e,c,d⟩:=st
  exact ⟨o,k it (by simp) o e,c,d⟩
 item:=by
  intro X hP hw hK hc i pins s σ H E I hf st hg
  subst hP hw hK
  obtain ⟨c,hx⟩:=hg
  obtain ⟨f0,f1,f2,f3,f4,f5⟩:=hf it (by simp)
  refine wpAny_pyNext_ascii_item st hx fun h' st' sb=> ?_
  have I1:Inv X pins σ H {s with heap:=h',toks:=s.toks+1}:=I.turned (fun b o hb e=>(sb.2 b hb).trans e) f0 f1 f3 f4 f5
  obtain ⟨o,e,c',d⟩:=id st'
  exact ⟨_,rfl,zdk (s:={s with heap:=h',toks:=s.toks+1}) e c' d (by decide) ⟨.str ⟨#[c]⟩,H,I1,⟨_,rfl⟩,⟨rfl,c,hx,rfl⟩,st',fun b hb=>(hf b hb).1⟩⟩
 done:=by
  intro X hP hw hK hc i pins s σ H E I hf st hg
  subst hP hw hK
  obtain ⟨f0,f1,f2,f3,f4,f5⟩:=hf it (by simp)
  exact wpAny_pyNext_ascii_end (I.ok.hd hc) st hg fun h' eb=>⟨rfl,I.turned (t':=s.toks) (fun b o hb e=>eb b o hb e) f0 f1 f3 f4 f5⟩
 self:=fun _ _ _ _ _ st h=>wpAny_pyIter_striter_ascii st h
section
variable {X:Cx} {tg:Expr}
noncomputable def zmR (tl:TE):TI:=fun σ H R=>tl σ H fun x H1=>∃y,x= .str y∧y.cps.all (· <128)=true∧R (Its y) H1
theorem zlq {l:Expr} {tl:TE} (hl:PE X l tl):PI X tg l (zmR tl):=by
 intro pins s σ H R I h
 refine thn (hl pins s σ H _ I h) ?_
 rintro v s1 ⟨x,H1,I1,r1,y,rfl,ha,q⟩
 obtain ⟨t,rfl⟩:=r1
 refine wpAny_pyIter_ascii ha ?_
 refine ⟨s1.heap.objs.size,[s1.heap.objs.size],_,_,H1,rfl,I1.kept (t':=s1.toks) fun b o e=>Heap.get?_push_of_some _ e,zhO y t _,⟨_,Heap.get?_push_size _ rfl,rfl,rfl⟩,fun b hb=> ?_,q⟩
 have e:b=s1.heap.objs.size:=by simpa using hb
 subst e
 exact I1.fpOk (Nat.le_refl _) (I1.hok.fresh (Nat.le_refl _))
end
end L2
namespace L2
open PySem PySem.Spec PyProof.Rows PySem.Calls
section
variable {prog:Program} {w:World} {A:Around} {I:Addr} {fp wr:List Addr} {G:Array GenState→Array GenState→Prop} {n:Nat} {P:Nat→Value→Prop} {St:Nat→Shared→Prop} {R:Result→Shared→Prop}
theorem Up:(toString "max"++toString ".loop":String)="max.loop":=by decide
noncomputable abbrev zjg (xs:Array Value) (c:Nat):Obj:={cls:= .type "list",dict:=none,data:= .seq xs c,slots:= #[]}
noncomputable abbrev zlr (I S:Addr) (d:Value):Code:= .builtin "max.loop" ⟨[.ref I,.none,.ref S],[("default",d)]⟩
theorem zhP (W:WalksS prog w A.in1 I fp wr G n P St) (bt:Nat→Nat→Bool) (cmp:CmpOf prog w A.in1 .Gt P bt) (S:Addr) (nf:S∉fp) (d:Value):∀(k j:Nat) (s:Shared) (u:Value) (c:Nat),n-(j+1)=k→j+1≤n→St (j+1) s→P (argBest bt j) u→
  s.heap.get? S=some (zjg #[u,u] c)→(∀v s',P (argBest bt (n-1)) v→Moved (S::wr) G s s'→R (.ok (.ret v)) s')→codeAny (model prog w) A (zlr I S d) R s:=by
 have nw:S∉wr:=fun q=>nf (W.sub _ q)
 have up:∀b∈wr,b∈S::wr:=fun b q=> .tail _ q
 have ns:∀{b:Addr},b∉S::wr→S≠b:=fun q e=>q (e ▸ .head _)
 intro k
 induction k with
 |zero=>
  intro j s u c hk hj st hu hS fin
  have hn:j+1=n:=by omega
  refine codeAny_builtin F.entry_max_loop (by
   rw [Around.under_plainId F.plain_max_loop _]
   refine wpAny_bind (m:=seqItems? (.ref S)) (wpAny_seqItems hS rfl (wpAny_bind (m:=tryCatch (pyNext (.ref I)) _) (wpAny_tryCatch (W.done s _ _ (hn ▸ st) fun s' mv=> ?_))))
   refine wpAny_bind (m:=updateSeq S (fun _=> #[])) (wpAny_updateSeq (mv.heap S _ nw hS) rfl (wpAny_bind (wpAny_letGo (wpAny_pure ?_))))
   exact fin u _ (by rw [←hn];exact hu) ((mv.mono up).then_heap (tk:=s'.toks) (Nat.le_refl _) fun b o q e=>(Heap.get?_update_other _ _ (ns q)).trans e))
 |succ k ih=>
  intro j s u c hk hj st hu hS fin
  have lt:j+1<n:=by omega
  refine codeAny_builtin F.entry_max_loop (by
   rw [Around.under_plainId F.plain_max_loop _]
   refine wpAny_bind (m:=seqItems? (.ref S)) (wpAny_seqItems hS rfl (wpAny_bind (m:=tryCatch (pyNext (.ref I)) _) (wpAny_tryCatch (W.item (j+1) s _ _ lt st fun v s' hv st' mv=> ?_))))
   have hS2:=mv.heap S _ nw hS
   refine wpAny_bind (m:=tryCatch (holding [v,v] (richCompare .Gt v u>>=_)) _) (wpAny_tryCatch (wpAny_holding (wpAny_bind (cmp (j+1) (argBest bt j) v u _ _ _ hv hu (wpAny_bind (wpAny_holding (wpAny_truthy_bool (wpAny_bind (wpAny_letGo (wpAny_pure ?_)))))))))) 
   cases hb:bt (j+1) (argBest bt j) with
   |true=>
    rw [if_pos rfl]
    refine wpAny_bind (wpAny_updateSeq hS2 rfl (wpAny_bind (wpAny_letGo (by
     rw [Up]
     refine wpAny_pure ⟨plainId_quiet F.plain_max_loop _,ih (j+1) _ v _ (by omega) lt (W.frame _ s' _ s'.toks st' (Nat.le_refl _) fun b q o e=>(Heap.get?_update_other _ _ fun z:S=b=>nf (z ▸ q)).trans e) ?_ (Heap.get?_update_self _ hS2 rfl) fun v' s'' h1 h2=> ?_⟩
     ·show P (if bt (j+1) (argBest bt j) then j+1 else argBest bt j) v
      rw [if_pos hb];exact hv
     ·exact fin v' s'' h1 (Moved.trans W.gtrans ((mv.mono up).then_heap (Nat.le_refl _) fun b o q e=>(Heap.get?_update_other _ _ (ns q)).trans e) h2)))))
   |false=>
    rw [if_neg (by decide)]
    refine wpAny_bind (wpAny_letGo (by
     rw [Up]
     refine wpAny_pure ⟨plainId_quiet F.plain_max_loop _,ih (j+1) _ u c (by omega) lt st' ?_ hS2 fun v' s'' h1 h2=>fin v' s'' h1 (Moved.trans W.gtrans (mv.mono up) h2)⟩
     show P (if bt (j+1) (argBest bt j) then j+1 else argBest bt j) u
     rw [hb];exact hu)))
theorem zgJ (W:WalksS prog w A.in1 I fp wr G n P St) (bt:Nat→Nat→Bool) (cmp:CmpOf prog w A.in1 .Gt P bt) (S:Addr) (nf:S∉fp) (d:Value) (hn:0<n) {s:Shared} {c:Nat} (st:St 0 s) (hS:s.heap.get? S=some (zjg #[] c))
  (fin:∀v s',P (argBest bt (n-1)) v→Moved (S::wr) G s s'→R (.ok (.ret v)) s'):codeAny (model prog w) A (zlr I S d) R s:=by
 have nw:S∉wr:=fun q=>nf (W.sub _ q)
 have up:∀b∈wr,b∈S::wr:=fun b q=> .tail _ q
 have ns:∀{b:Addr},b∉S::wr→S≠b:=fun q e=>q (e ▸ .head _)
 refine codeAny_builtin F.entry_max_loop (by
  rw [Around.under_plainId F.plain_max_loop _]
  refine wpAny_bind (m:=seqItems? (.ref S)) (wpAny_seqItems hS rfl (wpAny_bind (m:=tryCatch (pyNext (.ref I)) _) (wpAny_tryCatch (W.item 0 s _ _ hn st fun v s' hv st' mv=> ?_))))
  have hS2:=mv.heap S _ nw hS
  refine wpAny_bind (m:=updateSeq S (fun _=> #[v,v])) (wpAny_updateSeq hS2 rfl (by
   rw [Up]
   refine wpAny_pure ⟨plainId_quiet F.plain_max_loop _,zhP W bt cmp S nf d _ 0 _ v _ rfl hn (W.frame _ s' _ s'.toks st' (Nat.le_refl _) fun b q o e=>(Heap.get?_update_other _ _ fun z:S=b=>nf (z ▸ q)).trans e) hv (Heap.get?_update_self _ hS2 rfl) fun v' s'' h1 h2=> ?_⟩
   exact fin v' s'' h1 (Moved.trans W.gtrans ((mv.mono up).then_heap (Nat.le_refl _) fun b o q e=>(Heap.get?_update_other _ _ (ns q)).trans e) h2))))
theorem zhQ (W:WalksS prog w A.in1 I fp wr G n P St) (S:Addr) (nf:S∉fp) (d:Value) (hn:n=0) {s:Shared} {c:Nat} (st:St 0 s) (hS:s.heap.get? S=some (zjg #[] c))
  (fin:∀s',Moved (S::wr) G s s'→R (.ok (.ret d)) s'):codeAny (model prog w) A (zlr I S d) R s:=by
 have up:∀b∈wr,b∈S::wr:=fun b q=> .tail _ q
 subst hn
 refine codeAny_builtin F.entry_max_loop (by
  rw [Around.under_plainId F.plain_max_loop _]
  refine wpAny_bind (m:=seqItems? (.ref S)) (wpAny_seqItems hS rfl (wpAny_bind (m:=tryCatch (pyNext (.ref I)) _) (wpAny_tryCatch (W.done s _ _ st fun s' mv=> ?_))))
  exact wpAny_bind (wpAny_rule (wpAny_pure (fin s' (mv.mono up)))))
variable {E:Value→Shared→Prop} {s:Shared}
theorem zhR {id:String} {b:Builtin} {xs:List Value} {kw:List (Str×Value)} {Q:Value→Shared→Prop} (e1:builtinKind id=none) (e2:plainId id=true) (e3:entryFor table id=some b) (e4:argsOk id ⟨xs,kw⟩)
  (h:wpAny (model prog w) A.in1 (b ⟨xs,kw⟩) (fun fin s'=>match fin with
   | .done f=>(match (Except.ok f:Result) with| .ok (.ret v)=>Q v s'| .ok _=>False| .error e=>E e s')
   | .again c'=>c'.quiet=true∧codeAny (model prog w) A c' (fun r s'=>match r with| .ok (.ret v)=>Q v s'| .ok _=>False| .error e=>E e s') s') E s):wpAny (model prog w) A (call (.builtin id) xs kw) Q E s:=by
 refine wpAny_call (codeAny_call_builtin e2 e3 (by
  simp only [checkBuiltinCall,e1]
  cases hs:Manifest.signature? id with
  |none=>exact wpAny_pure h
  |some sig=>
   have e5:Bind.checkArgs id sig ⟨xs,kw⟩=pure ():=by simpa only [argsOk,hs] using e4
   simp only [e5]
   exact wpAny_pure h))
theorem zhS {x d:Value} {Q:Value→Shared→Prop}
  (h:wpAny (model prog w) A.in1 (pyIter x) (fun it s₂=>∃I fp wr G n P St bt,it= .ref I∧WalksS prog w A.in1 I fp wr G n P St∧St 0 s₂∧(∀b∈fp,b<s₂.heap.objs.size)∧CmpOf prog w A.in1 .Gt P bt∧
   (∀v s',0<n→P (argBest bt (n-1)) v→Moved wr G s₂ s'→Q v s')∧(∀s',n=0→Moved wr G s₂ s'→Q d s')) E s):wpAny (model prog w) A (call (.builtin "max") [x] [("default",d)]) Q E s:=by
 refine zhR F.kind_max F.plain_max F.entry_max (by unfold argsOk;kernel_rfl) (wpAny_bind (m:=Builtin.Builtins.bindParams "max" ["key","default"] 0 ⟨[],[("default",d)]⟩) (wpAny_of_eq (a:=[none,some d]) rfl (wpAny_bind (wpAny_pure (wpAny_bind (wpAny_mono h (fun it s₂ h₂=> ?_) fun _ _ e=>e))))))
 obtain ⟨I,fp,wr,G,n,P,St,bt,rfl,W,st,hfp,cmp,q1,q2⟩:=h₂
 refine wpAny_bind (wpAny_newObj_type ?_)
 have nf:s₂.heap.objs.size∉fp:=fun hm=>Nat.lt_irrefl _ (hfp _ hm)
 rw [Up]
 have st2:=W.frame 0 s₂ (s₂.heap.push (zjg #[] 0)) s₂.toks st (Nat.le_refl _) fun b _ o e=>Heap.get?_push_of_some _ e
 refine wpAny_pure ⟨plainId_quiet F.plain_max_loop _,?_⟩
 rcases Nat.eq_zero_or_pos n with hn|hn
 ·exact zhQ W _ nf d hn st2 (Heap.get?_push_size _ rfl) fun s' mv=>q2 s' hn (Moved.drop_new (tk:=s₂.toks) mv (Nat.le_refl _))
 ·exact zgJ W bt cmp _ nf d hn st2 (Heap.get?_push_size _ rfl) fun v s' hP mv=>q1 v s' hn hP (Moved.drop_new (tk:=s₂.toks) mv (Nat.le_refl _))
end
noncomputable def zcM (k:Int) (ns:List Int):Int:=if ns=[] then k else zmQ ns
noncomputable def zhT (K:PySem.W.Frag) (k:Int):V→Hp→VK→Prop:=fun x H1 Q=>∃(p:Addr) (ns:List Int),x= .ref p∧SqL K H1 p (ns.map V.int)∧Q (.int (zcM k ns)) H1
noncomputable def zj9 (K:PySem.W.Frag) (k:Int) (te:TE):TE:=fun σ H Q=>te σ H fun x H1=>zhT K k x H1 Q
section
variable {X:Cx}
theorem zjh {K:PySem.W.Frag} (hK:X.K=K) (hc:X.calm=true) {k:Int} {pins:List (Addr×Obj)} {s:Shared} {σ:St} {H:Hp} {Q:VK} {x:V} {u:Value} {t:Tok} (I:Inv X pins σ H s) (ru:yA x u) (h:zhT K k x H Q):
  wpAny (model X.prog X.w) X.A (call (.builtin "max") [u] [("default",.int k t)]) (EP X pins σ Q) X.xe s:=by
 subst hK
 obtain ⟨p,ns,rfl,hq,q⟩:=h
 cases ru
 obtain ⟨its,rv,pl,hz⟩:=I.list hq
 have lt:p<s.heap.objs.size:=by
  obtain ⟨o,n,e,_⟩:=id pl
  exact Heap.lt_size e
 have hl:ns.length=its.length:=by rw [←rv.length,List.length_map]
 have wf:∀(i:Nat) (v:Value),its.toArray[i]? =some v→i<ns.length∧∃t,v=Value.int (ns.getD i 0) t:=fun i v hv=>by
  have hv:its[i]? =some v:=by simpa using hv
  have hi:i<ns.length:=by rw [hl];exact (List.getElem?_eq_some_iff.1 hv).1
  obtain ⟨u,hu,t,ru⟩:=rv.get (i:=i) (x:=V.int ns[i]) (by rw [List.getElem?_map,List.getElem?_eq_getElem hi];rfl)
  rw [hu] at hv
  cases hv
  exact ⟨hi,t,by rw [ru,List.getD_eq_getElem?_getD,List.getElem?_eq_getElem hi];rfl⟩
 have W:=(Walks.list (prog:=X.prog) (w:=X.w) (A:=X.A.in1) (I.ok.hd hc) s.heap.objs.size p (Nat.ne_of_lt lt) its.toArray).toS
 refine zhS (wpAny_pyIter_list pl.isList ⟨s.heap.objs.size,_,_,_,_,_,_,fun i j=>decide (ns.getD i 0>ns.getD j 0),rfl,W,⟨⟨_,Heap.get?_push_size _ rfl,rfl,rfl⟩,Heap.IsList.push pl.isList _⟩,fun b hb=> ?_,CmpOf.ints_gt (fun i=>ns.getD i 0) (fun i v hv=>(wf i v hv).2),fun v s' hn hv m=> ?_,fun s' hn m=> ?_⟩)
 ·rw [Heap.size_push]
  rcases (by simpa using hb:b=s.heap.objs.size∨b=p) with rfl|rfl
  ·exact Nat.lt_succ_self _
  ·exact Nat.lt_succ_of_lt lt
 ·have I1:Inv X pins σ H {s with heap:=s'.heap,toks:=s'.toks}:=I.kept fun b o e=>m.heap b o (fun z=>by
   have z:b=s.heap.objs.size:=by simpa using z
   exact absurd (Heap.lt_size e) (by rw [z];exact Nat.lt_irrefl _)) (Heap.get?_push_of_some _ e)
  have e:({s with heap:=s'.heap,toks:=s'.toks}:Shared)=s':=by
   have h1:=m.gens
   have h2:=m.drawn
   have h3:=m.os
   cases s'
   simp only at h1 h2 h3
   subst h1 h2 h3
   rfl
  rw [e] at I1
  obtain ⟨_,t,rfl⟩:=wf _ v hv
  rw [List.size_toArray] at hn
  have hne:ns≠[]:=fun z=>by rw [z] at hl;simp at hl;omega
  refine ⟨.int (zcM k ns),H,I1,⟨t,?_⟩,q⟩
  have:=(zhN ns (ns.length-1) (by omega)).1
  rw [show ns.length-1+1=ns.length by omega,List.take_length] at this
  unfold zcM
  rw [List.size_toArray,←hl,this,if_neg hne]
  rfl
 ·have I1:Inv X pins σ H {s with heap:=s'.heap,toks:=s'.toks}:=I.kept fun b o e=>m.heap b o (fun z=>by
   have z:b=s.heap.objs.size:=by simpa using z
   exact absurd (Heap.lt_size e) (by rw [z];exact Nat.lt_irrefl _)) (Heap.get?_push_of_some _ e)
  have e:({s with heap:=s'.heap,toks:=s'.toks}:Shared)=s':=by
   have h1:=m.gens
   have h2:=m.drawn
   have h3:=m.os
   cases s'
   simp only at h1 h2 h3
   subst h1 h2 h3
   rfl
  rw [e] at I1
  rw [List.size_toArray] at hn
  have hne:ns=[]:=List.length_eq_zero_iff.1 (by omega)
  refine ⟨.int (zcM k ns),H,I1,⟨t,?_⟩,q⟩
  unfold zcM
  rw [if_pos hne]
theorem zfX {K:PySem.W.Frag} {e:Expr} {te:TE} {pp kp pos tq:Pos} {tp:Nat} {k:Int} (hc:X.calm=true) (hg:Gl X "max") (hm:X.mg "max"=none) (ha:PE X e te) (hK:X.K=K:=by rfl)
  (he1:starEach [e] X.env=[(false,eval e X.env)]:=by rfl) (he:backTo pos (starEach [e] X.env)=(false,eval e X.env)::backTo pos (starEach [] X.env):=by rfl) (hpl:(backTo pos (starEach [e] X.env)).any (·.1)=false:=by rfl):
  PE X (.Call (.Name "max" pp) [e] [⟨some "default",.Constant (.int k) tp tq,kp⟩] pos) (zj9 K k te):=by
 intro pins s σ H Q I h
 refine wpAny_Call_Name_kw (Xm I hg hm boot_max ?_ (by decide) (by decide))
 refine callWith_kw (thn (za ha zg he1 pos pins s σ H (fun vs H1=>∃x,vs=[x]∧zhT K k x H1 Q) I ?_) ?_) he hpl rfl rfl
 ·have h:te σ H _:=h
  show te σ H fun x H1=>∃y,[x]=[y]∧_
  simpa only [List.cons.injEq,and_true,exists_eq_left'] using h
 rintro us s1 ⟨vs,H1,I1,r1,x,rfl,q⟩
 obtain ⟨u,rfl,ru⟩:=Xb r1
 show wpAny _ _ (evalAll [(do let v ←eval (.Constant (.int k) tp tq) X.env;standAt pos;pure v)]) _ _ s1
 refine wpAny_evalAll_cons (wpAny_bind (wpAny_Constant_int (wpAny_bind (wpAny_standAt (wpAny_pure ?_)))))
 refine wpAny_evalAll_nil ?_
 exact zjh hK hc (I1.tok _) ru q
end
end L2
namespace L2
open PySem PySem.Spec PyProof.Rows PySem.Calls
section
variable {prog:Program} {w:World} {A:Around} {E:Value→Shared→Prop} {s:Shared}
theorem zdS {sl:Addr} {n:Nat} {t:Tok} {Q:Int×Int×Nat→Shared→Prop} (hs:s.heap.IsSliceOf sl .none .none (.int 2 t)) (hn:n=1∨n=3)
  (h:Q (0,2,(n+1) / 2) s):wpAny (model prog w) A (Builtin.Slice.sliceApplied (.ref sl) (pure (n:Int))) Q E s:=by
 obtain ⟨os,hos,hcs,hds⟩:=id hs
 unfold Builtin.Slice.sliceApplied Builtin.Slice.sliceFields
 refine wpAny_bind (wpAny_bind (wpAny_field hos hds (x:= .none) rfl (wpAny_bind (wpAny_field hos hds (x:= .none) rfl (wpAny_bind (wpAny_field hos hds (x:= .int 2 t) rfl (wpAny_pure ?_)))))))
 refine wpAny_bind (HT.VB (.int 2 t) ?_)
 show wpAny _ _ (if ((2:Int)==0)=true then _ else _) _ _ s
 rw [if_neg (by decide)]
 refine wpAny_bind (HT.VB .none (wpAny_bind (HT.VB .none (wpAny_bind (wpAny_pure ?_)))))
 rcases hn with rfl|rfl
 ·exact wpAny_pure h
 ·exact wpAny_pure h
noncomputable def xY {α:Type}:List α→List α
 |[a,_,b]=>[a,b]
 |xs=>xs
theorem zji {t sl:Addr} {items:Array Value} {tk:Tok} {Q:Value→Shared→Prop} (ht:IsTup s.heap t items) (hs:s.heap.IsSliceOf sl .none .none (.int 2 tk)) (hn:items.size=1∨items.size=3)
  (h:Q (.ref s.heap.objs.size) {s with heap:=s.heap.push {cls:= .type "tuple",data:= .seq (xY items.toList).toArray}}):wpAny (model prog w) A (getItem (.ref t) (.ref sl)) Q E s:=by
 have hod:((List.range ((items.size+1) / 2)).filterMap fun (m:Nat)=>items[((0:Int)+(m:Int)*2).toNat]?).toArray=(xY items.toList).toArray:=by
  obtain ⟨xs⟩:=items
  rcases hn with hn|hn
  ·match xs,hn with
   |[a],_=>simp [xY,List.range,List.range.loop]
  ·match xs,hn with
   |[a,b,c],_=>simp [xY,List.range,List.range.loop]
 have htake:sizeOk (.seq (xY items.toList).toArray):=by
  show (xY items.toList).toArray.size≤sizeLine
  obtain ⟨xs⟩:=items
  rcases hn with hn|hn
  ·match xs,hn with
   |[a],_=>exact (by show 1≤sizeLine;decide)
  ·match xs,hn with
   |[a,b,c],_=>exact (by show 2≤sizeLine;decide)
 obtain ⟨os,hos,hcs,hds⟩:=id hs
 have hTs:s.TypeIs (.ref sl) "slice":=⟨os,hos,hcs⟩
 unfold getItem
 try with_reducible refine wpAny_holding ?_
 first|refine wpAny_bind (wpAny_pure ?_)|skip
 refine wpAny_bind (wpAny_sequenceKey ht.typeIs (by decide) ?_)
 refine wpAny_bind (wpAny_callSpecial?_slot (name:=Str.ofString "__getitem__") ht.typeIs PyProof.Rows.slot_tuple_getitem
  (wpAny_call_entry PyProof.Rows.slot_tuple_getitem ht.typeIs entry_tuple_getitem ?_ (args_tuple_getitem _ _)))
 show wpAny _ _ (Builtin.Tuple.tupleItemsOf (.ref t)>>=_) _ _ s
 refine wpAny_bind (tupleItemsOf_ ht ?_)
 refine wpAny_bind (wpAny_typeOf hTs ?_)
 rw [if_pos (by decide)]
 refine wpAny_bind (zdS hs hn ?_)
 show wpAny _ _ (if ((0:Int)==0&&(2:Int)==1&&((items.size+1) / 2)==items.size)=true then _ else _) _ _ s
 rw [if_neg (by simp),hod]
 first
  |exact wpAny_bind (m:=Builtin.Tuple.tupleExact _) (wpAny_newObj_type (wpAny_pure ⟨_,rfl,wpAny_pure h⟩) htake)
  |exact wpAny_bind (m:=Builtin.Tuple.tupleExact _) (wpAny_newObj_type (wpAny_bind (wpAny_pure (wpAny_pure ⟨_,rfl,wpAny_pure h⟩))) htake)
  |exact wpAny_bind (wpAny_bind (m:=Builtin.Tuple.tupleExact _) (wpAny_newObj_type (wpAny_pure (wpAny_pure ⟨_,rfl,wpAny_pure h⟩)) htake))
  |exact wpAny_bind (wpAny_bind (m:=Builtin.Tuple.tupleExact _) (wpAny_newObj_type (wpAny_pure ⟨_,rfl,wpAny_pure h⟩) htake))
end
theorem zhU {α:Type} (xs:List α):(xY xs).length≤xs.length:=by
 unfold xY
 split
 ·simp
 ·exact Nat.le_refl _
theorem zgK {xs:List V} {us:List Value} (h:yr xs us):yr (xY xs) (xY us):=by
 unfold xY
 split
 ·cases h with|cons h1 h=>cases h with|cons h2 h=>cases h with|cons h3 h=>cases h;exact .cons h1 (.cons h3 .nil)
 ·rename_i hx
  split
  ·cases h with|cons h1 h=>cases h with|cons h2 h=>cases h with|cons h3 h=>cases h;exact absurd rfl (hx _ _ _)
  ·exact h
noncomputable def zni (K:PySem.W.Frag):V→Hp→VK→Prop:=fun x H Q=>∃a xs,x= .ref a∧SqT K H a xs∧(xs.length=1∨xs.length=3)∧∀p,H p=none→Q (.ref p) (upd H p (.tup (xY xs)))
noncomputable def zmS (K:PySem.W.Frag) (te:TE):TE:=fun σ H Q=>te σ H fun x H1=>zni K x H1 Q
section
variable {X:Cx}
theorem zhV {e:Expr} {te:TE} {p2 pos tq:Pos} {tp:Nat} {K:PySem.W.Frag} (he:PE X e te) (hK:X.K=K:=by rfl):PE X (.Subscript e (.Slice none none (some (.Constant (.int 2) tp tq)) p2) pos) (zmS K te):=by
 subst hK
 intro pins s σ H Q I h
 refine Subscript_ (thn (he pins s σ H _ I h) ?_)
 rintro v s1 ⟨x,H1,I1,r1,a,xs,rfl,hx,hn,q⟩
 refine wpAny_Slice ?_
 rw [evalPart_none]
 refine wpAny_pure (wpAny_pure ?_)
 rw [evalPart_some]
 refine wpAny_Constant_int ?_
 cases r1
 have I2:=I1.tok (s1.toks+1)
 have I4:Inv X pins σ H1 {s1 with heap:=s1.heap.push {cls:= .type "slice",data:= .fields #[.none,.none,.int 2 s1.toks]},toks:=s1.toks+1}:=I1.kept fun b ob q=>Heap.get?_push_of_some _ q
 obtain ⟨its,r,ht,hz⟩:=I4.tuple hx
 have hlen:its.toArray.size=xs.length:=by rw [List.size_toArray];exact r.length.symm
 refine tail_any (ops:=[.ref a,.ref s1.heap.objs.size]) ht.typeIs PyProof.Rows.slot_tuple_getitem.lookup ?_ (by with_unfolding_all rfl)
 refine zji ht (Heap.IsSliceOf.new ..) (by rw [hlen];exact hn) ?_
 refine ⟨.ref _,_,I4.laid (o:= .tup (xY xs)) (fun b ob q=>Heap.get?_push_of_some _ q) (Nat.le_refl _) ?_,rfl,q _ (I4.hok.fresh (Nat.le_refl _))⟩
 exact ⟨Nat.le_trans (zhU xs) hz,_,zgK r,Xl.new _ _⟩
end
end L2
namespace L2
open PySem PySem.Spec PyProof.Rows PySem.Calls
theorem zbs:typeLookup (.type "tuple") "keys"=pure none:=by rw [typeLookup_type,builtinLookup_eq_fast];kernel_rfl
theorem zdT:typeLookup (.type "tuple") "__getattr__"=pure none:=by rw [typeLookup_type,builtinLookup_eq_fast];kernel_rfl
section
variable {prog:Program} {w:World} {A:Around} {E:Value→Shared→Prop} {h:Heap} {g:Array GenState} {d:Drawn} {t:Nat} {os:OsState} {a:Addr}
noncomputable def zls (h:Heap) (g:Array GenState) (d:Drawn) (os:OsState) (E:Value→Shared→Prop):Prop:=∀h' e tk',(∀b o,h.get? b=some o→h'.get? b=some o)→(∃o,h'.get? e=some o∧o.cls= .type "AttributeError")→E (.ref e) ⟨h',g,d,tk',os⟩
theorem ze5 {tk:Tok} {Q:Fin→Shared→Prop} {xs:Array Value} {n:Nat} {sl:Array (Option Value)} (hx:h.get? a=some ⟨.type "tuple",none,.seq xs n,sl⟩) (hh:A.handled=none) (hq:zls h g d os E):
  wpAny (model prog w) A (Builtin.«object.__getattribute__» ⟨[.ref a,.str "keys" tk],[]⟩) Q E ⟨h,g,d,t,os⟩:=by
 have hT:(⟨h,g,d,t,os⟩:Shared).TypeIs (.ref a) "tuple":=⟨_,hx,rfl⟩
 have f4:=zbs
 repeat (any_goals (first|assumption|wp_step))
 refine wpAny_raiseAttrError hh (fun h' tk' e q=> ?_) (by decide+kernel)
 obtain ⟨q1,q2,o,vs,q3⟩:=q
 exact hq h' e tk' q1 ⟨_,q3,rfl⟩
theorem zgL {tk:Tok} {R:Result→Shared→Prop} {xs:Array Value} {n:Nat} {sl:Array (Option Value)} (hx:h.get? a=some ⟨.type "tuple",none,.seq xs n,sl⟩) (hh:A.handled=none) (hq:zls h g d os fun e s=>R (.error e) s):
  codeAny (model prog w) A (.call (.builtin "tuple.__getattribute__") ⟨[.ref a,.str "keys" tk],[]⟩) R ⟨h,g,d,t,os⟩:=
 codeAny_call_builtin F.slot_tuple_getattribute.plain F.entry_tuple_ga (F.slot_tuple_getattribute.check _ _ _ _ _ _ _ _ (show (⟨h,g,d,t,os⟩:Shared).TypeIs (.ref a) "tuple" from ⟨_,hx,rfl⟩) (F.args_tuple_getattribute_2 _ _) (ze5 hx (by simpa using hh) hq))
theorem zjj {tk:Tok} {Q:Value→Shared→Prop} {xs:Array Value} {n:Nat} {sl:Array (Option Value)} (hx:h.get? a=some ⟨.type "tuple",none,.seq xs n,sl⟩) (hh:A.handled=none) (hq:zls h g d os E):
  wpAny (model prog w) A (getAttrBy (.ref a) (.str "keys" tk) false) Q E ⟨h,g,d,t,os⟩:=by
 have hT:(⟨h,g,d,t,os⟩:Shared).TypeIs (.ref a) "tuple":=⟨_,hx,rfl⟩
 have f2:=F.slot_tuple_getattribute.lookup
 have f3:=F.slot_tuple_getattribute.bind (.ref a)
 have f5:=zdT
 repeat (any_goals (first|assumption|wp_step))
 refine zgL hx (by simpa using hh) fun h' e tk' q1 q2=> ?_
 obtain ⟨o,q2,q3⟩:=q2
 have hE:(⟨h',g,d,tk',os⟩:Shared).TypeIs (.ref e) "AttributeError":=⟨_,q2,q3⟩
 have f6:=sub_AttributeError
 have hT':(⟨h',g,d,tk',os⟩:Shared).TypeIs (.ref a) "tuple":=⟨_,q1 _ _ hx,rfl⟩
 repeat (any_goals (first|assumption|wp_step))
 exact hq h' e tk' q1 ⟨o,q2,q3⟩
theorem zgM {Q:Option Value→Shared→Prop} {xs:Array Value} {n:Nat} {sl:Array (Option Value)} (hx:h.get? a=some ⟨.type "tuple",none,.seq xs n,sl⟩) (hh:A.handled=none) (hq:∀h' tk',(∀b o,h.get? b=some o→h'.get? b=some o)→Q none ⟨h',g,d,tk',os⟩):
  wpAny (model prog w) A (getAttr? (.ref a) "keys") Q E ⟨h,g,d,t,os⟩:=by
 unfold getAttr? getAttrBy?
 have hT:(⟨h,g,d,t,os⟩:Shared).TypeIs (.ref a) "tuple":=⟨_,hx,rfl⟩
 refine wpAny_bind (wpAny_mkText (wpAny_bind (wpAny_attempt (zjj hx hh fun h' e tk' q1 q2=> ?_))))
 obtain ⟨o,q2,q3⟩:=q2
 have hE:(⟨h',g,d,tk',os⟩:Shared).TypeIs (.ref e) "AttributeError":=⟨_,q2,q3⟩
 have f6:=sub_AttributeError
 repeat (any_goals (first|assumption|wp_step))
 exact hq h' tk' q1
end
theorem zdU:entryFor table "dict.update.loop"=some Builtin.«dict.update.loop» :=entryFor_of_fast (by kernel_rfl)
theorem Uq:plainId "dict.update.loop"=true:=by decide+kernel
section
variable {prog:Program} {w:World} {A:Around} {I:Addr} {fp wr:List Addr} {G:Array GenState→Array GenState→Prop} {n:Nat} {P:Nat→Value→Prop} {St:Nat→Shared→Prop} {R:Result→Shared→Prop} {KK:Type} [DecidableEq KK] {knd:KeyKind prog w KK}
theorem zgN {kv:List (KK×Value)} {i:Nat} {k:KK} {v:Value} (nd:(kv.map (·.1)).Nodup) (h:kv[i]? =some (k,v)):stored (kv.take i) k v=kv.take (i+1):=by
 have hi:=(List.getElem?_eq_some_iff.1 h).1
 have e:=(List.getElem?_eq_some_iff.1 h).2
 unfold stored
 rw [if_neg,List.take_succ_eq_append_getElem hi,e]
 intro q
 rw [List.any_eq_true] at q
 obtain ⟨x,hx,hk⟩:=q
 obtain ⟨m,hm,rfl⟩:=List.mem_iff_getElem.1 hx
 rw [List.length_take] at hm
 have hk:(kv.take i)[m].1=k:=of_decide_eq_true hk
 rw [List.getElem_take] at hk
 have h2:=(List.getElem_inj (xs:=kv.map (·.1)) (i:=m) (j:=i) (h₀:=by rw [List.length_map];omega) (h₁:=by rw [List.length_map];omega) nd).1 (by rw [List.getElem_map,List.getElem_map,hk,e])
 omega
theorem zjk (W:WalksS prog w A.in1 I fp wr G n P St) (d:Addr) (nf:d∉fp) (h0:Heap) (old:∀b o,h0.get? b=some o→b∉d::wr) (kv:List (KK×Value)) (nd:(kv.map (·.1)).Nodup) (hn:kv.length=n) (h64:n≤sizeLine)
  (wf:∀i v,P i v→∃p key k x m,kv[i]? =some (k,x)∧v= .ref p∧knd.is k key=true∧∃o,h0.get? p=some o∧o.cls= .type "tuple"∧o.data= .seq #[key,x] m):
  ∀(q i:Nat) (s:Shared) (t:Tok),n-i=q→i≤n→St i s→(∀b o,h0.get? b=some o→s.heap.get? b=some o)→s.heap.DictOf knd d (kv.take i)→(∀s',Moved (d::wr) G s s'→s'.heap.DictOf knd d kv→R (.ok (.ret .none)) s')→
   codeAny (model prog w) A (.builtin "dict.update.loop" ⟨[.ref d,.ref I,.int i t,.none],[]⟩) R s:=by
 have nw:d∉wr:=fun q=>nf (W.sub _ q)
 have up:∀b∈wr,b∈d::wr:=fun b q=> .tail _ q
 have ns:∀{b:Addr},b∉d::wr→b≠d:=fun q e=>q (e ▸ .head _)
 have stay:∀{s s':Shared} {l:List (KK×Value)},Moved wr G s s'→s.heap.DictOf knd d l→s'.heap.DictOf knd d l:=by
  rintro s s' l mv ⟨o,es,ep,ho,r⟩
  exact ⟨o,es,ep,mv.heap d o nw ho,r⟩
 intro q
 induction q with
 |zero=>
  intro i s t hq hi st ho hD fin
  obtain rfl:i=n:=by omega
  refine codeAny_builtin zdU (by
   rw [Around.under_plainId Uq _]
   refine wpAny_bind (m:=pyNext (.ref I)) (W.done s _ _ st fun s' mv=> ?_)
   refine wpAny_bind (m:=Builtin.Dict.addKeywords d []) (wpAny_pure (wpAny_pure (fin s' (mv.mono up) ?_)))
   have:=stay mv hD
   rwa [←hn,List.take_length] at this)
 |succ q ih=>
  intro i s t hq hi st ho hD fin
  have lt:i<n:=by omega
  refine codeAny_builtin zdU (by
   rw [Around.under_plainId Uq _]
   refine wpAny_bind (m:=pyNext (.ref I)) (W.item i s _ _ lt st fun v s' hv st' mv=> ?_)
   obtain ⟨p,key,k,x,m,hk,rfl,his,o,hp,hc,hd⟩:=wf i v hv
   have ho':∀b o,h0.get? b=some o→s'.heap.get? b=some o:=fun b o e=>mv.heap b o (fun z=>old b o e (up b z)) (ho b o e)
   have hp':=ho' _ _ hp
   have hT:s'.TypeIs (.ref p) "tuple":=⟨_,hp',hc⟩
   refine wpAny_bind (wpAny_holding (wpAny_bind (m:=tryCatch (Builtin.Dict.pairItems (.ref p)) _) (wpAny_tryCatch ?_)))
   unfold Builtin.Dict.pairItems
   refine wpAny_bind (wpAny_typeOf hT ?_)
   rw [if_pos (by decide)]
   refine wpAny_bind (wpAny_seqItems hp' hd (wpAny_pure ?_))
   refine wpAny_holding (m:=dictSet d key x) (wpAny_dictSet_pairs his (stay mv hD) (fun h' hD' sb=> ?_) (by rw [List.length_take];omega))
   rw [zgN nd hk] at hD'
   refine wpAny_pure ⟨plainId_quiet Uq _,ih (i+1) _ _ (by omega) lt (W.frame _ s' h' (s'.toks+1) st' (Nat.le_succ _) fun b hb ob e=>(sb.2 b fun z=>nf (z ▸ hb)).trans e) (fun b ob e=>(sb.2 b (ns (old b ob e))).trans (ho' b ob e)) hD' fun s'' mv2 hD2=> ?_⟩
   exact fin s'' (Moved.trans W.gtrans ((mv.mono up).then_heap (Nat.le_succ _) fun b ob q e=>(sb.2 b (ns q)).trans e) mv2) hD2)
variable {E:Value→Shared→Prop} {s:Shared}
theorem zjl {a:Addr} {items:Array Value} {m:Nat} {sl:Array (Option Value)} {kv:List (KK×Value)} {Q:Value→Shared→Prop} (hh:A.handled=none) (hx:s.heap.get? a=some ⟨.type "tuple",none,.seq items m,sl⟩) (nd:(kv.map (·.1)).Nodup) (hn:kv.length=items.size) (h64:items.size≤sizeLine)
  (wf:∀(i:Nat) v,items[i]? =some v→∃p key k x m,kv[i]? =some (k,x)∧v= .ref p∧knd.is k key=true∧∃o,s.heap.get? p=some o∧o.cls= .type "tuple"∧o.data= .seq #[key,x] m)
  (h:∀s':Shared,s'.heap.DictOf knd s.heap.objs.size kv→(∀b o,s.heap.get? b=some o→s'.heap.get? b=some o)→s'.gens=s.gens→s'.drawn=s.drawn→s'.os=s.os→Q (.ref s.heap.objs.size) s'):
  wpAny (model prog w) A (call (.type "dict") [.ref a]) Q E s:=by
 refine callType_codes (Q₁:=fun obj s₁=>obj= .ref s.heap.objs.size∧s₁={s with heap:=s.heap.push {cls:= .type "dict",data:= .dict #[]}}) F.kt_called_dict (F.kt_typeCall_dict_1 _) F.entry_dict_init (kt_code_dict_new _ ⟨rfl,rfl⟩) ?_
 rintro obj s₁ ⟨rfl,rfl⟩
 have hnew:(s.heap.push {cls:= .type "dict",data:= .dict #[]}).DictOf knd s.heap.objs.size []:=Heap.DictOf.new s.heap
 have hx1:=Heap.get?_push_of_some (h:=s.heap) {cls:= .type "dict",data:= .dict #[]} hx
 have hT:Shared.TypeIs {s with heap:=s.heap.push {cls:= .type "dict",data:= .dict #[]}} (.ref a) "tuple":=⟨_,hx1,rfl⟩
 refine ⟨hnew.typeIs,F.args_dict_init_2 _ _,?_⟩
 unfold Builtin.«dict.__init__»
 refine wpAny_bind (by
  unfold Builtin.Dict.selfAndRest
  refine wpAny_bind (wpAny_notOrdered_dict hnew.typeIs (wpAny_pure (a:=(s.heap.objs.size,[Value.ref a])) ?_))
  show wpAny _ _ (Builtin.Dict.updateFrom "dict.__init__" s.heap.objs.size (.ref a) [] .none) _ _ _
  unfold Builtin.Dict.updateFrom
  refine wpAny_bind (wpAny_typeOf hT ?_)
  rw [if_pos (by decide)]
  refine wpAny_bind (zgM (g:=s.gens) (d:=s.drawn) (t:=s.toks) (os:=s.os) hx1 (by simpa using hh) fun h' tk' kp=> ?_)
  rw [if_pos (by rfl)]
  refine wpAny_bind (wpAny_rule ?_)
  have hx2:=kp _ _ hx1
  refine wpAny_bind (wpAny_pyIter_tuple (items:=items) ⟨_,hx2,rfl,m,rfl⟩ ?_)
  have lt:a<h'.objs.size:=Heap.lt_size hx2
  have ltd:s.heap.objs.size<h'.objs.size:=by
   obtain ⟨o,_,_,e,_⟩:=hnew
   exact Heap.lt_size (kp _ _ e)
  refine wpAny_pure ⟨plainId_quiet Uq _,?_⟩
  have old:∀b o,s.heap.get? b=some o→b≠s.heap.objs.size∧b≠h'.objs.size:=fun b o e=>⟨Nat.ne_of_lt (Heap.lt_size e),Nat.ne_of_lt (Nat.lt_trans (Heap.lt_size e) ltd)⟩
  refine zjk (G:=fun a b=>b=a) ((Walks.tuple (A:=A.in1.in1) (by simpa using hh) h'.objs.size a (Nat.ne_of_lt lt) items).toS) s.heap.objs.size (fun z=> ?_) s.heap (fun b o e z=> ?_) kv nd hn h64 (fun i v hv=>wf i v hv) _ 0 _ _ rfl (Nat.zero_le _) ⟨⟨_,Heap.get?_push_size _ rfl,rfl,rfl⟩,⟨_,Heap.get?_push_of_some _ hx2,rfl,m,rfl⟩⟩ (fun b o e=> ?_) ?_ (fun s' mv hD=> ?_)
  ·rcases (by simpa using z:s.heap.objs.size=h'.objs.size∨s.heap.objs.size=a) with z|z
   ·omega
   ·exact (old _ _ hx).1 z.symm
  ·rcases (by simpa using z:b=s.heap.objs.size∨b=h'.objs.size) with z|z
   ·exact (old _ _ e).1 z
   ·exact (old _ _ e).2 z
  ·exact Heap.get?_push_of_some _ (kp _ _ (Heap.get?_push_of_some _ e))
  ·rw [List.take_zero]
   obtain ⟨o,es,ep,e,r⟩:=hnew
   exact ⟨o,es,ep,Heap.get?_push_of_some _ (kp _ _ e),r⟩
  ·refine ⟨rfl,h s' hD (fun b o e=>mv.heap b o (fun z=> ?_) (Heap.get?_push_of_some _ (kp _ _ (Heap.get?_push_of_some _ e)))) mv.gens mv.drawn mv.os⟩
   rcases (by simpa using z:b=s.heap.objs.size∨b=h'.objs.size) with z|z
   ·exact (old _ _ e).1 z
   ·exact (old _ _ e).2 z)
end
noncomputable def PrT (H:Hp):V→Key×V→Prop:=fun p q=>∃b,p= .ref b∧H b=some (.tup [kV q.1,q.2])
noncomputable def zhW:List V→Hp→VK→Prop:=fun xs H Q=>∃(a:Addr) (ps:List V) (kvs:List (Key×V)),xs=[.ref a]∧H a=some (.tup ps)∧Paired (PrT H) ps kvs∧(kvs.map (·.1)).Nodup∧∀l,H l=none→Q (.ref l) (upd H l (.dK kvs))
theorem zdV {P:Program} {w:World} {H:Hp} {h:Heap} (ok:HOk P w H h):∀{ps:List V} {kvs:List (Key×V)} {its:List Value},Paired (PrT H) ps kvs→yr ps its→∃kv:List (Key×Value),KV kvs kv∧kv.length=its.length∧∀(i:Nat) v,its[i]? =some v→
  ∃p key k x m,kv[i]? =some (k,x)∧v= .ref p∧(wC P w).is k key=true∧∃o,h.get? p=some o∧o.cls= .type "tuple"∧o.data= .seq #[key,x] m
 |[],[],[],.nil,.nil=>⟨[],.nil,rfl,fun i v e=>by simp at e⟩
 |p::ps,(k,y)::kvs,u::us,.cons h1 h2,.cons r1 r2=>by
  obtain ⟨kv,a1,a2,a3⟩:=zdV ok h2 r2
  obtain ⟨b,rfl,hb⟩:=h1
  cases r1
  obtain ⟨_,its,rv,o,e,c,m,d,_⟩:=(show xC P w H h b (.tup _) from ok b _ hb)
  obtain ⟨u1,u2,rfl,g1,g2⟩:=zfz rv
  refine ⟨(k,u2)::kv,.cons ⟨rfl,g2⟩ a1,by rw [List.length_cons,List.length_cons,a2],fun i v e'=> ?_⟩
  cases i with
  |zero=>
   cases e'
   refine ⟨b,u1,k,u2,m,rfl,rfl,?_,o,e,c,by simpa using d⟩
   cases k with
   |inl i=>obtain ⟨t,rfl⟩:=g1;exact zbN i t
   |inr x=>obtain ⟨t,rfl⟩:=g1;exact zbO x t
  |succ i=>exact a3 i v (by simpa using e')
section
variable {X:Cx}
theorem ze6 (hc:X.calm=true):vq X (.type "dict") zhW:=by
 intro pins s σ H xs us Q I r h
 obtain ⟨a,ps,kvs,rfl,ha,hp,nd,q⟩:=h
 obtain ⟨u,rfl,ru⟩:=Xb r
 cases ru
 obtain ⟨z,its,rv,o,e,c,m,d,dn⟩:=(show xC X.prog X.w H s.heap a (.tup ps) from I.hok a _ ha)
 obtain ⟨kv,a1,a2,a3⟩:=zdV I.hok hp rv
 obtain ⟨oc,od,oda,osl⟩:=o
 simp only at c d dn
 subst c d dn
 have hkl:kvs.length=its.length:=by rw [←hp.length,←rv.length]
 have nd':(kv.map (·.1)).Nodup:=by rw [show kv.map (·.1)=kvs.map (·.1) from (KV.keys a1).symm];exact nd
 refine zjl (knd:=wC X.prog X.w) (kv:=kv) (I.ok.hd hc) e nd' (by rw [List.size_toArray];exact a2) (by rw [List.size_toArray,←rv.length];exact z) (fun i v hv=>a3 i v (by simpa using hv)) fun s' hD kp e1 e2 e3=> ?_
 have e':({s with heap:=s'.heap,toks:=s'.toks}:Shared)=s':=by
  cases s'
  simp only at e1 e2 e3
  subst e1 e2 e3
  rfl
 have I1:=I.laid (a:=s.heap.objs.size) (o:= .dK kvs) (t':=s'.toks) kp (Nat.le_refl _) ⟨by rw [hkl,←rv.length];exact z,beq_eq_false_iff_ne.mpr (Nat.ne_of_gt I.big),kv,a1,hD⟩
 rw [e'] at I1
 exact ⟨.ref _,_,I1,rfl,q _ (I.hok.fresh (Nat.le_refl _))⟩
end
end L2
namespace L2
open PySem PySem.Spec PyProof.Rows PySem.Calls
noncomputable def Za (acc:List Str):List Str→List Str
 |[]=>acc
 |x::r=>Za (if x∈acc then acc else acc++[x]) r
noncomputable def zhX (acc:List Str) (x:Str):List Str:=if x∈acc then acc else acc++[x]
theorem zb8 {xs:List Str}:∀{acc:List Str} {i:Nat} {x:Str},xs[i]? =some x→Za acc (xs.take (i+1))=zhX (Za acc (xs.take i)) x:=by
 induction xs with
 |nil=>intro acc i x h;simp at h
 |cons y r ih=>
  intro acc i x h
  cases i with
  |zero=>cases h;rfl
  |succ i=>
   have h:r[i]? =some x:=by simpa using h
   exact ih h
theorem zaR:∀(xs acc:List Str),(Za acc xs).length≤acc.length+xs.length
 |[],acc=>Nat.le_refl _
 |x::r,acc=>by
  have:=zaR r (if x∈acc then acc else acc++[x])
  show (Za (if x∈acc then acc else acc++[x]) r).length≤_
  rw [List.length_cons]
  split at this
  ·rw [if_pos (by assumption)];omega
  ·rw [if_neg (by assumption)]
   rw [List.length_append,List.length_singleton] at this
   omega
section
variable {prog:Program} {w:World} {A:Around} {I:Addr} {fp wr:List Addr} {G:Array GenState→Array GenState→Prop} {n:Nat} {P:Nat→Value→Prop} {St:Nat→Shared→Prop} {R:Result→Shared→Prop}
theorem zjm (W:WalksS prog w A.in1 I fp wr G n P St) (S:Addr) (nf:S∉fp) (xs:List Str) (hx:xs.length=n) (wf:∀i v,P i v→∃x t,xs[i]? =some x∧v= .str x t) (hb:n+1<scanBound):
  ∀(q i:Nat) (s:Shared),n-i=q→i≤n→St i s→s.heap.SetOf (strKind prog w) S (fun k=>decide (k∈Za [] (xs.take i))) (Za [] (xs.take i)).length→
   (∀s',Moved (S::wr) G s s'→s'.heap.SetOf (strKind prog w) S (fun k=>decide (k∈Za [] xs)) (Za [] xs).length→R (.ok (.ret .none)) s')→codeAny (model prog w) A (.builtin "set.update.loop" ⟨[.ref S,.ref I],[]⟩) R s:=by
 have nw:S∉wr:=fun q=>nf (W.sub _ q)
 have up:∀b∈wr,b∈S::wr:=fun b q=> .tail _ q
 have ns:∀{b:Addr},b∉S::wr→b≠S:=fun q e=>q (e ▸ .head _)
 have stay:∀{s s':Shared} {f:Str→Bool} {m:Nat},Moved wr G s s'→s.heap.SetOf (strKind prog w) S f m→s'.heap.SetOf (strKind prog w) S f m:=by
  rintro s s' f m mv ⟨o,es,ep,t,ho,r⟩
  exact ⟨o,es,ep,t,mv.heap S _ nw ho,r⟩
 intro q
 induction q with
 |zero=>
  intro i s hq hi st hS fin
  obtain rfl:i=n:=by omega
  refine codeAny_builtin F.entry_set_update_loop (by
   rw [Around.under_plainId F.plain_set_update_loop _]
   refine wpAny_bind (m:=pyNext (.ref I)) (W.done s _ _ st fun s' mv=> ?_)
   refine wpAny_pure (fin s' (mv.mono up) ?_)
   have:=stay mv hS
   rwa [←hx,List.take_length] at this)
 |succ q ih=>
  intro i s hq hi st hS fin
  have lt:i<n:=by omega
  refine codeAny_builtin F.entry_set_update_loop (by
   rw [Around.under_plainId F.plain_set_update_loop _]
   refine wpAny_bind (m:=pyNext (.ref I)) (W.item i s _ _ lt st fun v s' hv st' mv=> ?_)
   obtain ⟨x,t,ex,rfl⟩:=wf i v hv
   have his:(strKind prog w).is x (.str x t)=true:=by show Value.isStrOf x (.str x t)=true;simp [Value.isStrOf]
   refine wpAny_bind (m:=holding [Value.str x t] (setAdd S (.str x t))) (wpAny_holding (by
    unfold setAdd
    refine wpAny_holding (wpAny_bind ((strKind prog w).pyHash (k:=x) his ?_))
    have hl:=zaR (xs.take i) []
    rw [List.length_take,List.length_nil] at hl
    refine wpAny_setAddHashed_of (knd:=strKind prog w) (s:={s' with toks:=s'.toks+1}) his rfl (show s'.heap.SetOf _ _ _ _ from stay mv hS) (by omega) fun h' sb hS2=> ?_
    have hS3:h'.SetOf (strKind prog w) S (fun k=>decide (k∈Za [] (xs.take (i+1)))) (Za [] (xs.take (i+1))).length:=by
     refine SetOf_congr hS2 (fun k=> ?_) ?_
     ·rw [zb8 ex]
      unfold zhX
      by_cases hm:x∈Za [] (xs.take i)
      ·rw [if_pos hm]
       by_cases hk:k=x
       ·subst hk;simp [hm]
       ·simp [hk]
      ·rw [if_neg hm]
       by_cases hk:k=x
       ·subst hk;simp
       ·simp [hk]
     ·rw [zb8 ex]
      unfold zhX
      by_cases hm:x∈Za [] (xs.take i)
      ·rw [if_pos hm,if_pos (decide_eq_true hm)]
      ·rw [if_neg hm,if_neg (by simpa using hm)];simp
    refine wpAny_pure ⟨plainId_quiet F.plain_set_update_loop _,ih (i+1) _ (by omega) lt (W.frame _ s' h' _ st' (Nat.le_succ _) fun b hb ob e=>(sb.2 b fun z=>nf (z ▸ hb)).trans e) hS3 fun s'' mv2 hD2=> ?_⟩
    exact fin s'' (Moved.trans W.gtrans ((mv.mono up).then_heap (Nat.le_succ _) fun b ob q e=>(sb.2 b (ns q)).trans e) mv2) hD2)))
end
section
variable {prog:Program} {w:World} {A:Around} {E:Value→Shared→Prop} {s:Shared}
set_option maxHeartbeats 3200000 in
theorem zjn {l:Addr} {items:Array Value} {xs:List Str} {Q:Value→Shared→Prop} (hh:A.handled=none) (hl:s.heap.IsList l items) (hx:xs.length=items.size) (hb:items.size+1<scanBound)
  (wf:∀(i:Nat) v,items[i]? =some v→∃x t,xs[i]? =some x∧v= .str x t)
  (h:∀(h':Heap) (tk:Nat),h'.SetOf (strKind prog w) s.heap.objs.size (fun k=>decide (k∈Za [] xs)) (Za [] xs).length→(∀b o,s.heap.get? b=some o→h'.get? b=some o)→Q (.ref s.heap.objs.size) {s with heap:=h',toks:=tk}):
  wpAny (model prog w) A (call (.type "set") [.ref l]) Q E s:=by
 obtain ⟨c,tl,hmro⟩:=F.called_set.mro
 have hmade:=F.called_set.made
 have hsub:=F.called_set.sub
 refine wpAny_call (codeAny_of_tree ?_)
 show wpAny _ _ (callAny (.type "set") _) _ _ _
 refine wpAny_pure ⟨Code.quiet_builtin _ (by decide+kernel),codeAny_builtin F.entry_type_call ?_⟩
 rw [Around.under_plain (weight_type_call_type "set" [.ref l] []) rfl]
 have h1:=F.called_set.notType
 have h2:=F.called_set.canCreate
 have hct:=F.typeCall_set_1 (.ref l)
 repeat (any_goals (first|assumption|wp_step))
 refine codeAny_mono (zlo (.ref l) (E:=E) (Q₁:=fun obj s₁=>obj= .ref s.heap.objs.size∧s₁={s with heap:=s.heap.push (zcL (zbr w))}) ⟨rfl,rfl⟩) fun r s₁ hr=> ?_
 cases r with
 |error e=>exact hr
 |ok fl=>
  cases fl with
  |ret obj=>
   obtain ⟨rfl,rfl⟩:=hr
   have hS:(s.heap.push (zcL (zbr w))).get? s.heap.objs.size=some (zcL (zbr w)):=Heap.get?_push_size _ rfl
   have hT:Shared.TypeIs {s with heap:=s.heap.push (zcL (zbr w))} (.ref s.heap.objs.size) "set":=⟨_,hS,rfl⟩
   have hli:=F.called_set.init.lookup
   have hbi:=F.called_set.init.bind (.ref s.heap.objs.size)
   repeat (any_goals (first|assumption|wp_step))
   refine codeAny_mono (codeAny_call_builtin (R:=wants (fun r s₂=>r= .none∧∃h' tk,s₂={s with heap:=h',toks:=tk}∧h'.SetOf (strKind prog w) s.heap.objs.size (fun k=>decide (k∈Za [] xs)) (Za [] xs).length∧(∀b o,s.heap.get? b=some o→h'.get? b=some o)) E) F.called_set.init.plain F.entry_set_init (check_set_init_1 hT ?_)) fun r₂ s₂ hr₂=> ?_
   ·obtain ⟨ol,hol,hcl,nl,hdl⟩:=hl
    obtain ⟨ocls,odict,odata,oslots⟩:=ol
    simp only at hcl hdl
    subst hcl
    subst hdl
    have hol':(s.heap.push (zcL (zbr w))).get? l=some {cls:= .type "list",dict:=odict,data:= .seq items nl,slots:=oslots}:=Heap.get?_push_of_some _ hol
    have hsls:=F.sub_list_set
    have hslf:=F.sub_list_frozenset
    have hne:(Value.type "list"==Value.type "dict")=false:=by decide
    have hl1:(s.heap.push (zcL (zbr w))).IsList l items:=⟨_,hol',rfl,nl,rfl⟩
    unfold Builtin.«set.__init__» noKeywords Builtin.Frozenset.updateFrom
    generalize hPI:pyIter=PI
    wp_walk
    subst hPI
    refine wpAny_pyIter_list hl1 ?_
    refine wpAny_bind (wpAny_runValue ?_)
    have hlS:l<s.heap.objs.size:=Heap.lt_size hol
    have hh3:A.in1.in1.in1.handled=none:=by simp [hh]
    have hsz:(s.heap.push (zcL (zbr w))).objs.size=s.heap.objs.size+1:=Heap.size_push ..
    have hneI:l≠(s.heap.push (zcL (zbr w))).objs.size:=by rw [hsz];exact Nat.ne_of_lt (Nat.lt_succ_of_lt hlS)
    refine zjm ((Walks.list hh3 _ l hneI items).toS) s.heap.objs.size (by rw [hsz];simp only [List.mem_cons,List.mem_singleton,List.not_mem_nil,or_false,not_or];exact ⟨Nat.ne_of_lt (Nat.lt_succ_self _),Nat.ne_of_gt hlS⟩) xs hx wf hb (items.size-0) 0 _ (by omega) (Nat.zero_le _) ⟨⟨_,Heap.get?_push_size _ rfl,rfl,rfl⟩,hl1.push _⟩ ?_ ?_
    ·exact SetOf_congr ((setObjOf_fresh (knd:=strKind prog w) (zbr w)).setOf (Heap.get?_push_of_some _ hS) (by unfold scanBound;omega)) (fun k=>by simp [Za]) rfl
    intro s' hm hS'
    obtain ⟨h',g',d',tk',os'⟩:=s'
    have eg:g'=s.gens:=hm.gens
    have ed:d'=s.drawn:=hm.drawn
    have eo:os'=s.os:=hm.os
    subst eg
    subst ed
    subst eo
    show wpAny _ _ _ _ _ _
    refine wpAny_pure ?_
    show wpAny _ _ (ret Value.none) _ _ _
    refine wpAny_pure ⟨rfl,h',tk',rfl,hS',fun b o e=> ?_⟩
    have hb:=Heap.lt_size e
    exact hm.heap b o (by rw [hsz];simp only [List.mem_cons,List.mem_singleton,List.not_mem_nil,or_false,not_or];exact ⟨Nat.ne_of_lt hb,Nat.ne_of_lt (Nat.lt_succ_of_lt hb)⟩) (Heap.get?_push_of_some _ (Heap.get?_push_of_some _ e))
   ·cases r₂ with
    |error e=>exact hr₂
    |ok fl₂=>
     cases fl₂ with
     |ret r=>
      obtain ⟨rfl,h',tk,rfl,hS',hk'⟩:=hr₂
      repeat (any_goals (first|assumption|wp_step))
      exact h _ _ hS' hk'
     |_=>exact hr₂.elim
  |_=>exact hr.elim
end
noncomputable def zka (K:PySem.W.Frag):V→Hp→VK→Prop:=fun x H Q=>∃(p:Addr) (xs:List Str),x= .ref p∧SqL K H p (xs.map V.str)∧xs.length≤200∧Q (.int ((Za [] xs).length:Nat)) H
noncomputable def zkb (K:PySem.W.Frag) (te:TE):TE:=fun σ H Q=>te σ H fun x H1=>zka K x H1 Q
section
variable {X:Cx}
set_option maxHeartbeats 3200000 in
theorem zgO {K:PySem.W.Frag} {e:Expr} {te:TE} {p p2 pos pos2:Pos} (hc:X.calm=true) (hg:Gl X "len") (hm:X.mg "len"=none) (hg2:Gl X "set") (hm2:X.mg "set"=none) (ha:PE X e te) (hK:X.K=K:=by rfl)
  (he2:starEach [e] X.env=[(false,eval e X.env)]:=by rfl) (he:starEach [.Call (.Name "set" p2) [e] [] pos2] X.env=[(false,eval (.Call (.Name "set" p2) [e] [] pos2) X.env)]:=by rfl):
  PE X (.Call (.Name "len" p) [.Call (.Name "set" p2) [e] [] pos2] [] pos) (zkb K te):=by
 subst hK
 intro pins s σ H Q I h
 refine wpAny_Call_Name_kw (Xm I hg hm Boot.«len» ?_ (by decide) (by decide))
 refine PyProof.Rows.callWith_builtin1 ?_ he rfl
 rw [he]
 show wpAny _ _ (spliced ((false,eval (.Call (.Name "set" p2) [e] [] pos2) X.env)::backTo pos [])) _ _ s
 refine Calls.spliced_cons ?_
 refine wpAny_Call_Name_kw (Xm I hg2 hm2 Boot.«set» ?_ (by decide) (by decide))
 refine PyProof.Rows.callWith_type1 ?_ he2 rfl
 refine thn (za ha zg he2 pos2 pins s σ H (fun vs H1=>∃x,vs=[x]∧zka X.K x H1 Q) I ?_) ?_
 ·have h:te σ H _:=h
  show te σ H fun x H1=>∃y,[x]=[y]∧_
  simpa only [List.cons.injEq,and_true,exists_eq_left'] using h
 rintro us s1 ⟨vs,H1,I1,r1,x,rfl,a,xs,rfl,hq,h200,q⟩
 obtain ⟨u,rfl,ru⟩:=Xb r1
 cases ru
 obtain ⟨its,rv,pl,hz⟩:=I1.list hq
 have hl:xs.length=its.length:=by rw [←rv.length,List.length_map]
 refine zjn (xs:=xs) (I1.ok.hd hc) pl.isList (by rw [List.size_toArray];exact hl) (by rw [List.size_toArray];unfold scanBound;omega) (fun i v hv=> ?_) fun h' tk hS kp=> ?_
 ·have hv:its[i]? =some v:=by simpa using hv
  have hi:i<xs.length:=by rw [hl];exact (List.getElem?_eq_some_iff.1 hv).1
  obtain ⟨u,hu,t,ru⟩:=rv.get (i:=i) (x:=V.str xs[i]) (by rw [List.getElem?_map,List.getElem?_eq_getElem hi];rfl)
  rw [hu] at hv
  cases hv
  exact ⟨xs[i],t,List.getElem?_eq_getElem hi,ru⟩
 refine Calls.spliced_nil ?_
 have I2:Inv X pins σ H1 {s1 with heap:=h',toks:=tk}:=I1.kept kp
 obtain ⟨o,es,ep,t,ho,hex,hd,_,_,hsb,hft,hn⟩:=hS
 refine call_len_set (s:={s1 with heap:=h',toks:=tk}) ho hex hd hft (by unfold scanBound at hsb;omega) ?_
 rw [hn]
 exact ⟨.int _,H1,I2.tok _,⟨_,rfl⟩,q⟩
end
end L2
namespace L2
open PySem PySem.Spec PyProof.Rows PySem.Calls
section
variable {K:PySem.W.Frag} {E:XK}
noncomputable def zcN:D→D→Bool
 | .tup _,.tup _=>true
 | .lst _,.lst _=>true
 |_,_=>false
noncomputable def zlt (neg:Bool):Op2:=fun x y S=>match wf S 40 x,wf S 40 y with
 |some d,some e=>if zcN d e then (eqG 40 d e).map fun b=>(.bl (neg !=b),S) else none
 |_,_=>none
theorem ze7 {d e:D} (h:zcN d e=true):∃l m,(d= .tup l∧e= .tup m)∨(d= .lst l∧e= .lst m):=by
 unfold zcN at h
 split at h
 ·exact ⟨_,_,.inl ⟨rfl,rfl⟩⟩
 ·exact ⟨_,_,.inr ⟨rfl,rfl⟩⟩
 ·cases h
theorem zlu {neg:Bool}:YA K (zmN K neg) (zlt neg):=by
 intro F j σ H ρ S S' x y z u v Q E1 hx hy h k
 unfold zlt at h
 split at h
 ·rename_i d e e1 e2
  split at h
  ·rename_i hb
   cases hg:eqG 40 d e with
   |none=>rw [hg] at h;cases h
   |some b=>
    rw [hg] at h
    cases h
    exact ⟨d,e,b,ze7 hb,(zag E1 40 _ _ _ hx e1).1,(zag E1 40 _ _ _ hy e2).1,hg,k _ _ _ Ext.refl E1 (.bl _)⟩
  ·cases h
 ·cases h
end
section
variable {S:Sto} {x y:Xv} {P:Xv→Sto→Prop} {p q:Int}
end
end L2
namespace L2
open PySem PySem.Spec PyProof.Rows PySem.Calls
section
variable {K:PySem.W.Frag} {E:XK}
end
end L2
namespace L2
open PySem PySem.Spec PyProof.Rows PySem.Calls
section
variable {K:PySem.W.Frag} {E:XK}
end
end L2
namespace L2
open PySem PySem.Spec PyProof.Rows PySem.Calls
section
variable {K:PySem.W.Frag} {E:XK}
end
end L2
namespace L2
open PySem PySem.Spec PyProof.Rows PySem.Calls
end L2
namespace L2
open PySem PySem.Spec PyProof.Rows PySem.Calls
section
variable {K:PySem.W.Frag} {E:XK} {F:Fm} {j:List Addr} {H:Hp} {σ:St} {ρ:Rho} {S:Sto} {x y z:Xv} {u v w:V}
end
end L2
namespace L2
open PySem PySem.Spec PyProof.Rows PySem.Calls
section
variable {K:PySem.W.Frag} {j:List Addr} {H:Hp}
end
section
variable {ρ:Rho} {S:Sto} {P:Xv→Sto→Prop} {N:Rho→Sto→Prop} {R:Xv→Sto→Prop} {a b m z:TwE} {x y:Xv}
end
end L2
namespace L2
open PySem PySem.Spec PyProof.Rows PySem.Calls
noncomputable def zbt (S:Sto) (x:Xv) (nm:Str):Option (Nat×List (Str×Xv)):=match x with
 | .ref n=>match S[n]? with
  |some (.ins nm' fs)=>if nm'=nm then some (n,fs) else none
  |_=>none
 |_=>none
theorem Tj {S:Sto} {x:Xv} {nm:Str} {n:Nat} {fs:List (Str×Xv)} (h:zbt S x nm=some (n,fs)):x= .ref n∧S[n]? =some (.ins nm fs):=by
 unfold zbt at h
 split at h
 ·split at h
  ·split at h
   ·rename_i e1 e2
    cases h
    subst e2
    exact ⟨rfl,e1⟩
   ·cases h
  ·cases h
 ·cases h
theorem Ur {S:Sto} {nm:Str} {n:Nat} {fs:List (Str×Xv)} (h:S[n]? =some (.ins nm fs)):zbt S (.ref n) nm=some (n,fs):=by
 unfold zbt
 dsimp only
 rw [h]
 dsimp only
 rw [if_pos rfl]
noncomputable def Tk (f:Str) (v:Xv):List (Str×Xv)→List (Str×Xv)
 |[]=>[(f,v)]
 |(g,x)::r=>if g=f then (g,v)::r else (g,x)::Tk f v r
section
variable {K:PySem.W.Frag} {E:XK} {F:Fm} {j:List Addr} {H:Hp} {σ:St} {ρ:Rho} {S:Sto} {x:Xv} {v:V} {nm f m:Str} {C:Addr}
theorem KX.look:∀{fs:List (Str×Xv)} {vs:List (Str×V)},KX K j H fs vs→(∀y,fs.lookup f=some y→∃w,vs.lookup f=some w∧Xis K j H y w)∧(fs.lookup f=none→vs.lookup f=none)
 |_,_,.nil=>⟨(fun _ e=>by cases e),fun _=>rfl⟩
 |(g,y1)::r,(_,w1)::rs,.cons h l=>by
  obtain ⟨i1,i2⟩:=KX.look l
  rw [List.lookup_cons,List.lookup_cons]
  cases hb:(f==g) with
  |true=>exact ⟨(fun y e=>by cases e;exact ⟨w1,rfl,h⟩),(fun e=>by cases e)⟩
  |false=>exact ⟨i1,i2⟩
theorem KX.putF (hx:Xis K j H x v):∀{fs:List (Str×Xv)} {vs:List (Str×V)},KX K j H fs vs→KX K j H (Tk f x fs) (Yx f v vs)
 |_,_,.nil=> .cons hx .nil
 |(g,y1)::r,(_,w1)::rs,.cons h l=>by
  unfold Tk L2.Yx
  by_cases e:g=f
  ·rw [if_pos e,if_pos e];exact .cons hx l
  ·rw [if_neg e,if_neg e];exact .cons h (KX.putF hx l)
theorem En.ins {n:Nat} {fs:List (Str×Xv)} (hns:PySem.W.nsIn K mainGlobals nm=some (some (.ref C))) (E1:En K F j H σ ρ S) (hx:Xis K j H x v) (h:zbt S x nm=some (n,fs)):∃a dx vs,v= .ref a∧j[n]? =some a∧H a=some (.ins C dx vs)∧KX K j H fs vs:=by
 obtain ⟨rfl,hs⟩:=Tj h
 obtain ⟨a,rfl,hj⟩:=hx.ref_inv
 obtain ⟨C',dx,vs,e0,e1,e2⟩:=E1.cel _ _ _ hs hj
 rw [hns] at e0
 cases e0
 exact ⟨a,dx,vs,rfl,hj,e1,e2⟩
noncomputable def TF (nm f:Str) (o:TwE):TwE:=fun ρ S=>rb (o ρ S) fun x S1=>(zbt S1 x nm).bind fun p=>(p.2.lookup f).map fun y=> .ok y S1
theorem Ve {to:TE} {o:TwE} (hns:PySem.W.nsIn K mainGlobals nm=some (some (.ref C))) (hc:Cls K C) (hn:Ze K C f) (h:RE K E to o):RE K E (zmc K to f) (TF nm f o):=by
 intro F j σ H ρ S r Q En0 e k
 rcases zD e with ⟨x,S1,e1,e⟩|⟨c,S1,e1,rfl⟩
 ·refine h En0 e1 fun j1 H1 X1 E1 u hu=> ?_
  rw [Option.bind_eq_some_iff] at e
  obtain ⟨⟨n,fs⟩,e2,e⟩:=e
  rw [Option.map_eq_some_iff] at e
  obtain ⟨y,e3,rfl⟩:=e
  obtain ⟨a,dx,vs,rfl,hj,f1,f2⟩:=E1.ins hns hu e2
  obtain ⟨w,g1,g2⟩:=f2.look.1 y e3
  exact ⟨a,C,dx,vs,w,rfl,f1,hc,hn,g1,k _ _ X1 E1 _ g2⟩
 ·exact h En0 e1 k
noncomputable def zdW (nm f:Str) (o m:TwE):TwS:=fun ρ S=>sb (m ρ S) fun y S1=>sb (o ρ S1) fun x S2=>(zbt S2 x nm).bind fun p=>if p.2.length<1000 then some (.nx ρ (S2.set p.1 (.ins nm (Tk f y p.2)))) else none
theorem KX.len2:∀{fs:List (Str×Xv)} {vs:List (Str×V)},KX K j H fs vs→vs.length=fs.length
 |_,_,.nil=>rfl
 |_,_,.cons _ l=>by simp [l.len2]
theorem zcO {to tv:TE} {o m:TwE} (hns:PySem.W.nsIn K mainGlobals nm=some (some (.ref C))) (hc:Cls K C) (hn:Ze K C f) (ho:RE K E to o) (hv:RE K E tv m):RS K E (zmd K to tv f) (zdW nm f o m):=by
 intro F j D' σ H ρ S fl E0 e kk
 rcases wm e with ⟨y,S1,e1,e⟩|⟨c,S1,e1,rfl⟩
 ·refine hv E0 e1 fun j1 H1 X1 E1 wy hwy=> ?_
  rcases wm e with ⟨x,S2,e2,e⟩|⟨c,S2,e2,rfl⟩
  ·refine ho E1 e2 fun j2 H2 X2 E2 u hu=> ?_
   rw [Option.bind_eq_some_iff] at e
   obtain ⟨⟨n,fs⟩,e3,e⟩:=e
   dsimp only at e
   split at e
   ·rename_i hl
    cases e
    obtain ⟨a,dx,vs,rfl,hj,f1,f2⟩:=E2.ins hns hu e3
    obtain ⟨E4,X4⟩:=E2.write (o:= .ins C dx (L2.Yx f wy vs)) (c':= .ins nm (Tk f y fs)) (Tj e3).2 rfl hj rfl fun X=>⟨C,dx,_,hns,yS,(KX.putF (hwy.mono X2) f2).mono X⟩
    exact ⟨a,C,dx,vs,rfl,f1,hc,hn,by rw [f2.len2];exact hl,kk _ _ _ (X1.trans (X2.trans X4)) E4⟩
   ·cases e
  ·exact ho E1 e2 (PX.mono kk X1)
 ·exact hv E0 e1 kk
noncomputable def xT (nm m:Str) (tw:TwF) (o:TwE) (ms:List TwE):TwE:=fun ρ S=>rb (o ρ S) fun x S1=>(zbt S1 x nm).bind fun p=>if p.2.lookup m=none then rb (evL ms ρ S1) fun xs S2=>tw (x::xs) S2 else none
theorem xJ {n:Nat} {tw:TwF} {o:TwE} {to:TE} {ms:List TwE} {t:TA} (hns:PySem.W.nsIn K mainGlobals nm=some (some (.ref C))) (ho:RE K E to o) (h:RL K E t (evL ms)) (hn:ms.length+1=n:=by rfl):RE K E (zhi C m (sTw K n tw) [] E to t) (xT nm m tw o ms):=by
 intro F j σ H ρ S r Q En0 e k
 rcases zD e with ⟨x,S1,e1,e⟩|⟨c,S1,e1,rfl⟩
 ·refine ho En0 e1 fun j1 H1 X1 E1 u hu=> ?_
  rw [Option.bind_eq_some_iff] at e
  obtain ⟨⟨q,fs⟩,e2,e⟩:=e
  dsimp only at e
  split at e
  ·rename_i hlk
   obtain ⟨a,dx,vs0,rfl,hj,f1,f2⟩:=E1.ins hns hu e2
   refine ⟨a,dx,vs0,rfl,f1,f2.look.2 hlk,?_⟩
   rcases zD e with ⟨xs,S2,e3,e⟩|⟨c,S2,e3,rfl⟩
   ·refine h E1 e3 fun j2 H2 X2 E2 vs hv=> ?_
    rw [List.append_nil]
    exact Td E2 (.cons (hu.mono X2) hv) (by rw [List.length_cons,hv.len,WW e3,hn]) e (k.step (X1.trans X2))
   ·exact h E1 e3 (k.step X1)
  ·cases e
 ·exact ho En0 e1 k
noncomputable def ze8 (nm:Str) (tw:TwF) (ms:List TwE):TwE:=fun ρ S=>rb (evL ms ρ S) fun xs S1=>match tw (.ref S1.length::xs) (S1++[.ins nm []]) with
 |some (.ok .non S2)=>some (.ok (.ref S1.length) S2)
 |_=>none
theorem zhY {n:Nat} {tw:TwF} {ms:List TwE} {t:TA} (hns:PySem.W.nsIn K mainGlobals nm=some (some (.ref C))) (h:RL K E t (evL ms)) (hn:ms.length+1=n:=by rfl):RE K E (zjU C (sTw K n tw) [] E t) (ze8 nm tw ms):=by
 intro F j σ H ρ S r Q En0 e k
 rcases zD e with ⟨xs,S1,e1,e⟩|⟨c,S1,e1,rfl⟩
 ·refine h En0 e1 fun j1 H1 X1 E1 vs hv=> ?_
  intro x dx hx hdx hne
  rw [List.append_nil]
  split at e
  ·rename_i S2 e2
   cases e
   have hx':upd H1 dx (.own x) x=none:=by rw [yG (fun z=>hne z.symm)];exact hx
   obtain ⟨E2,X2⟩:=E1.new (p:=dx) (o:= .own x) hdx
   obtain ⟨E3,X3⟩:=E2.cell (p:=x) (o:= .ins C dx []) (c:= .ins nm []) hx' ⟨C,dx,[],hns,yS,.nil⟩
   have X23:=X2.trans X3
   have hr:Xis K (j1++[x]) (upd (upd H1 dx (.own x)) x (.ins C dx [])) (.ref S1.length) (.ref x):= .ref (by rw [←E1.jl];simp)
   refine Td E3 (.cons hr (hv.mono X23)) (by rw [List.length_cons,hv.len,WW e1,hn]) e2 fun j' H' X E4 v hw=> ?_
   exact ⟨hw.non_inv,k _ _ (X1.trans (X23.trans X)) E4 _ (hr.mono X)⟩
  ·cases e
 ·exact h En0 e1 k
end
section
variable {ρ:Rho} {S:Sto} {P:Xv→Sto→Prop} {N:Rho→Sto→Prop} {R:Xv→Sto→Prop} {o m:TwE} {ms:List TwE} {nm f:Str}
theorem Tl (h:W (o ρ S) fun x S1=>∃n fs y,x= .ref n∧S1[n]? =some (.ins nm fs)∧fs.lookup f=some y∧P y S1):W (TF nm f o ρ S) P:=
 W.bind (h.imp fun _ _ h=>by obtain ⟨n,fs,y,rfl,e1,e2,q⟩:=h;rw [Ur e1,Option.bind_some,e2];exact .of rfl q)
theorem zcP (h:W (m ρ S) fun y S1=>W (o ρ S1) fun x S2=>∃n fs,x= .ref n∧S2[n]? =some (.ins nm fs)∧fs.length<1000∧N ρ (S2.set n (.ins nm (Tk f y fs)))):WS (zdW nm f o m ρ S) N R:=
 WS.bind (h.imp fun _ _ h=>WS.bind (h.imp fun _ _ h=>by obtain ⟨n,fs,rfl,e1,e2,q⟩:=h;rw [Ur e1,Option.bind_some,if_pos e2];exact .nx rfl q))
theorem Us {tw:TwF} (h:W (o ρ S) fun x S1=>∃n fs,x= .ref n∧S1[n]? =some (.ins nm fs)∧fs.lookup f=none∧W (evL ms ρ S1) fun xs S2=>W (tw (x::xs) S2) P):W (xT nm f tw o ms ρ S) P:=
 W.bind (h.imp fun _ _ h=>by obtain ⟨n,fs,rfl,e1,e2,q⟩:=h;rw [Ur e1,Option.bind_some,if_pos e2];exact W.bind (q.imp fun _ _ h=>h))
theorem zjo {tw:TwF} (h:W (evL ms ρ S) fun xs S1=>W (tw (.ref S1.length::xs) (S1++[.ins nm []])) fun v S2=>v= .non∧P (.ref S1.length) S2):W (ze8 nm tw ms ρ S) P:=
 W.bind (h.imp fun xs S1 h=>by
  obtain ⟨v,S2,e,rfl,q⟩:=h
  rw [e]
  exact .of rfl q)
end
end L2
namespace L2
open PySem PySem.Spec PyProof.Rows PySem.Calls
section
variable {K:PySem.W.Frag} {E:XK} {j:List Addr} {H:Hp}
end
end L2
namespace L2
open PySem PySem.Spec PyProof.Rows PySem.Calls
section
variable {K:PySem.W.Frag} {E:XK} {F:Fm} {j:List Addr} {H:Hp} {σ:St} {ρ:Rho} {S:Sto} {x:Xv} {v:V} {c:Str} {C:Addr}
end
end L2
namespace L2
open PySem
section
variable {ρ:Rho} {S S':Sto} {x y:Xv} {a b m o:TwE} {c:TwT} {s t:TwS} {i k:Nat} {P:Xv→Sto→Prop} {PL:List Xv→Sto→Prop} {N:Rho→Sto→Prop} {R:Xv→Sto→Prop} {X:Str→Sto→Prop}
end
end L2
namespace L2
open PySem PySem.Spec PyProof.Rows PySem.Calls
section
variable {K:PySem.W.Frag} {E:XK} {F:Fm} {j:List Addr} {H:Hp} {σ:St} {ρ:Rho} {S:Sto} {x:Xv} {v:V} {nm f:Str} {C:Addr}
noncomputable def zhZ (nm f:Str) (o m:TwE):TwS:=fun ρ S=>sb (o ρ S) fun x S1=>(zbt S1 x nm).bind fun p=>match p.2.lookup f with
 |some (.int u)=>sb (m ρ S1) fun y S2=>match y with
  | .int w=>(zbt S2 x nm).bind fun q=>if q.2.length<1000 then some (.nx ρ (S2.set q.1 (.ins nm (Tk f (.int (u+w)) q.2)))) else none
  |_=>none
 |_=>none
theorem zjp {to tv:TE} {o m:TwE} (hns:PySem.W.nsIn K mainGlobals nm=some (some (.ref C))) (hc:Cls K C) (hn:Ze K C f) (ho:RE K E to o) (hv:RE K E tv m):RS K E (zfA K to tv zmf f) (zhZ nm f o m):=by
 intro F j D' σ H ρ S fl E0 e kk
 rcases wm e with ⟨x,S1,e1,e⟩|⟨c,S1,e1,rfl⟩
 ·refine ho E0 e1 fun j1 H1 X1 E1 u hu=> ?_
  rw [Option.bind_eq_some_iff] at e
  obtain ⟨⟨n,fs⟩,e2,e⟩:=e
  dsimp only at e
  split at e
  ·rename_i iu el
   obtain ⟨a,dx,vs,rfl,hj,f1,f2⟩:=E1.ins hns hu e2
   obtain ⟨w,g1,g2⟩:=f2.look.1 _ el
   have ew:=g2.int_inv
   subst ew
   refine ⟨a,C,dx,vs,_,rfl,f1,hc,hn,g1,?_⟩
   rcases wm e with ⟨y,S2,e3,e⟩|⟨c,S2,e3,rfl⟩
   ·refine hv E1 e3 fun j2 H2 X2 E2 wy hwy=> ?_
    split at e
    ·rename_i iw
     have:=hwy.int_inv
     subst this
     rw [Option.bind_eq_some_iff] at e
     obtain ⟨⟨n2,fs2⟩,e4,e⟩:=e
     dsimp only at e
     split at e
     ·rename_i hl
      cases e
      refine ⟨iu,iw,rfl,rfl,?_⟩
      obtain ⟨a',dx',vs',ea,hj',h1,h2⟩:=E2.ins hns (hu.mono X2) e4
      cases ea
      obtain ⟨E4,X4⟩:=E2.write (o:= .ins C dx' (L2.Yx f (.int (iu+iw)) vs')) (c':= .ins nm (Tk f (.int (iu+iw)) fs2)) (Tj e4).2 rfl hj' rfl fun X=>⟨C,dx',_,hns,yS,(KX.putF (.int _) h2).mono X⟩
      exact ⟨dx',vs',h1,by rw [h2.len2];exact hl,kk _ _ _ (X1.trans (X2.trans X4)) E4⟩
     ·cases e
    ·cases e
   ·exact hv E1 e3 (PX.mono kk X1)
  ·cases e
 ·exact ho E0 e1 kk
theorem zjq {N:Rho→Sto→Prop} {R:Xv→Sto→Prop} {o m:TwE} (h:W (o ρ S) fun x S1=>∃n fs u,x= .ref n∧S1[n]? =some (.ins nm fs)∧fs.lookup f=some (.int u)∧W (m ρ S1) fun y S2=>∃w fs2,y= .int w∧S2[n]? =some (.ins nm fs2)∧fs2.length<1000∧N ρ (S2.set n (.ins nm (Tk f (.int (u+w)) fs2)))):WS (zhZ nm f o m ρ S) N R:=
 WS.bind (h.imp fun _ _ h=>by
  obtain ⟨n,fs,u,rfl,e1,e2,h⟩:=h
  rw [Ur e1,Option.bind_some]
  dsimp only
  rw [e2]
  refine WS.bind (h.imp fun _ _ h=> ?_)
  obtain ⟨w,fs2,rfl,e3,e4,q⟩:=h
  dsimp only
  rw [Ur e3,Option.bind_some,if_pos e4]
  exact .nx rfl q)
end
end L2
namespace L2
open PySem PySem.Spec PyProof.Rows PySem.Calls
structure znq (tw:TwF) (S:Sto) (l:List Xv) (is:List (List Int)):Prop where
 len:is.length=l.length
 key:∀(i:Nat) x,l[i]? =some x→∃k,tw [x] S=some (.ok k S)∧k.tupOf=some ((is.getD i []).map Xv.int)
 fall:zmO is
section
variable {K:PySem.W.Frag} {E:XK} {j:List Addr} {H:Hp}
end
end L2
namespace L2
open PySem PySem.Spec PyProof.Rows PySem.Calls
section
variable {K:PySem.W.Frag} {E:XK} {F:Fm} {j:List Addr} {H:Hp} {σ:St} {ρ:Rho} {S:Sto}
end
end L2
namespace L2
open PySem PySem.Spec PyProof.Rows PySem.Calls
section
variable {K:PySem.W.Frag} {E:XK}
end
section
variable {K:PySem.W.Frag} {E:XK}
end
end L2
namespace L2
open PySem PySem.Spec PyProof.Rows PySem.Calls
section
variable {K:PySem.W.Frag} {E:XK}
end
section
variable {S:Sto} {x y:Xv} {P:Xv→Sto→Prop}
end
end L2
namespace L2
open PySem PySem.Spec PyProof.Rows PySem.Calls
section
variable {K:PySem.W.Frag} {E:XK}
end
end L2
namespace L2
open PySem PySem.Spec PyProof.Rows PySem.Calls
noncomputable def wM (y:Str):List Xv:=y.cps.toList.map fun c=>Xv.str ⟨#[c]⟩
noncomputable def iS (m:TwE):TwI:=fun ρ S=>rb (m ρ S) fun x S1=>match x with
 | .str y=>if y.cps.all (· <128)=true then some (.ok (fun _=>some (wM y)) S1) else none
 |_=>none
noncomputable def inS (i j:Str):Bool:= !(Builtin.Str.occurrences j i 0 j.length 1).isEmpty
noncomputable def znj:V→V→Hp→VK→Prop:=fun x y H Q=>∃i j,x= .str i∧y= .str j∧Q (.bl (!(Builtin.Str.occurrences j i 0 j.length 1).isEmpty)) H
noncomputable def zgP:Xv→Xv→Sto→Option (Xv×Sto):=fun x y S=>match x,y with
 | .str i,.str j=>some (.bl (inS i j),S)
 |_,_=>none
section
variable {K:PySem.W.Frag} {E:XK}
theorem zlv {j:List Addr} {H:Hp} {y:Str}:ziY K j H (Its y) (fun _=>some (wM y)):=by
 intro F2 j2 H2 σ2 ρ2 S2 xs i X2 E2 e2
 cases e2
 refine ⟨fun d hd=> ?_,fun hle=> ?_⟩
 ·unfold wM at hd
  rw [List.getElem?_map,Option.map_eq_some_iff] at hd
  obtain ⟨c,h1,rfl⟩:=hd
  have h1:y.cps[i]? =some c:=by rw [←h1];simp
  refine ⟨⟨c,h1⟩,?_⟩
  rintro x H' ⟨rfl,c',h2,rfl⟩
  rw [h1] at h2
  cases h2
  exact ⟨VZ.refl _,.str _⟩
 ·unfold wM at hle
  simp at hle
  show y.cps[i]? =none
  simp
  omega
theorem zlw {t:TE} {m:TwE} (h:RE K E t m):RI K E (zmR t) (iS m):=by
 intro F j σ H ρ S r R En0 e k
 rcases zD e with ⟨x,S1,e1,e⟩|⟨c,S1,e1,rfl⟩
 ·split at e
  ·split at e
   ·rename_i y hb
    cases e
    refine h En0 e1 fun j1 H1 X1 E1 u hu=> ?_
    cases hu
    exact ⟨y,rfl,hb,k _ _ X1 E1 _ zlv⟩
   ·cases e
  ·cases e
 ·exact h En0 e1 k
theorem zlx:YA K znj zgP:=by
 intro F j σ H ρ S S' x y z u v Q E1 hx hy h k
 unfold zgP at h
 split at h
 ·cases h
  cases hx
  cases hy
  exact ⟨_,_,rfl,rfl,k _ _ _ Ext.refl E1 (.bl _)⟩
 ·cases h
end
section
variable {m:TwE} {ρ:Rho} {S:Sto}
theorem zkc {Q':(Sto→Option (List Xv))→Sto→Prop} (h:W (m ρ S) fun x S1=>∃y,x= .str y∧y.cps.all (· <128)=true∧Q' (fun _=>some (wM y)) S1):W (iS m ρ S) Q':=W.bind (h.imp fun x S1 h=>by
 obtain ⟨y,rfl,e,k⟩:=h
 dsimp only
 rw [if_pos e]
 exact .of rfl k)
theorem zh0 {i j:Str} {P:Xv→Sto→Prop} (k:P (.bl (inS i j)) S):WO (zgP (.str i) (.str j) S) P:= .of rfl k
end
end L2
namespace L2
open PySem PySem.Spec PyProof.Rows PySem.Calls
noncomputable def zgQ:Xv→Sto→Option (Xv×Sto):=fun x S=>x.tupOf.bind fun l=>if l.length=1∨l.length=3 then some (.tup (xY l),S) else none
noncomputable def zaS (k:Int):Xv→Sto→Option (Xv×Sto):=fun x S=>((yx S x).bind Xf).map fun ns=>(.int (zcM k ns),S)
noncomputable def Ut:List Xv→Option (List Str)
 |[]=>some []
 | .str i::r=>(Ut r).map (i:: ·)
 |_::_=>none
noncomputable def Uu:Xv→Sto→Option (Xv×Sto):=fun x S=>((yx S x).bind Ut).bind fun xs=>if xs.length≤200 then some (.int ((Za [] xs).length:Nat),S) else none
noncomputable def zdX:List Xv→Option (List (Key×Xv))
 |[]=>some []
 | .tup [.str n,x]::r=>(zdX r).map ((.inr n,x):: ·)
 |_::_=>none
noncomputable def zcQ:Opn:=fun xs S=>match xs with
 |[.tup l]=>(zdX l).bind fun kvs=>if (kvs.map (·.1)).Nodup then some (.ref S.length,S++[.dk kvs]) else none
 |_=>none
theorem zjr {K:PySem.W.Frag} {j:List Addr} {H:Hp} {xs:List Xv} {vs:List V} (h:yC K j H xs vs):yC K j H (xY xs) (xY vs):=by
 unfold xY
 split
 ·cases h with|cons h1 h=>cases h with|cons h2 h=>cases h with|cons h3 h=>cases h;exact .cons h1 (.cons h3 .nil)
 ·rename_i hx
  split
  ·cases h with|cons h1 h=>cases h with|cons h2 h=>cases h with|cons h3 h=>cases h;exact absurd rfl (hx _ _ _)
  ·exact h
theorem zaT {K:PySem.W.Frag} {j:List Addr} {H:Hp}:∀{xs:List Xv} {ns:List Str} {vs:List V},Ut xs=some ns→yC K j H xs vs→vs=ns.map V.str
 |[],ns,vs,e,h=>by cases e;cases h;rfl
 |x::r,ns,vs,e,h=>by
  unfold Ut at e
  split at e
  ·rename_i h0;cases h0
  ·rename_i i r' h0
   cases h0
   rw [Option.map_eq_some_iff] at e
   obtain ⟨ms,e1,rfl⟩:=e
   cases h with|cons h1 h2=>cases h1;rw [zaT e1 h2];rfl
  ·cases e
theorem zfY {K:PySem.W.Frag} {j:List Addr} {H:Hp}:∀{xs:List Xv} {kvs:List (Key×Xv)} {vs:List V},zdX xs=some kvs→yC K j H xs vs→∃ks,KX K j H kvs ks∧Paired (PrT H) vs ks∧ks.map (·.1)=kvs.map (·.1)
 |[],kvs,vs,e,h=>by cases e;cases h;exact ⟨[],.nil,.nil,rfl⟩
 |x::r,kvs,vs,e,h=>by
  unfold zdX at e
  split at e
  ·rename_i h0;cases h0
  ·rename_i n y r' h0
   cases h0
   rw [Option.map_eq_some_iff] at e
   obtain ⟨ms,e1,rfl⟩:=e
   cases h with
   |cons h1 h2=>
    obtain ⟨ks,g1,g2,g3⟩:=zfY e1 h2
    cases h1 with
    |tup f1 f2=>
     cases f2 with
     |cons q1 q2=>
      cases q1
      cases q2 with
      |cons q3 q4=>
       cases q4
       rename_i a v
       exact ⟨(.inr n,v)::ks,.cons q3 g1,.cons ⟨a,rfl,f1⟩ g2,by rw [List.map_cons,List.map_cons,g3]⟩
  ·cases e
section
variable {K:PySem.W.Frag} {E:XK}
theorem zh1 {to:TE} {o:TwE} (h:RE K E to o):RE K E (zmS K to) (eUn zgQ o):=by
 intro F j σ H ρ S r Q En0 e k
 rcases zD e with ⟨x,S1,e1,e⟩|⟨c,S1,e1,rfl⟩
 ·refine h En0 e1 fun j1 H1 X1 E1 u hu=> ?_
  obtain ⟨z,S2,e2,rfl⟩:=wc e
  unfold zgQ at e2
  rw [Option.bind_eq_some_iff] at e2
  obtain ⟨l,e3,e4⟩:=e2
  split at e4
  ·rename_i hl
   cases e4
   obtain ⟨a,vs,rfl,f1,f2⟩:=hu.tupO e3
   refine ⟨a,vs,rfl,f1,by rw [f2.len];exact hl,fun p hp=> ?_⟩
   obtain ⟨E2,X2⟩:=E1.new (p:=p) (o:= .tup (xY vs)) hp
   exact k _ _ (X1.trans X2) E2 _ (.tup yS (zjr (f2.mono X2)))
  ·cases e4
 ·exact h En0 e1 k
theorem zfZ {to:TE} {o:TwE} {i:Int} (h:RE K E to o):RE K E (zj9 K i to) (eUn (zaS i) o):=by
 intro F j σ H ρ S r Q En0 e k
 rcases zD e with ⟨x,S1,e1,e⟩|⟨c,S1,e1,rfl⟩
 ·refine h En0 e1 fun j1 H1 X1 E1 u hu=> ?_
  obtain ⟨z,S2,e2,rfl⟩:=wc e
  unfold zaS at e2
  rw [Option.map_eq_some_iff] at e2
  obtain ⟨ns,e3,e4⟩:=e2
  cases e4
  rw [Option.bind_eq_some_iff] at e3
  obtain ⟨l,e3,e5⟩:=e3
  obtain ⟨p,ws,rfl,h1,h2⟩:=E1.lstAt hu e3
  refine ⟨p,ns,rfl,?_,k _ _ X1 E1 _ (.int _)⟩
  rw [←Uh e5 h2]
  exact h1.sql
 ·exact h En0 e1 k
theorem zgR {to:TE} {o:TwE} (h:RE K E to o):RE K E (zkb K to) (eUn Uu o):=by
 intro F j σ H ρ S r Q En0 e k
 rcases zD e with ⟨x,S1,e1,e⟩|⟨c,S1,e1,rfl⟩
 ·refine h En0 e1 fun j1 H1 X1 E1 u hu=> ?_
  obtain ⟨z,S2,e2,rfl⟩:=wc e
  unfold Uu at e2
  rw [Option.bind_eq_some_iff] at e2
  obtain ⟨ns,e3,e4⟩:=e2
  rw [Option.bind_eq_some_iff] at e3
  obtain ⟨l,e3,e5⟩:=e3
  split at e4
  ·rename_i hl
   cases e4
   obtain ⟨p,ws,rfl,h1,h2⟩:=E1.lstAt hu e3
   refine ⟨p,ns,rfl,?_,hl,k _ _ X1 E1 _ (.int _)⟩
   rw [←zaT e5 h2]
   exact h1.sql
  ·cases e4
 ·exact h En0 e1 k
theorem zh2:Uc K zhW zcQ:=by
 intro F j σ H ρ S S' xs z vs Q E1 hv h k
 unfold zcQ at h
 split at h
 ·rename_i l
  rw [Option.bind_eq_some_iff] at h
  obtain ⟨kvs,e,h⟩:=h
  split at h
  ·rename_i nd
   cases h
   obtain ⟨w,rfl,hx⟩:=hv.d1
   cases hx with
   |tup f1 f2=>
    obtain ⟨ks,g1,g2,g3⟩:=zfY e f2
    refine ⟨_,_,ks,rfl,f1,g2,by rw [g3];exact nd,fun p hp=> ?_⟩
    have X:Ext j H (j++[p]) (upd H p (.dK ks)):=⟨fun n a e=>by rw [List.getElem?_append_left (List.getElem?_eq_some_iff.1 e).1];exact e,Zr.same (wU hp)⟩
    obtain ⟨E2,X2⟩:=E1.cell (o:= .dK ks) (c:= .dk kvs) hp ⟨ks,yS,g1.mono X⟩
    exact k _ _ _ X2 E2 (.ref (by rw [←E1.jl];simp))
  ·cases h
 ·cases h
end
section
variable {S:Sto} {x:Xv} {P:Xv→Sto→Prop}
theorem zh3 {l:List Xv} (h:x.tupOf=some l) (hl:l.length=1∨l.length=3) (k:P (.tup (xY l)) S):WO (zgQ x S) P:= .of (by unfold zgQ;rw [h,Option.bind_some,if_pos hl]) k
theorem zf0 {i:Int} {l:List Xv} {ns:List Int} (h:yx S x=some l) (h2:Xf l=some ns) (k:P (.int (zcM i ns)) S):WO (zaS i x S) P:= .of (by unfold zaS;rw [h,Option.bind_some,h2];rfl) k
theorem zgS {l:List Xv} {xs:List Str} (h:yx S x=some l) (h2:Ut l=some xs) (hl:xs.length≤200) (k:P (.int ((Za [] xs).length:Nat)) S):WO (Uu x S) P:= .of (by unfold Uu;rw [h,Option.bind_some,h2,Option.bind_some,if_pos hl]) k
theorem zh4 {l:List Xv} {kvs:List (Key×Xv)} (h:zdX l=some kvs) (nd:(kvs.map (·.1)).Nodup) (k:P (.ref S.length) (S++[.dk kvs])):WO (zcQ [.tup l] S) P:= .of (by show ((zdX l).bind _)=_;rw [h,Option.bind_some,if_pos nd]) k
end
end L2
namespace L2
open PySem PySem.Spec PyProof.Rows PySem.Calls
section
variable {X:Cx} {tg:Expr}
end
section
variable {K:PySem.W.Frag} {E:XK}
end
section
variable {m:TwE} {ρ:Rho} {S:Sto}
end
end L2
namespace L2
open PySem PySem.Spec PyProof.Rows PyProof
open Builtin Builtin.Str
section
variable {X:Cx}
theorem zb9:∀{ts:List Str} {its:List Value},yr (ts.map V.str) its→∃l:List (Str×Tok),its=strValues l∧l.map (·.1)=ts
 |[],its,h=>by
  cases h
  exact ⟨[],rfl,rfl⟩
 |t::r,its,h=>by
  cases h with
  |cons rx rr=>
   obtain ⟨k,rfl⟩:=rx
   obtain ⟨l,rfl,rfl⟩:=zb9 rr
   exact ⟨(t,k)::l,rfl,rfl⟩
theorem zca:∀(l:List (Str×Tok)),yr ((l.map (·.1)).map V.str) (strValues l)
 |[]=> .nil
 |(t,k)::r=> .cons ⟨k,rfl⟩ (zca r)
noncomputable def zkd:V→List V→Hp→VK→Prop:=fun x vs H Q=>∃(sep:Str) (a:Addr) (ts:List Str),x= .str sep∧vs=[.ref a]∧H a=some (.lst (ts.map V.str))∧JoinOk sep ts=true∧Q (.str (Txt.join sep ts)) H
theorem zai:MtM X "str.join" zkd:=by
 intro pins s σ H x vs v us Q I rx rv h
 obtain ⟨sep,a,ts,rfl,rfl,hH,hok,q⟩:=h
 obtain ⟨t,rfl⟩:=rx
 obtain ⟨u,rfl,ru⟩:=rv.one
 cases ru
 obtain ⟨zl,its,n,r,hll,e⟩:=I.lstM hH
 obtain ⟨l,rfl,hl⟩:=zb9 r
 exact SC.join (l:=l) (texts:=ts) ⟨_,e,rfl,_,rfl⟩ hl hok fun t' k=>⟨.str _,H,I.tok _,⟨_,rfl⟩,q⟩
noncomputable def zh5:V→List V→Hp→VK→Prop:=fun x vs H Q=>∃(z sep:Str),x= .str z∧vs=[.str sep]∧z.length≤sizeLine∧(sep.length==0)=false∧(Txt.split z sep).length≤sizeLine∧∀a,H a=none→Q (.ref a) (upd H a (.lst ((Txt.split z sep).map V.str)))
theorem zdY:MtM X "str.split" zh5:=by
 intro pins s σ H x vs v us Q I rx rv h
 obtain ⟨z,y,rfl,rfl,hz,hy,hl,q⟩:=h
 obtain ⟨t,rfl⟩:=rx
 obtain ⟨_,rfl,u,rfl⟩:=rv.one
 have hf:H s.heap.objs.size=none:=I.hok.fresh (Nat.le_refl _)
 have fin:∀(l:List (Str×Tok)) (k:Nat),l.map (·.1)=Txt.split z y→EP X pins σ Q (.ref s.heap.objs.size) {s with toks:=k,heap:=s.heap.push {cls:= .type "list",data:= .seq (strValues l).toArray}}:=by
  intro l k e
  refine ⟨.ref s.heap.objs.size,upd H s.heap.objs.size (.lst ((Txt.split z y).map V.str)),I.laid (t':=k) (fun b u e=>Heap.get?_push_of_some _ e) (Nat.le_refl _) ?_,rfl,q _ hf⟩
  exact ⟨by rw [List.length_map];exact hl,strValues l,0,by rw [←e];exact zca l,Heap.get?_push_size _ rfl⟩
 cases h1:(decide (z.length<y.length)||decide (strKind z<strKind y))
 ·cases hf:(occurrences z y 0 z.length (z.length+1)).isEmpty
  ·have hsp:Txt.split z y=partsBetween z (occurrences z y 0 z.length (z.length+1)) y.length:=(if_neg (ne_true_of_eq_false h1)).trans (if_neg (ne_true_of_eq_false hf))
   refine call_meets F.slot_str_split (typeIs_str _ _ _) F.entry_str_split (F.args_str_split_2 _ _) (meets_str_split_sep z y t u h1 hy hf hz (by rw [←hsp];exact hl)) ?_
   show wants _ _ _ {s with toks:=_,heap:=s.heap.push {cls:= .type "list",data:= .seq (strsFrom s.toks (partsBetween z (occurrences z y 0 z.length (z.length+1)) y.length)).toArray}}
   rw [strsFrom_eq]
   exact fin (numbered s.toks _) _ ((numbered_texts _ _).trans hsp.symm)
  ·exact call_meets F.slot_str_split (typeIs_str _ _ _) F.entry_str_split (F.args_str_split_2 _ _) (meets_str_split_not_found z y t u h1 hy hf) (fin [(z,t)] _ ((if_neg (ne_true_of_eq_false h1)).trans (if_pos hf)).symm)
 ·exact call_meets F.slot_str_split (typeIs_str _ _ _) F.entry_str_split (F.args_str_split_2 _ _) (meets_str_split_cannot_occur z y t u h1) (fin [(z,t)] _ (if_pos h1).symm)
end
end L2
namespace L2
open PySem PySem.Spec PyProof.Rows PyProof
section
variable {X:Cx}
noncomputable def zaU:V→Option Str
 | .int i=>if i.natAbs.log2<1920 then some (toString i) else none
 | .str z=>some z
 |_=>none
theorem zcb {x:V} {v:Value} {z:Str} (rx:yA x v) (h:zaU x=some z):(∃i t,v= .int i t∧i.natAbs.log2<1920∧z=toString i)∨∃t,v= .str z t:=by
 cases x with
 |int i=>
  obtain ⟨t,rfl⟩:=rx
  have h:(if i.natAbs.log2<1920 then some (Str.ofString (toString i)) else none)=some z:=h
  split at h
  ·cases h;exact .inl ⟨_,_,rfl,by assumption,rfl⟩
  ·cases h
 |str y=>
  obtain ⟨t,rfl⟩:=rx
  cases h
  exact .inr ⟨t,rfl⟩
 |_=>cases h
theorem Vf:vq X (.type "str") (fun xs H Q=>∃x z,xs=[x]∧zaU x=some z∧Q (.str z) H):=by
 intro pins s σ H xs us Q I r h
 obtain ⟨x,z,rfl,hz,q⟩:=h
 obtain ⟨u,rfl,ru⟩:=Xb r
 rcases zcb ru hz with ⟨i,t,rfl,hi,rfl⟩|⟨t,rfl⟩
 ·exact PySem.P.str_of_int hi ⟨.str _,H,I.tok _,⟨_,rfl⟩,q⟩
 ·exact PySem.P.str_of_str ⟨.str _,H,I,⟨_,rfl⟩,q⟩
theorem zcc:vq X (.type "int") (fun xs H Q=>∃x n,xs=[.str x]∧x.length≤640∧PySem.intText? x=some n∧Q (.int n) H):=by
 intro pins s σ H xs us Q I r h
 obtain ⟨x,n,rfl,hl,hn,q⟩:=h
 obtain ⟨u,rfl,t,rfl⟩:=Xb r
 exact PySem.W.KIN.call_text hn hl ⟨.int n,H,I.tok _,⟨_,rfl⟩,q⟩
noncomputable def zmT (te:TE):TE:=fun σ H Q=>te σ H fun x H1=>∃z,zaU x=some z∧z.length≤sizeLine∧Q (.str z) H1
theorem zh6 {e:Expr} {te:TE} {pos:Pos} (he:PE X e te):PE X (.FormattedValue e (-1) none pos) (zmT te):=by
 intro pins s σ H Q I h
 refine wpAny_FormattedValue_plain (thn (he pins s σ H _ I h) ?_)
 rintro v s1 ⟨x,H1,I1,rx,z,hz,hl,q⟩
 rcases zcb rx hz with ⟨i,t,rfl,hi,rfl⟩|⟨t,rfl⟩
 ·exact wpAny_formatField_int hi ⟨.str _,H1,I1.tok _,⟨_,rfl⟩,q⟩
 ·exact wpAny_formatField_str ⟨.str _,H1,I1,⟨_,rfl⟩,q⟩ ⟨.str _,H1,I1.tok _,⟨_,rfl⟩,q⟩ hl
noncomputable def tJn:List TE→Str→TE
 |[],acc=>fun _ H Q=>Q (.str acc) H
 |t::r,acc=>fun σ H Q=>t σ H fun x H1=>∃z,x= .str z∧(acc++z).length≤sizeLine∧tJn r (acc++z) σ H1 Q
inductive PJ (X:Cx):List Expr→List TE→Prop where
 |nil:PJ X [] []
 |cons {e:Expr} {es:List Expr} {t:TE} {ts:List TE}:PE X e t→PJ X es ts→PJ X (e::es) (t::ts)
theorem PJ.joins {es:List Expr} {ts:List TE} (h:PJ X es ts):∀(acc:Str) (pins:List (Addr×Obj)) (s:Shared) (σ:St) (H:Hp) (Q:VK),acc.length≤sizeLine→Inv X pins σ H s→tJn ts acc σ H Q→
  Joins (model X.prog X.w) X.A X.xe (evalEach es X.env) acc (fun out s1=>out.length≤sizeLine∧EP X pins σ Q (.str out s1.toks) {s1 with toks:=s1.toks+1}) s:=by
 induction h with
 |nil=>intro acc pins s σ H Q hl I q;exact ⟨hl,.str _,H,I.tok _,⟨_,rfl⟩,q⟩
 |cons he hr ih=>
  intro acc pins s σ H Q hl I h
  show wpAny _ _ _ _ _ _
  refine thn (he pins s σ H _ I h) ?_
  rintro v s1 ⟨x,H1,I1,rx,z,ez,hz,q⟩
  subst ez
  obtain ⟨t,rfl⟩:=rx
  exact ⟨z,t,rfl,hz,ih _ pins s1 σ H1 Q hz I1 q⟩
theorem zjs {e1 e2:Expr} {es:List Expr} {ts:List TE} {pos:Pos} (h:PJ X (e1::e2::es) ts):PE X (.JoinedStr (e1::e2::es) pos) (tJn ts Str.empty):=by
 intro pins s σ H Q I q
 exact wpAny_JoinedStr (h.joins Str.empty pins s σ H Q (Nat.zero_le _) I q)
end
end L2
namespace L2
open PySem PySem.Spec PyProof.Rows
noncomputable def zjt:Xv→Option Str
 | .str z=>some z
 |_=>none
theorem zf1 {x:Xv} {z:Str} (h:zjt x=some z):x= .str z:=by
 cases x with
 |str y=>cases h;rfl
 |_=>cases h
noncomputable def ze9:Xv→Option Str
 | .int i=>if i.natAbs.log2<1920 then some (toString i) else none
 | .str z=>some z
 |_=>none
section
variable {K:PySem.W.Frag} {E:XK} {F:Fm} {j:List Addr} {H:Hp} {σ:St} {ρ:Rho} {S:Sto}
theorem zdZ {x:Xv} {u:V} {z:Str} (h:ze9 x=some z) (hu:Xis K j H x u):zaU u=some z:=by
 cases x with
 |int i=>cases hu;exact h
 |str y=>cases hu;exact h
 |_=>cases h
noncomputable def zbu (f:OpM) (o:TwE) (ms:List TwE):TwE:=fun ρ S=>rb (o ρ S) fun x S1=>(zjt x).bind fun _=>rb (evL ms ρ S1) fun ys S2=>okP (f x ys S2)
theorem Tm {r:V→List V→Hp→VK→Prop} {f:OpM} {to:TE} {t:TA} {o:TwE} {ms:List TwE} (hr:zgD K r f) (ho:RE K E to o) (ht:RL K E t (evL ms)):RE K E (tBM K "str" r to t) (zbu f o ms):=by
 intro F j σ H ρ S r Q En0 e k
 rcases zD e with ⟨x,S1,e1,e⟩|⟨c,S1,e1,rfl⟩
 ·refine ho En0 e1 fun j1 H1 X1 E1 u hu=> ?_
  cases el:zjt x with
  |none=>rw [el] at e;cases e
  |some l=>
   rw [el] at e
   have hx:=zf1 el
   subst hx
   refine ⟨by cases hu;exact rfl,?_⟩
   rcases zD e with ⟨ys,S2,e2,e⟩|⟨c,S2,e2,rfl⟩
   ·obtain ⟨z,S3,e3,rfl⟩:=wc e
    exact ht E1 e2 fun j2 H2 X2 E2 ws hw=>hr E2 (hu.mono X2) hw e3 fun w j3 H3 X3 E3 hz=>k _ _ (X1.trans (X2.trans X3)) E3 _ hz
   ·exact ht E1 e2 (PX.mono k X1)
 ·exact ho En0 e1 k
noncomputable def Uv:OpM:=fun x ys S=>match x,ys with
 | .str sep,[y]=>(Ue S y).bind fun p=>(Ut p.2).bind fun ts=>if JoinOk sep ts=true then some (.str (Txt.join sep ts),S) else none
 |_,_=>none
theorem zaj:zgD K zkd Uv:=by
 intro F j σ H ρ S S' x z ys u vs Q E0 hx hy h k
 unfold Uv at h
 split at h
 ·rename_i sep y
  rw [Option.bind_eq_some_iff] at h
  obtain ⟨⟨n,l⟩,e,h⟩:=h
  rw [Option.bind_eq_some_iff] at h
  obtain ⟨ts,e2,h⟩:=h
  split at h
  ·rename_i hj
   cases h
   cases hx
   obtain ⟨w0,rfl,hw⟩:=hy.d1
   obtain ⟨a,ws,rfl,hj2,h1,h2⟩:=E0.wl hw e
   have:=zaT e2 h2
   subst this
   exact ⟨sep,a,ts,rfl,rfl,h1,hj,k _ _ _ Ext.refl E0 (.str _)⟩
  ·cases h
 ·cases h
theorem zd0:∀ts:List Str,yC K j H (ts.map Xv.str) (ts.map V.str)
 |[]=> .nil
 |t::r=> .cons (.str t) (zd0 r)
noncomputable def VG:OpM:=fun x ys S=>match x,ys with
 | .str z,[.str sep]=>if z.length≤sizeLine∧(sep.length==0)=false∧(Txt.split z sep).length≤sizeLine then some (.ref S.length,S++[.lst ((Txt.split z sep).map Xv.str)]) else none
 |_,_=>none
theorem zd1:zgD K zh5 VG:=by
 intro F j σ H ρ S S' x z ys u vs Q E0 hx hy h k
 unfold VG at h
 split at h
 ·rename_i z sep
  split at h
  ·rename_i hc
   cases h
   cases hx
   obtain ⟨w0,rfl,hw⟩:=hy.d1
   cases hw
   refine ⟨z,sep,rfl,rfl,hc.1,hc.2.1,hc.2.2,fun a ha=> ?_⟩
   obtain ⟨E2,X2,h3⟩:=E0.lst (zd0 (Txt.split z sep)) ha
   exact k _ _ _ X2 E2 h3
  ·cases h
 ·cases h
noncomputable def zbv:Opn:=fun xs S=>match xs with
 |[x]=>(ze9 x).map fun z=>(.str z,S)
 |_=>none
theorem zak:Uc K (fun xs H Q=>∃x z,xs=[x]∧zaU x=some z∧Q (.str z) H) zbv:=by
 intro F j σ H ρ S S' xs z vs Q E1 hv h k
 unfold zbv at h
 split at h
 ·rename_i x
  rw [Option.map_eq_some_iff] at h
  obtain ⟨y,e,h⟩:=h
  cases h
  obtain ⟨w,rfl,hx⟩:=hv.d1
  exact ⟨w,y,rfl,zdZ e hx,k _ _ _ Ext.refl E1 (.str _)⟩
 ·cases h
noncomputable def zcd:Opn:=fun xs S=>match xs with
 |[.str z]=>if z.length≤640 then (PySem.intText? z).map fun n=>(.int n,S) else none
 |_=>none
theorem zf2:Uc K (fun xs H Q=>∃x n,xs=[V.str x]∧x.length≤640∧PySem.intText? x=some n∧Q (.int n) H) zcd:=by
 intro F j σ H ρ S S' xs z vs Q E1 hv h k
 unfold zcd at h
 split at h
 ·rename_i x
  split at h
  ·rename_i hl
   rw [Option.map_eq_some_iff] at h
   obtain ⟨n,e,h⟩:=h
   cases h
   obtain ⟨w,rfl,hx⟩:=hv.d1
   cases hx
   exact ⟨x,n,rfl,hl,e,k _ _ _ Ext.refl E1 (.int _)⟩
  ·cases h
 ·cases h
noncomputable def zgT:Xv→Sto→Option (Xv×Sto):=fun x S=>(ze9 x).bind fun z=>if z.length≤sizeLine then some (.str z,S) else none
theorem zh7 {to:TE} {o:TwE} (h:RE K E to o):RE K E (zmT to) (eUn zgT o):=by
 intro F j σ H ρ S r Q En0 e k
 rcases zD e with ⟨x,S1,e1,e⟩|⟨c,S1,e1,rfl⟩
 ·refine h En0 e1 fun j1 H1 X1 E1 u hu=> ?_
  obtain ⟨z,S2,e2,rfl⟩:=wc e
  unfold zgT at e2
  rw [Option.bind_eq_some_iff] at e2
  obtain ⟨y,e3,e4⟩:=e2
  split at e4
  ·rename_i hl
   cases e4
   exact ⟨y,zdZ e3 hu,hl,k _ _ X1 E1 _ (.str _)⟩
  ·cases e4
 ·exact h En0 e1 k
noncomputable def eJn:List TwE→Str→TwE
 |[],acc=>fun _ S=>some (.ok (.str acc) S)
 |m::r,acc=>fun ρ S=>rb (m ρ S) fun x S1=>(zjt x).bind fun z=>if (acc++z).length≤sizeLine then eJn r (acc++z) ρ S1 else none
inductive RJ (K:PySem.W.Frag) (E:XK):List TE→List TwE→Prop where
 |nil:RJ K E [] []
 |cons {t:TE} {ts:List TE} {m:TwE} {ms:List TwE}:RE K E t m→RJ K E ts ms→RJ K E (t::ts) (m::ms)
theorem RJ.re {ts:List TE} {ms:List TwE} (h:RJ K E ts ms):∀acc:Str,RE K E (tJn ts acc) (eJn ms acc):=by
 induction h with
 |nil=>
  intro acc F j σ H ρ S r Q En0 e k
  cases e
  exact k _ _ Ext.refl En0 _ (.str _)
 | @cons t ts m ms hm hr ih=>
  intro acc F j σ H ρ S r Q En0 e k
  rcases zD e with ⟨x,S1,e1,e⟩|⟨c,S1,e1,rfl⟩
  ·refine hm En0 e1 fun j1 H1 X1 E1 u hu=> ?_
   rw [Option.bind_eq_some_iff] at e
   obtain ⟨z,ez,e⟩:=e
   have hx:=zf1 ez
   subst hx
   cases hu
   split at e
   ·rename_i hl
    exact ⟨z,rfl,hl,ih _ E1 e (k.step X1)⟩
   ·cases e
  ·exact hm En0 e1 k
theorem zju {ts:List TE} {ms:List TwE} (h:RJ K E ts ms):RE K E (tJn ts Str.empty) (eJn ms Str.empty):=h.re Str.empty
end
noncomputable def zd2:Op2:=fun x y S=>match x,y with
 | .str a,.str b=>some (.bl (decide (a=b)),S)
 | .non,.str _=>some (.bl false,S)
 |_,_=>none
theorem zh8 {K:PySem.W.Frag}:YA K rEq zd2:=by
 intro F j σ H ρ S S' x y z u v Q E1 hx hy h k
 cases hx<;>cases hy<;>simp only [zd2,reduceCtorEq,Option.some.injEq,Prod.mk.injEq] at h<;>obtain ⟨rfl,rfl⟩:=h<;>refine ⟨rfl,k _ _ _ Ext.refl E1 ?_⟩<;>simp<;>exact .bl _
theorem zh9 {S:Sto} {P:Xv→Sto→Prop} {a b:Str} (k:P (.bl (decide (a=b))) S):WO (zd2 (.str a) (.str b) S) P:= .of rfl k
theorem zjv {S:Sto} {P:Xv→Sto→Prop} {b:Str} (k:P (.bl false) S):WO (zd2 .non (.str b) S) P:= .of rfl k
noncomputable def Uw (lo c:Int) (n:Nat):List Xv:=(List.range n).map fun (k:Nat)=>Xv.int (lo+(k:Int)*c)
noncomputable def zly (m n o:TwE):TwI:=fun ρ S=>rb (m ρ S) fun x S1=>rb (n ρ S1) fun y S2=>rb (o ρ S2) fun z S3=>match x,y,z with
 | .int i,.int j,.int c=>if (c≠0∧c.natAbs<1000000)∧Builtin.Range.small i j c=true then some (.ok (fun _=>some (Uw i c (Builtin.Range.rangeSize i j c).toNat)) S3) else none
 |_,_,_=>none
section
variable {K:PySem.W.Frag} {E:XK} {j:List Addr} {H:Hp}
theorem zjw {lo c:Int} {n:Nat}:ziY K j H (zkO lo c n) (fun _=>some (Uw lo c n)):=by
 intro F2 j2 H2 σ2 ρ2 S2 xs i X2 E2 e2
 cases e2
 refine ⟨fun d hd=> ?_,fun hle=> ?_⟩
 ·unfold Uw at hd
  rw [List.getElem?_map] at hd
  have hi:i<n:=by
   apply Classical.byContradiction
   intro hn
   rw [List.getElem?_eq_none (by simp;omega)] at hd
   cases hd
  rw [List.getElem?_range hi] at hd
  cases hd
  refine ⟨hi,?_⟩
  rintro x H' ⟨rfl,rfl⟩
  exact ⟨VZ.refl _,.int _⟩
 ·unfold Uw at hle
  simp at hle
  show n≤i
  omega
theorem zfa {t u v:TE} {m n o:TwE} (h:RE K E t m) (h2:RE K E u n) (h3:RE K E v o):RI K E (zj7 (VU t (VU u (VU v zeH)))) (zly m n o):=by
 intro F j σ H ρ S r R En0 e k
 rcases zD e with ⟨x,S1,e1,e⟩|⟨c,S1,e1,rfl⟩
 ·refine h En0 e1 fun j1 H1 X1 E1 u hu=> ?_
  rcases zD e with ⟨y,S2,e2,e⟩|⟨c,S2,e2,rfl⟩
  ·refine h2 E1 e2 fun j2 H2 X2 E2 w hw=> ?_
   rcases zD e with ⟨z,S3,e3,e⟩|⟨c,S3,e3,rfl⟩
   ·refine h3 E2 e3 fun j3 H3 X3 E3 wz hz=> ?_
    split at e
    ·split at e
     ·rename_i hb
      cases e
      exact ⟨_,_,_,by rw [hu.int_inv,hw.int_inv,hz.int_inv],hb.1,hb.2,k _ _ (X1.trans (X2.trans X3)) E3 _ zjw⟩
     ·cases e
    ·cases e
   ·exact h3 E2 e3 (PX.mono k (X1.trans X2))
  ·exact h2 E1 e2 (PX.mono k X1)
 ·exact h En0 e1 k
end
theorem zce (lo c:Int) (n:Nat):(Uw lo c n).length=n:=by simp [Uw]
theorem zia {lo c:Int} {n i:Nat} {x:Xv} (h:(Uw lo c n)[i]? =some x):i<n∧x= .int (lo+i*c):=by
 unfold Uw at h
 rw [List.getElem?_map] at h
 have hi:i<n:=by
  apply Classical.byContradiction
  intro hn
  rw [List.getElem?_eq_none (by simp;omega)] at h
  cases h
 rw [List.getElem?_range hi] at h
 cases h
 exact ⟨hi,rfl⟩
theorem zjx {ρ:Rho} {S:Sto} {Q':(Sto→Option (List Xv))→Sto→Prop} {m n o:TwE} (h:W (m ρ S) fun x S1=>W (n ρ S1) fun y S2=>W (o ρ S2) fun z S3=>∃i j c,x= .int i∧y= .int j∧z= .int c∧(c≠0∧c.natAbs<1000000)∧Builtin.Range.small i j c=true∧Q' (fun _=>some (Uw i c (Builtin.Range.rangeSize i j c).toNat)) S3):W (zly m n o ρ S) Q':=
 W.bind (h.imp fun _ _ h=>W.bind (h.imp fun _ _ h=>W.bind (h.imp fun _ _ h=>by
  obtain ⟨i,j,c,rfl,rfl,rfl,e0,e,q⟩:=h
  dsimp only
  rw [if_pos ⟨e0,e⟩]
  exact .of rfl q)))
section
variable {ρ:Rho} {S:Sto} {P:Xv→Sto→Prop} {o m:TwE} {x y:Xv}
theorem zaV {f:OpM} {ms:List TwE} (h:W (o ρ S) fun x S1=>(∃z,x= .str z)∧W (evL ms ρ S1) fun ys S2=>WO (f x ys S2) P):W (zbu f o ms ρ S) P:=W.bind (h.imp fun x S1 h=>by
 obtain ⟨⟨z,rfl⟩,h⟩:=h
 exact W.bind (h.imp fun _ _ h=>W.okP h))
theorem zcR {n:Nat} {l:List Xv} {sep:Str} {ts:List Str} (h:Ue S y=some (n,l)) (h2:Ut l=some ts) (hj:JoinOk sep ts=true) (k:P (.str (Txt.join sep ts)) S):WO (Uv (.str sep) [y] S) P:= .of (by unfold Uv;dsimp only;rw [h,Option.bind_some,h2,Option.bind_some,if_pos hj]) k
theorem zd3 {z sep:Str} (h:z.length≤sizeLine∧(sep.length==0)=false∧(Txt.split z sep).length≤sizeLine) (k:P (.ref S.length) (S++[.lst ((Txt.split z sep).map Xv.str)])):WO (VG (.str z) [.str sep] S) P:= .of (by unfold VG;exact if_pos h) k
theorem zcS {i:Int} (h:i.natAbs.log2<1920) (k:P (.str (toString i)) S):WO (zbv [.int i] S) P:= .of (by show ((if i.natAbs.log2<1920 then some (Str.ofString (toString i)) else none).map _)=_;rw [if_pos h];rfl) k
theorem zf3 {z:Str} (k:P (.str z) S):WO (zbv [.str z] S) P:= .of rfl k
theorem zf4 {z:Str} {n:Int} (hl:z.length≤640) (h:PySem.intText? z=some n) (k:P (.int n) S):WO (zcd [.str z] S) P:= .of (by unfold zcd;dsimp only;rw [if_pos hl,h];rfl) k
theorem zjy {i:Int} (h:i.natAbs.log2<1920) (hl:(Str.ofString (toString i)).length≤sizeLine) (k:P (.str (toString i)) S):WO (zgT (.int i) S) P:= .of (by
 show ((if i.natAbs.log2<1920 then some (Str.ofString (toString i)) else none).bind _)=_
 rw [if_pos h,Option.bind_some,if_pos hl]) k
theorem zjz {z:Str} (hl:z.length≤sizeLine) (k:P (.str z) S):WO (zgT (.str z) S) P:= .of (by
 show ((some z).bind _)=_
 rw [Option.bind_some,if_pos hl]) k
theorem zlz {acc:Str} (k:P (.str acc) S):W (eJn [] acc ρ S) P:= .of rfl k
theorem zf5 {ms:List TwE} {acc:Str} (h:W (m ρ S) fun x S1=>∃z,x= .str z∧(acc++z).length≤sizeLine∧W (eJn ms (acc++z) ρ S1) P):W (eJn (m::ms) acc ρ S) P:=W.bind (h.imp fun x S1 h=>by
 obtain ⟨z,rfl,hl,h⟩:=h
 show W ((some z).bind fun z=>if (acc++z).length≤sizeLine then eJn ms (acc++z) ρ S1 else none) P
 rw [Option.bind_some,if_pos hl]
 exact h)
end
end L2
namespace L2
open PySem PySem.Spec PyProof.Rows
inductive Sh (n:Nat):List D→Nat→Nat→Prop where
 |nil:Sh n [] 0 0
 |int {i:Int} {r:List D} {w e:Nat}:i.natAbs<2^n→Sh n r w e→Sh n (.int i::r) (n+1+w) e
 |str {z:Str} {r:List D} {w e:Nat}:z.length≤n→(z.cps.toList.all fun c=>decide (c<16^8))=true→Sh n r w e→Sh n (.str z::r) (n+1+w) e
 |tup {l r:List D} {w e w' e':Nat}:Sh n l w e→Sh n r w' e'→Sh n (.tup l::r) (w+1+w') (max (e+1) e')
 |lst {l r:List D} {w e w' e':Nat}:Sh n l w e→Sh n r w' e'→Sh n (.lst l::r) (w+1+w') (max (e+1) e')
section
variable {X:Cx} {pins:List (Addr×Obj)} {σ:St} {H:Hp} {s:Shared}
theorem Sh.reads (I:Inv X pins σ H s) {n:Nat} {ds:List D} {w e:Nat} (h:Sh n ds w e):∀{vs:List V} {us:List Value},IsL X.K H vs ds→yr vs us→∃as,ReadsAll s.heap us (D.pys ds) as:=by
 induction h with
 |nil=>
  intro vs us h r
  cases h
  cases r
  exact ⟨_,.nil⟩
 |int _ _ ih=>
  intro vs us h r
  cases h with
  |cons h l=>
   cases h
   cases r with
   |cons r1 r2=>
    obtain ⟨t,rfl⟩:=r1
    obtain ⟨as,ra⟩:=ih l r2
    exact ⟨_,.cons (.int _ t) ra⟩
 |str _ _ _ ih=>
  intro vs us h r
  cases h with
  |cons h l=>
   cases h
   cases r with
   |cons r1 r2=>
    obtain ⟨t,rfl⟩:=r1
    obtain ⟨as,ra⟩:=ih l r2
    exact ⟨_,.cons (.str _ t) ra⟩
 |tup _ _ ih1 ih2=>
  intro vs us h r
  cases h with
  |cons h l=>
   cases h with
   | @tup a _ _ h2 l2=>
   cases r with
   |cons r1 r2=>
    cases r1
    obtain ⟨its,rv,⟨o,ho,hc,m,hd⟩,_⟩:=I.tuple h2
    obtain ⟨as,ra⟩:=ih1 l2 rv
    obtain ⟨bs,rb⟩:=ih2 l r2
    exact ⟨_,.cons (.tuple ho hc hd (by simpa using ra)) rb⟩
 |lst _ _ ih1 ih2=>
  intro vs us h r
  cases h with
  |cons h l=>
   cases h with
   | @lst a _ _ h2 l2=>
   cases r with
   |cons r1 r2=>
    cases r1
    obtain ⟨its,rv,⟨o,m,ho,hc,_,hd⟩,_⟩:=I.list h2
    obtain ⟨as,ra⟩:=ih1 l2 rv
    obtain ⟨bs,rb⟩:=ih2 l r2
    exact ⟨_,.cons (.list ho hc hd (by simpa using ra)) rb⟩
end
theorem Sh.show {n:Nat} (h0:8≤n) (h1:n≤1900) {ds:List D} {w e:Nat} (h:Sh n ds w e):PyData.showableAll (D.pys ds)=true∧PyData.hasDictAll (D.pys ds)=false∧PyData.leavesShortAll (n+1) (D.pys ds)=true∧PyData.weightAll (D.pys ds)≤w∧PyData.depthAll (D.pys ds)≤e:=by
 induction h with
 |nil=>exact ⟨rfl,rfl,rfl,Nat.zero_le _,Nat.le_refl _⟩
 | @int i r w e h _ ih=>
  obtain ⟨a,b,c,d,f⟩:=ih
  have hl:i.natAbs.log2<n:=zeR (by omega) h
  refine ⟨?_,?_,?_,?_,?_⟩
  ·show (decide (i.natAbs.log2<1920)&&PyData.showableAll (D.pys r))=true
   rw [a,decide_eq_true (by omega)];rfl
  ·exact b
  ·show (decide ((Str.ofString (toString i)).length≤n+1)&&PyData.leavesShortAll (n+1) (D.pys r))=true
   have:=int_text_length_le (k:=n) (by omega) hl
   rw [←PySem.ofString_length] at this
   rw [c,decide_eq_true this];rfl
  ·show (if i==0 then 0 else i.natAbs.log2+1)+1+PyData.weightAll (D.pys r)≤n+1+w
   split<;>omega
  ·show max 0 (PyData.depthAll (D.pys r))≤e
   omega
 | @str z r w e h h2 _ ih=>
  obtain ⟨a,b,c,d,f⟩:=ih
  refine ⟨a,b,?_,?_,?_⟩
  ·show ((z.cps.toList.all fun c=>decide (c<16^8))&&PyData.leavesShortAll (n+1) (D.pys r))=true
   rw [h2,c];rfl
  ·show z.cps.size+1+PyData.weightAll (D.pys r)≤n+1+w
   have:z.cps.size≤n:=h
   omega
  ·show max 0 (PyData.depthAll (D.pys r))≤e
   omega
 | @tup l r w e w' e' _ _ ih1 ih2=>
  obtain ⟨a,b,c,d,f⟩:=ih1
  obtain ⟨a2,b2,c2,d2,f2⟩:=ih2
  refine ⟨?_,?_,?_,?_,?_⟩
  ·show (PyData.showableAll (D.pys l)&&PyData.showableAll (D.pys r))=true
   rw [a,a2];rfl
  ·show (PyData.hasDictAll (D.pys l)||PyData.hasDictAll (D.pys r))=false
   rw [b,b2];rfl
  ·show (PyData.leavesShortAll (n+1) (D.pys l)&&PyData.leavesShortAll (n+1) (D.pys r))=true
   rw [c,c2];rfl
  ·show PyData.weightAll (D.pys l)+1+PyData.weightAll (D.pys r)≤_
   omega
  ·show max (PyData.depthAll (D.pys l)+1) (PyData.depthAll (D.pys r))≤_
   omega
 | @lst l r w e w' e' _ _ ih1 ih2=>
  obtain ⟨a,b,c,d,f⟩:=ih1
  obtain ⟨a2,b2,c2,d2,f2⟩:=ih2
  refine ⟨?_,?_,?_,?_,?_⟩
  ·show (PyData.showableAll (D.pys l)&&PyData.showableAll (D.pys r))=true
   rw [a,a2];rfl
  ·show (PyData.hasDictAll (D.pys l)||PyData.hasDictAll (D.pys r))=false
   rw [b,b2];rfl
  ·show (PyData.leavesShortAll (n+1) (D.pys l)&&PyData.leavesShortAll (n+1) (D.pys r))=true
   rw [c,c2];rfl
  ·show PyData.weightAll (D.pys l)+1+PyData.weightAll (D.pys r)≤_
   omega
  ·show max (PyData.depthAll (D.pys l)+1) (PyData.depthAll (D.pys r))≤_
   omega
structure zke (d:D):Prop where
 seq:∃l,d= .tup l∨d= .lst l
 sh:∃n w e,Sh n [d] w e∧8≤n∧n≤1900∧e≤100∧(n+3)*w+n+1≤16777216
section
variable {X:Cx}
noncomputable def zib (K:PySem.W.Frag):List V→Hp→VK→Prop:=fun xs H Q=>∃(x:V) (d:D),xs=[x]∧Is K H x d∧zke d∧Q (.str (D.py d).shown) H
theorem zaW {k:Nat} {K:PySem.W.Frag} (hr:vx k X.A) (hK:X.K=K:=by rfl):vq X (.builtin "repr") (zib K):=by
 subst hK
 intro pins s σ H xs us Q I r h
 obtain ⟨x,d,rfl,hi,⟨hseq,n,w,e,sh,n0,n1,he,hz⟩,q⟩:=h
 obtain ⟨u,rfl,ru⟩:=Xb r
 obtain ⟨as,rd⟩:=sh.reads I (.cons hi .nil) (.cons ru .nil)
 obtain ⟨as,rd⟩:∃as,Reads s.heap u (D.py d) as:=by
  cases rd with
  |cons r1 r2=>exact ⟨_,r1⟩
 obtain ⟨a,b,c,wt,f⟩:=sh.show n0 n1
 have a:((D.py d).showable&&true)=true:=a
 have b:((D.py d).hasDict||false)=false:=b
 have c:((D.py d).leavesShort (n+1)&&true)=true:=c
 have wt:(D.py d).weight+1+0≤w:=wt
 have f:max (D.py d).depth 0≤e:=f
 rw [Bool.and_true] at a c
 rw [Bool.or_false] at b
 have hd:isDisplay (D.py d)=true:=by
  obtain ⟨l,z|z⟩:=hseq<;>(subst z;rfl)
 obtain ⟨p,rfl⟩:=isRef_of_reads rd hd
 have hlen:(D.py d).shown.length≤sizeLine:=by
  have h1:=PyData.shown_le (n+1) (by omega) (D.py d) c
  have h3:(n+1+2)*(D.py d).weight≤(n+3)*w:=Nat.mul_le_mul_left _ (by omega)
  exact Nat.le_trans h1 (by show _≤16777216;omega)
 have hu:=hr.un
 exact repr_of_reads' rd a (PyData.noDict_hsm b) hr.gd (by omega) (fun _ _ e=>e) (fun h' u tk hk=>⟨.str _,H,I.kept (t':=tk) hk,⟨_,rfl⟩,q⟩) hlen
end
end L2
namespace L2
open PySem PySem.Spec PyProof.Rows
open Classical in
noncomputable def VH:Opn:=fun xs S=>match xs with
 |[x]=>(wf S 100 x).bind fun d=>if zke d then some (.str (D.py d).shown,S) else none
 |_=>none
theorem zd4 {K:PySem.W.Frag}:Uc K (zib K) VH:=by
 intro F j σ H ρ S S' xs z vs Q E1 hv h k
 unfold VH at h
 split at h
 ·rename_i x
  rw [Option.bind_eq_some_iff] at h
  obtain ⟨d,h1,h2⟩:=h
  split at h2
  ·rename_i hn
   cases h2
   obtain ⟨w,rfl,hx⟩:=hv.d1
   exact ⟨w,d,rfl,(zag E1 100 x w d hx h1).1,hn,k _ _ _ Ext.refl E1 (.str _)⟩
  ·cases h2
 ·cases h
end L2
namespace Mth
open PySem.Builtin.Int (intBits)
end Mth
namespace Prf
open PySem PySem.Spec PyProof.Rows L2
open PySem.Builtin.Int (intBits)
set_option maxHeartbeats 4000000
local macro_rules | `(tactic| walk_at "sc") => `(tactic| exact ⟨rfl, rfl, rfl, by decide +kernel, rfl, by decide +kernel, by decide +kernel⟩)
structure Fi (K:PySem.W.Frag) (mg:Str→Option Value) (nm:Str) (st:Stmt) (ps:List Str) where
 a:Addr
 fd:FuncData
 F:Fun K nm nm st a fd
 m:mg nm=some (.ref a)
 b:Wk K fd ps []
structure Mi (K:PySem.W.Frag) (g:Addr) (nm qn:Str) (st:Stmt) (ps:List Str) where
 a:Addr
 fd:FuncData
 F:Fun K nm qn st a fd
 b:Wk K fd ps []
 mt:ziF K g nm a
noncomputable def LoN (K:PySem.W.Frag) (x qual:Str) (st:Stmt) (f:Addr):Prop:=∃fd,Fun K x qual st f fd
noncomputable def FL (K:PySem.W.Frag) (nm:Str) (st:Stmt):Prop:=∃f,PySem.W.nsIn K mainGlobals nm=some (some (.ref f))∧LoN K nm nm st f
noncomputable def ML (K:PySem.W.Frag) (g:Addr) (nm qn:Str) (st:Stmt):Prop:=∃f,PySem.W.findIn K (.ref g) nm=some (some (.ref f))∧PySem.W.isFn K (.ref f)=true∧LoN K nm qn st f
theorem zmU {K:PySem.W.Frag} {x:Str} {st:Stmt} {f:Addr} {oc:Value} {od an:Option Addr} {osl:Array (Option Value)} {kV doc pm cdv ct:Value} (a:PySem.W.nsIn K mainGlobals x=some (some (.ref f)))
  (l:K.lookup f=some ⟨oc,od,.func (PySem.W.fnOf x x (Xs st) (Yk st) (zt st) .none kV doc pm an cdv ct),osl⟩) (c:PySem.W.codeIn K cdv x=true) (k:PySem.W.keepIn K (.ref f)=true):FL K x st:=⟨f,a,_,zhp l c k⟩
theorem zmV {K:PySem.W.Frag} {g:Addr} {x qn:Str} {st:Stmt} {f:Addr} {oc:Value} {od an:Option Addr} {osl:Array (Option Value)} {kV doc pm cdv ct:Value} (a:PySem.W.findIn K (.ref g) x=some (some (.ref f))) (i:PySem.W.isFn K (.ref f)=true)
  (l:K.lookup f=some ⟨oc,od,.func (PySem.W.fnOf x qn (Xs st) (Yk st) (zt st) .none kV doc pm an cdv ct),osl⟩) (c:PySem.W.codeIn K cdv qn=true) (k:PySem.W.keepIn K (.ref f)=true):ML K g x qn st:=⟨f,a,i,_,zhp l c k⟩
noncomputable def BA (x qual:Str) (st:Stmt) (ps:List Str):Prop:=∀(kV doc pm:Value) (an:Option Addr) (cdv ct:Value) (us:List Value),us.length=ps.length→bindArgs (PySem.W.fnOf x qual (Xs st) (Yk st) (zt st) .none kV doc pm an cdv ct) ⟨us,[]⟩=pure (ps.zip us)
noncomputable def FL.to {K:PySem.W.Frag} {h:Heap} {mg:Str→Option Value} {x:Str} {st:Stmt} {ps:List Str} (H:FL K x st) (X:K.In h) (G:h.Ns mainGlobals mg) (B:BA x x st ps):Fi K mg x st ps:=
 ⟨H.choose,H.choose_spec.2.choose,H.choose_spec.2.choose_spec,PySem.W.mg_of X G H.choose_spec.1,H.choose_spec.2.choose_spec.binds B⟩
noncomputable def ML.to {K:PySem.W.Frag} {g:Addr} {x qn:Str} {st:Stmt} {ps:List Str} (H:ML K g x qn st) (B:BA x qn st ps):Mi K g x qn st ps:=
 ⟨H.choose,H.choose_spec.2.2.choose,H.choose_spec.2.2.choose_spec,H.choose_spec.2.2.choose_spec.binds B,⟨H.choose_spec.1,H.choose_spec.2.1,H.choose_spec.2.2.choose_spec.kp⟩⟩
theorem at0 {P:List Value→Prop} (h:P []):∀us:List Value,us.length=0→P us
 |[],_=>h
theorem at_ {P:List Value→Prop} {n:Nat} (h:∀(a:Value) (us:List Value),us.length=n→P (a::us)):∀us:List Value,us.length=n+1→P us
 |a::us,e=>h a us (Nat.succ.inj e)
theorem zlA {K:PySem.W.Frag} {mg:Str→Option Value} {st:Stmt} {x:Str} {fa:Addr} (f:Fi K mg "law" st [x]) (hK:∀s:Shared,K.In s.heap→True) (h:mg "law"=some (.ref fa)):fa=f.a:=by
 have e:=h.symm.trans f.m
 injection e with e
 injection e
section
variable {P:Program} {w:World} {K:PySem.W.Frag} {mg:Str→Option Value} {base:Heap} {fu:Nat}
noncomputable def top (i:Nat):Stmt:=PySem.Challenge.pw_lots_k20_rows_read.main.body.getD i (.Pass ⟨0,0,0,0⟩)
noncomputable abbrev VI:Stmt:=top 5
noncomputable abbrev Zt:Stmt:=top 14
noncomputable abbrev Tn:Stmt:=top 15
noncomputable abbrev Wv:Stmt:=top 16
noncomputable abbrev Ww:Stmt:=top 27
noncomputable abbrev Yn:Stmt:=top 28
noncomputable abbrev vJ:Stmt:=top 29
noncomputable abbrev ZN:Stmt:=top 30
noncomputable abbrev Zu:Stmt:=top 31
noncomputable abbrev XB:Stmt:=top 32
noncomputable abbrev Zb:Stmt:=top 33
noncomputable abbrev Yo:Stmt:=top 34
noncomputable abbrev vK:Stmt:=top 35
noncomputable abbrev YE:Stmt:=top 36
noncomputable abbrev ZO:Stmt:=top 37
noncomputable abbrev XC:Stmt:=top 38
noncomputable abbrev Zv:Stmt:=top 39
noncomputable abbrev wG:Stmt:=zae (top 41) 0
noncomputable abbrev wY:Stmt:=zae (top 41) 1
noncomputable abbrev XD:Stmt:=zae (top 41) 2
noncomputable abbrev wZ:Stmt:=zae (top 41) 3
noncomputable abbrev zfb:Stmt:=top 42
noncomputable abbrev XE:Stmt:=top 43
noncomputable abbrev XF:Stmt:=top 44
noncomputable abbrev Wx:Stmt:=top 45
noncomputable abbrev Zw:Stmt:=top 46
noncomputable abbrev ZP:Stmt:=top 47
noncomputable abbrev To:Stmt:=top 48
noncomputable abbrev YF:Stmt:=top 49
noncomputable abbrev vD:Stmt:=top 50
noncomputable abbrev Wy:Stmt:=top 51
noncomputable abbrev YG:Stmt:=top 52
noncomputable abbrev XG:Stmt:=top 53
noncomputable abbrev ZQ:Stmt:=top 54
noncomputable abbrev YH:Stmt:=top 55
noncomputable abbrev Wz:Stmt:=top 56
noncomputable abbrev zal:Stmt:=top 58
noncomputable abbrev XH:Stmt:=top 59
noncomputable abbrev Yp:Stmt:=top 60
noncomputable abbrev YI:Stmt:=top 61
noncomputable abbrev WA:Stmt:=top 63
noncomputable abbrev WB:Stmt:=top 64
noncomputable abbrev XI:Stmt:=top 65
noncomputable abbrev ZR:Stmt:=top 66
noncomputable abbrev WC:Stmt:=top 67
noncomputable abbrev vE:Stmt:=top 68
noncomputable abbrev va:Stmt:=top 69
noncomputable abbrev XJ:Stmt:=top 70
noncomputable abbrev Zx:Stmt:=top 71
noncomputable abbrev VJ:Stmt:=top 72
noncomputable abbrev zaX:Stmt:=top 73
theorem zd5:zM ["thing"] ["thing"] (zt VI):=by walk_at "sc"
theorem zbw:zM ["text","signs"] ["text","signs"] (zt Zt):=by walk_at "sc"
theorem zfc:zM ["text"] ["text"] (zt Tn):=by walk_at "sc"
theorem zcT:zM ["text"] ["text"] (zt Wv):=by walk_at "sc"
theorem zcU:zM ["deed"] ["deed"] (zt Ww):=by walk_at "sc"
theorem zcV:zM ["block"] ["block"] (zt Yn):=by walk_at "sc"
theorem WD:zM ["deed","inner"] ["deed"] (zt vJ):=by walk_at "sc"
theorem wH:zM ["block","deeds","deed","inner"] ["block"] (zt ZN):=by walk_at "sc"
theorem vL:zM ["program","boxes","block","sizes"] ["program"] (zt Zu):=by walk_at "sc"
theorem zbx:zM ["number","least","most"] ["number","least","most"] (zt XB):=by walk_at "sc"
theorem wo:zM ["boxes","names","states","name","size"] ["boxes"] (zt Zb):=by walk_at "sc"
theorem Ux:zM ["sizes","deed","kind"] ["sizes","deed"] (zt Yo):=by walk_at "sc"
theorem zaY:zM ["weights","size"] ["weights","size"] (zt vK):=by walk_at "sc"
theorem zaZ:zM ["deed"] ["deed"] (zt YE):=by walk_at "sc"
theorem TU:zM ["sizes","operand"] ["sizes","operand"] (zt ZO):=by walk_at "sc"
theorem zd6:zM ["block"] ["block"] (zt XC):=by walk_at "sc"
theorem zby:zM ["deed"] ["deed"] (zt Zv):=by walk_at "sc"
theorem Tp:zM ["self","text"] ["self","text"] (zt wG):=by walk_at "sc"
theorem VL:zM ["self"] ["self"] (zt wY):=by walk_at "sc"
theorem Vt:zM ["self","words"] ["self"] (zt XD):=by walk_at "sc"
theorem VM:zM ["self","word"] ["self","word"] (zt wZ):=by walk_at "sc"
theorem Uy:zM ["text","rows","boxes","block","program"] ["text"] (zt zfb):=by walk_at "sc"
theorem YJ:zM ["rows","boxes","words"] ["rows"] (zt XE):=by walk_at "sc"
theorem Vu:zM ["rows","opened","deeds"] ["rows","opened"] (zt XF):=by walk_at "sc"
theorem XL:zM ["rows","opened","words","kind"] ["rows","opened"] (zt Wx):=by walk_at "sc"
theorem zbz:zM ["kind","words"] ["kind","words"] (zt Zw):=by walk_at "sc"
theorem Wg:zM ["rows","opened","block"] ["rows","opened"] (zt ZP):=by walk_at "sc"
theorem za0:zM ["rows","test","opened","block"] ["rows","test","opened"] (zt To):=by walk_at "sc"
theorem WE:zM ["rows","opened","blocks"] ["rows","opened"] (zt YF):=by walk_at "sc"
theorem Uz:zM ["words"] ["words"] (zt vD):=by walk_at "sc"
theorem zcW:zM ["words"] ["words"] (zt Wy):=by walk_at "sc"
theorem za1:zM ["words","signs"] ["words","signs"] (zt YG):=by walk_at "sc"
theorem zbA:zM ["words"] ["words"] (zt XG):=by walk_at "sc"
theorem TV:zM ["word"] ["word"] (zt ZQ):=by walk_at "sc"
theorem za2:zM ["word"] ["word"] (zt YH):=by walk_at "sc"
theorem zcX:zM ["word"] ["word"] (zt Wz):=by walk_at "sc"
theorem zd7:zM ["program","rows"] ["program"] (zt zal):=by walk_at "sc"
theorem YK:zM ["block","rows","deed"] ["block"] (zt XH):=by walk_at "sc"
theorem vb:zM ["deed","rows","between","place","block"] ["deed"] (zt Yp):=by walk_at "sc"
theorem WF:zM ["deed","kind"] ["deed"] (zt YI):=by walk_at "sc"
theorem XM:zM ["_law_script","_law_k","_law_prime","_law_many","_law_cell"] ["_law_script","_law_k","_law_prime","_law_many"] (zt WA):=by walk_at "sc"
theorem yX:zM ["_law_script","_law_k","_law_at","_law_letters","_law_size","_law_name_here","_law_place","_law_turn"] ["_law_script","_law_k","_law_at"] (zt WB):=by walk_at "sc"
theorem yI:zM ["_law_script","_law_count","_law_most","_law_at","_law_boxes_here","_law_many","_law_k","_law_size","_law_name_here"] ["_law_script","_law_count","_law_most"] (zt XI):=by walk_at "sc"
theorem wI:zM ["_law_script","_law_k","_law_boxes_here","_law_cell","_law_way"] ["_law_script","_law_k","_law_boxes_here"] (zt ZR):=by walk_at "sc"
theorem UA:zM ["_law_script","_law_k","_law_boxes_here","_law_sign"] ["_law_script","_law_k","_law_boxes_here"] (zt WC):=by walk_at "sc"
theorem Yq:zM ["_law_script","_law_k","_law_boxes_here","_law_sign"] ["_law_script","_law_k","_law_boxes_here"] (zt vE):=by walk_at "sc"
theorem Zj:zM ["_law_script","_law_k","_law_size","_law_weights_here","_law_at"] ["_law_script","_law_k","_law_size"] (zt va):=by walk_at "sc"
theorem vM:zM ["_law_script","_law_k","_law_boxes_here","_law_way","_law_name_here","_law_size"] ["_law_script","_law_k","_law_boxes_here"] (zt XJ):=by walk_at "sc"
theorem zbB:zM ["_law_some"] ["_law_some"] (zt Zx):=by walk_at "sc"
theorem zd8:zM ["_law_deed"] ["_law_deed"] (zt VJ):=by walk_at "sc"
theorem XN:zM ["_law_script","_law_boxes_here","_law_names","_law_rows","_law_block","_law_text","_law_found"] ["_law_script"] (zt zaX):=by walk_at "sc"
set_option genInjectivity false in
set_option genSizeOf false in
structure Tx (K:PySem.W.Frag) (mg:Str→Option Value) where
 f_is_whole:Fi K mg "is_whole" VI ["thing"]
 f_is_made_of:Fi K mg "is_made_of" Zt ["text","signs"]
 f_is_name:Fi K mg "is_name" Tn ["text"]
 f_is_number:Fi K mg "is_number" Wv ["text"]
 f_blocks_of:Fi K mg "blocks_of" Ww ["deed"]
 f_length_of:Fi K mg "length_of" Yn ["block"]
 f_deed_length:Fi K mg "deed_length" vJ ["deed"]
 f_deeds_within:Fi K mg "deeds_within" ZN ["block"]
 f_is_program:Fi K mg "is_program" Zu ["program"]
 f_is_from_to:Fi K mg "is_from_to" XB ["number","least","most"]
 f_boxes_fit:Fi K mg "boxes_fit" Zb ["boxes"]
 f_deed_fits:Fi K mg "deed_fits" Yo ["sizes","deed"]
 f_weights_fit:Fi K mg "weights_fit" vK ["weights","size"]
 f_operands_of:Fi K mg "operands_of" YE ["deed"]
 f_operand_fits:Fi K mg "operand_fits" ZO ["sizes","operand"]
 f_depth_of:Fi K mg "depth_of" XC ["block"]
 f_deed_depth:Fi K mg "deed_depth" Zv ["deed"]
 f_read:Fi K mg "read" zfb ["text"]
 f_boxes_from:Fi K mg "boxes_from" XE ["rows"]
 f_block_from:Fi K mg "block_from" XF ["rows","opened"]
 f_deed_from:Fi K mg "deed_from" Wx ["rows","opened"]
 f_plain_deed:Fi K mg "plain_deed" Zw ["kind","words"]
 f_closed_block:Fi K mg "closed_block" ZP ["rows","opened"]
 f_if_from:Fi K mg "if_from" To ["rows","test","opened"]
 f_hand_blocks:Fi K mg "hand_blocks" YF ["rows","opened"]
 f_reckoning_from:Fi K mg "reckoning_from" vD ["words"]
 f_test_from:Fi K mg "test_from" Wy ["words"]
 f_signed_from:Fi K mg "signed_from" YG ["words","signs"]
 f_turns_from:Fi K mg "turns_from" XG ["words"]
 f_operand_from:Fi K mg "operand_from" ZQ ["word"]
 f_number_from:Fi K mg "number_from" YH ["word"]
 f_name_from:Fi K mg "name_from" Wz ["word"]
 f_shown:Fi K mg "shown" zal ["program"]
 f_block_rows:Fi K mg "block_rows" XH ["block"]
 f_deed_rows:Fi K mg "deed_rows" Yp ["deed"]
 f_first_words:Fi K mg "first_words" YI ["deed"]
 f__law_draw:Fi K mg "_law_draw" WA ["_law_script","_law_k","_law_prime","_law_many"]
 f__law_name:Fi K mg "_law_name" WB ["_law_script","_law_k","_law_at"]
 f__law_boxes:Fi K mg "_law_boxes" XI ["_law_script","_law_count","_law_most"]
 f__law_operand:Fi K mg "_law_operand" ZR ["_law_script","_law_k","_law_boxes_here"]
 f__law_test:Fi K mg "_law_test" WC ["_law_script","_law_k","_law_boxes_here"]
 f__law_reckoning:Fi K mg "_law_reckoning" vE ["_law_script","_law_k","_law_boxes_here"]
 f__law_weights:Fi K mg "_law_weights" va ["_law_script","_law_k","_law_size"]
 f__law_plain:Fi K mg "_law_plain" XJ ["_law_script","_law_k","_law_boxes_here"]
 f__law_words:Fi K mg "_law_words" Zx ["_law_some"]
 f__law_row:Fi K mg "_law_row" VJ ["_law_deed"]
 f_law:Fi K mg "law" zaX ["_law_script"]
 n_all:mg "all"=none
 n_bool:mg "bool"=none
 n_dict:mg "dict"=none
 n_enumerate:mg "enumerate"=none
 n_int:mg "int"=none
 n_isinstance:mg "isinstance"=none
 n_len:mg "len"=none
 n_max:mg "max"=none
 n_min:mg "min"=none
 n_range:mg "range"=none
 n_repr:mg "repr"=none
 n_set:mg "set"=none
 n_str:mg "str"=none
 n_sum:mg "sum"=none
 n_tuple:mg "tuple"=none
 a_LotsError:Addr
 m_LotsError:mg "LotsError"=some (.ref a_LotsError)
 x_LotsError:zeM K mg "LotsError" a_LotsError [.type "ValueError",.type "Exception",.type "BaseException",.type "object"] "ValueError.__new__"
 i_LotsError:zdD K a_LotsError
 t_LotsError:PySem.W.typeIn K (.ref a_LotsError)=some (.type "type")
 e_LotsError:PySem.W.mroIn K a_LotsError (.type "BaseException")=some true
 v_LotsError:PySem.W.mroIn K a_LotsError (.type "ValueError")=some true
 a_NoText:Addr
 m_NoText:mg "NoText"=some (.ref a_NoText)
 x_NoText:zeM K mg "NoText" a_NoText [.type "ValueError",.type "Exception",.type "BaseException",.type "object"] "ValueError.__new__"
 i_NoText:zdD K a_NoText
 t_NoText:PySem.W.typeIn K (.ref a_NoText)=some (.type "type")
 e_NoText:PySem.W.mroIn K a_NoText (.type "BaseException")=some true
 v_NoText:PySem.W.mroIn K a_NoText (.type "ValueError")=some true
 a_NoProgram:Addr
 m_NoProgram:mg "NoProgram"=some (.ref a_NoProgram)
 x_NoProgram:zeM K mg "NoProgram" a_NoProgram [.type "ValueError",.type "Exception",.type "BaseException",.type "object"] "ValueError.__new__"
 i_NoProgram:zdD K a_NoProgram
 t_NoProgram:PySem.W.typeIn K (.ref a_NoProgram)=some (.type "type")
 e_NoProgram:PySem.W.mroIn K a_NoProgram (.type "BaseException")=some true
 v_NoProgram:PySem.W.mroIn K a_NoProgram (.type "ValueError")=some true
 a_Rows:Addr
 m_Rows:mg "Rows"=some (.ref a_Rows)
 cl_Rows:Cls K a_Rows
 ns_Rows:PySem.W.nsIn K mainGlobals "Rows"=some (some (.ref a_Rows))
 n_Rows_rows:Ze K a_Rows "rows"
 n_Rows_place:Ze K a_Rows "place"
 f_Rows___init__:Mi K a_Rows "__init__" "Rows.__init__" wG ["self","text"]
 mk_Rows:Mk K a_Rows f_Rows___init__.a
 f_Rows_first_word:Mi K a_Rows "first_word" "Rows.first_word" wY ["self"]
 f_Rows_taken:Mi K a_Rows "taken" "Rows.taken" XD ["self"]
 f_Rows_take_alone:Mi K a_Rows "take_alone" "Rows.take_alone" wZ ["self","word"]
 m_LETTERS:∃t,mg "LETTERS"=some (.str "abcdefghijklmnopqrstuvwxyz" t)
 m_MOST_LETTERS:∃t,mg "MOST_LETTERS"=some (.int 8 t)
 m_FIGURES:∃t,mg "FIGURES"=some (.str "0123456789" t)
 m_MOST_FIGURES:∃t,mg "MOST_FIGURES"=some (.int 9 t)
 a_RECKONING_SIGNS:Addr
 m_RECKONING_SIGNS:mg "RECKONING_SIGNS"=some (.ref a_RECKONING_SIGNS)
 c_RECKONING_SIGNS:∀H,SqT K H a_RECKONING_SIGNS [.str "+",.str "-",.str "*"]
 a_TEST_SIGNS:Addr
 m_TEST_SIGNS:mg "TEST_SIGNS"=some (.ref a_TEST_SIGNS)
 c_TEST_SIGNS:∀H,SqT K H a_TEST_SIGNS [.str "=",.str "<",.str "#"]
 a_BLOCK_KINDS:Addr
 m_BLOCK_KINDS:mg "BLOCK_KINDS"=some (.ref a_BLOCK_KINDS)
 c_BLOCK_KINDS:∀H,SqT K H a_BLOCK_KINDS [.str "if",.str "while",.str "times",.str "hand"]
 m_MOST_BOXES:∃t,mg "MOST_BOXES"=some (.int 9 t)
 m_MOST_SIZE:∃t,mg "MOST_SIZE"=some (.int 9 t)
 m_MOST_STATES:∃t,mg "MOST_STATES"=some (.int 1000 t)
 m_MOST_NUMBER:∃t,mg "MOST_NUMBER"=some (.int 999999999 t)
 m_MOST_TURNS:∃t,mg "MOST_TURNS"=some (.int 60 t)
 m_FEWEST_BLOCKS:∃t,mg "FEWEST_BLOCKS"=some (.int 2 t)
 m_MOST_BLOCKS:∃t,mg "MOST_BLOCKS"=some (.int 8 t)
 m_MOST_WITHIN:∃t,mg "MOST_WITHIN"=some (.int 12 t)
 m_MOST_LENGTH:∃t,mg "MOST_LENGTH"=some (.int 100 t)
local macro_rules | `(tactic| walk_at "q1") => `(tactic| first | exact .inl rfl | exact .inr rfl | assumption)
noncomputable def WG (fu:Nat):TwS:=(zY (zgC (eUn (zdM "int") (ze 0)) (eB (YB (bE (eUn (zdM "bool") (ze 0)))))))
noncomputable def WH (fu:Nat):TwF:=ye 1 0 (WG fu)
theorem zd9 (T:Tx K mg):yB P w K mg base (CXE P w) 1 T.f_is_whole.a T.f_is_whole.fd ["thing"] (sTw K 1 (WH fu)):=
 T.f_is_whole.F.okE zd5 (fun vs H Q E h=>h.1) (fun cdv A outer s H vs Q E hr h=>⟨_,(@zn _ _ _ (@zw _ _ _ _ (zcj (zK (WU (K:=K)) rfl T.n_isinstance boot_isinstance (za (pv 0) (za (zab (v:= .ty "int") rfl T.n_int boot_int rfl) zg))) (zap (zku (zK (WU (K:=K)) rfl T.n_isinstance boot_isinstance (za (pv 0) (za (zab (v:= .ty "bool") rfl T.n_bool boot_bool rfl) zg)))))))),yy (n:=1) (k:=0) (b:=WG fu) rfl (zy (zcy (zcG zi5 (zc 0)) (zkT (zcG zhI (zc 0))))) h⟩)
noncomputable def vN (fu:Nat):TwS:=(zY (eFn zaN [(xl [none,some 1] (iS (ze 0)) (gN 0) xq (eOp zgP (ze 0) (ze 1)))]))
noncomputable def vO (fu:Nat):TwF:=ye 2 0 (vN fu)
theorem Vv (T:Tx K mg):yB P w K mg base (CXE P w) 1 T.f_is_made_of.a T.f_is_made_of.fd ["text","signs"] (sTw K 2 (vO fu)):=
 T.f_is_made_of.F.okE zbw (fun vs H Q E h=>h.1) (fun cdv A outer s H vs Q E hr h=>⟨_,(@zn _ _ _ (@zw _ _ _ _ (zK (Xe (K:=K) rfl) rfl T.n_all PyProof.Rows.Boot.«all» (za (xF (N':=["sign","signs"]) rfl (blk (osc:=zt Zt) rfl (by decide+kernel)) (yO (Ym (i:=1) rfl rfl xb)) (zlq (pv 0)) (yn rfl) (fun C s₀ H₀ fp=>yk (i:=0) (show (["sign","signs"]:List Str).Nodup from by decide+kernel) rfl (Or.inl rfl)) (fun C s₀ H₀ fp=>xa) (fun C s₀ H₀ fp=>(zac zgj (pv 0) (pv 1) (by rfl)))) zg)))),yy (n:=2) (k:=0) (b:=vN fu) rfl (zy (yl zaO (zb (xf (cap:=[none,some 1]) (zlw (zc 0)) zu xc (zp zlx (zc 0) (zc 1))) zh))) h⟩)
noncomputable def VN (fu:Nat):TwS:=(zY (zgC (VF (fun i j=>decide (i≤j)) (fun i j=>decide (i≤j)) (eC (.int 1)) (eFn zaM [(ze 0)]) (eC (.int 8))) (zv (vO fu) [(ze 0),(eC (.str "abcdefghijklmnopqrstuvwxyz"))])))
noncomputable def ZS (fu:Nat):TwF:=ye 1 0 (VN fu)
theorem za3 (T:Tx K mg):yB P w K mg base (CXE P w) 2 T.f_is_name.a T.f_is_name.fd ["text"] (sTw K 1 (ZS fu)):=
 T.f_is_name.F.okE zfc (fun vs H Q E h=>h.1) (fun cdv A outer s H vs Q E hr h=>⟨_,(@zn _ _ _ (@zw _ _ _ _ (zcj (zdl Tw Tw zm (zK Xr rfl T.n_len boot_len (@za _ _ _ _ _ (pv 0) zg zf)) (match T.m_MOST_LETTERS with|⟨t,h⟩=>yZ (v:= .int 8) rfl h ⟨t,rfl⟩)) (zap (zq (Vv (fu:=fu) T) (hr.mono (by decide)) rfl T.f_is_made_of.m T.f_is_made_of.F.kp T.f_is_made_of.b .nil zG (@za _ _ _ _ _ (pv 0) (@za _ _ _ _ _ (match T.m_LETTERS with|⟨t,h⟩=>yZ (v:= .str "abcdefghijklmnopqrstuvwxyz") rfl h ⟨t,rfl⟩) zg zf) zf)))))),yy (n:=1) (k:=0) (b:=VN fu) rfl (zy (zcy (Um (zj _) (yl zcE (zb (zc 0) zh)) (zj _)) (zr (zb (zc 0) (zb (zx _) zh))))) h⟩)
noncomputable def XO (fu:Nat):TwS:=(zH (sIf (bOr (YB (bE (VF (fun i j=>decide (i≤j)) (fun i j=>decide (i≤j)) (eC (.int 1)) (eFn zaM [(ze 0)]) (eC (.int 9))))) (YB (bE (zv (vO fu) [(ze 0),(eC (.str "0123456789"))])))) (zY (eC (.bl false))) zO) (zY (eOr (eOp (yV true) (eOp zaD (ze 0) (eC (.int 0))) (eC (.str "0"))) (eOp (yV false) (ze 0) (eC (.str "0"))))))
noncomputable def Zy (fu:Nat):TwF:=ye 1 0 (XO fu)
theorem UB (T:Tx K mg):yB P w K mg base (CXE P w) 2 T.f_is_number.a T.f_is_number.fd ["text"] (sTw K 1 (Zy fu)):=
 T.f_is_number.F.okE zcT (fun vs H Q E h=>h.1) (fun cdv A outer s H vs Q E hr h=>⟨_,(@zk _ _ _ _ _ (ya (PW.pt (VT (wS (zdm Tw Tw zm (zK Xr rfl T.n_len boot_len (@za _ _ _ _ _ (pv 0) zg zf)) (match T.m_MOST_FIGURES with|⟨t,h⟩=>yZ (v:= .int 9) rfl h ⟨t,rfl⟩))) (Xn (wS (wR (zq (Vv (fu:=fu) T) (hr.mono (by decide)) rfl T.f_is_made_of.m T.f_is_made_of.F.kp T.f_is_made_of.b .nil zG (@za _ _ _ _ _ (pv 0) (@za _ _ _ _ _ (match T.m_FIGURES with|⟨t,h⟩=>yZ (v:= .str "0123456789") rfl h ⟨t,rfl⟩) zg zf) zf))))))) (@zn _ _ _ (@zw _ _ _ _ Wc)) zB) (@zn _ _ _ (@zw _ _ _ _ (zl2 (zac zhe (@zZ _ _ _ _ _ _ _ zcm (pv 0) zm (fun _ _=>rfl)) zA (by rfl)) (zap (zac xp (pv 0) zA (by rfl))))))),yy (n:=1) (k:=0) (b:=XO fu) rfl (zo (yb (Ud (wV (yd (Um (zj _) (yl zcE (zb (zc 0) zh)) (zj _)))) (wV (yT (zr (zb (zc 0) (zb (zx _) zh)))))) (zy (We _)) zC) (zy (zmx (zp ze1 (zp zcz (zc 0) (zj _)) (zx _)) (zp yR (zc 0) (zx _))))) h⟩)
noncomputable def XQ (fu:Nat):TwS:=(zH (sIf (bE (eOp (yV false) (eOp yE (ze 0) (eC (.int 0))) (eC (.str "if")))) (zY (xj [(eOp yE (ze 0) (eC (.int 2))),(eOp yE (ze 0) (eC (.int 3)))])) zO) (zH (sIf (bOr (bE (eOp (yV false) (eOp yE (ze 0) (eC (.int 0))) (eC (.str "while")))) (bE (eOp (yV false) (eOp yE (ze 0) (eC (.int 0))) (eC (.str "times"))))) (zY (xj [(eOp yE (ze 0) (eC (.int 2)))])) zO) (zH (sIf (bE (eOp (yV false) (eOp yE (ze 0) (eC (.int 0))) (eC (.str "hand")))) (zY (eOp yE (ze 0) (eC (.int 1)))) zO) (zY (xj [])))))
noncomputable def xM (fu:Nat):TwF:=ye 1 0 (XQ fu)
theorem Zz (T:Tx K mg):yB P w K mg base (CXE P w) 1 T.f_blocks_of.a T.f_blocks_of.fd ["deed"] (sTw K 1 (xM fu)):=
 T.f_blocks_of.F.okE zcU (fun vs H Q E h=>h.1) (fun cdv A outer s H vs Q E hr h=>⟨_,(@zk _ _ _ _ _ (ya (yf xp (@zZ _ _ _ _ _ _ _ (zT (K:=K)) (pv 0) zm (fun _ _=>rfl)) zA (by rfl)) (@zn _ _ _ (@zw _ _ _ _ (@yv _ _ _ _ _ (@za _ _ _ _ _ (@zZ _ _ _ _ _ _ _ (zT (K:=K)) (pv 0) zm (fun _ _=>rfl)) (@za _ _ _ _ _ (@zZ _ _ _ _ _ _ _ (zT (K:=K)) (pv 0) zm (fun _ _=>rfl)) zg zF) zF)))) zB) (@zk _ _ _ _ _ (ya (PW.pt (VT (yf xp (@zZ _ _ _ _ _ _ _ (zT (K:=K)) (pv 0) zm (fun _ _=>rfl)) zA (by rfl)) (Xn (yf xp (@zZ _ _ _ _ _ _ _ (zT (K:=K)) (pv 0) zm (fun _ _=>rfl)) zA (by rfl))))) (@zn _ _ _ (@zw _ _ _ _ (@yv _ _ _ _ _ (@za _ _ _ _ _ (@zZ _ _ _ _ _ _ _ (zT (K:=K)) (pv 0) zm (fun _ _=>rfl)) zg zF)))) zB) (@zk _ _ _ _ _ (ya (yf xp (@zZ _ _ _ _ _ _ _ (zT (K:=K)) (pv 0) zm (fun _ _=>rfl)) zA (by rfl)) (@zn _ _ _ (@zw _ _ _ _ (@zZ _ _ _ _ _ _ _ (zT (K:=K)) (pv 0) zm (fun _ _=>rfl)))) zB) (@zn _ _ _ (@zw _ _ _ _ (@yv _ _ _ _ _ zg)))))),yy (n:=1) (k:=0) (b:=XQ fu) rfl (zo (yb (yd (zp yR (zp yg (zc 0) (zj _)) (zx _))) (zy (yw (zb (zp yg (zc 0) (zj _)) (zb (zp yg (zc 0) (zj _)) zh)))) zC) (zo (yb (Ud (yd (zp yR (zp yg (zc 0) (zj _)) (zx _))) (yd (zp yR (zp yg (zc 0) (zj _)) (zx _)))) (zy (yw (zb (zp yg (zc 0) (zj _)) zh))) zC) (zo (yb (yd (zp yR (zp yg (zc 0) (zj _)) (zx _))) (zy (zp yg (zc 0) (zj _))) zC) (zy (yw zh))))) h⟩)
noncomputable def ZB (fu:Nat) (r_length_of:TwF) (r_deed_length:TwF):TwS:=(zY (eFn zeZ [(xl [none] (iT (ze 0)) (gN 0) xq (zv r_deed_length [(ze 0)]))]))
noncomputable def vc (fu:Nat) (r_length_of:TwF) (r_deed_length:TwF):TwS:=(zH (yD (eFn zeZ [(xl [none] (iT (zv (xM fu) [(ze 0)])) (gN 0) xq (zv r_length_of [(ze 0)]))]) (gN 1)) (zH (sIf (bE (eOp (yV false) (eOp yE (ze 0) (eC (.int 0))) (eC (.str "times")))) (zY (eOp xX (eC (.int 1)) (eOp Vr (eFn zi3 [(eOp yE (ze 0) (eC (.int 1))),(eC (.int 1))]) (eOp xX (eC (.int 1)) (ze 1))))) zO) (zY (eOp xX (eC (.int 1)) (ze 1)))))
mutual
noncomputable def yj (fu:Nat):Nat→TwF
 |0=>fun _ _=>none
 |n+1=>ye 1 0 (ZB fu (yj fu n) (yo fu n))
noncomputable def yo (fu:Nat):Nat→TwF
 |0=>fun _ _=>none
 |n+1=>ye 1 1 (vc fu (yj fu n) (yo fu n))
end
theorem Yr (fu n:Nat):yj fu (n+1)=ye 1 0 (ZB fu (yj fu n) (yo fu n)):=by rw [yj]
theorem UC (fu:Nat):yj fu 0=fun _ _=>none:=by rw [yj]
theorem Zs (fu n:Nat):yo fu (n+1)=ye 1 1 (vc fu (yj fu n) (yo fu n)):=by rw [yo]
theorem Vk (fu:Nat):yo fu 0=fun _ _=>none:=by rw [yo]
theorem zbC (T:Tx K mg):∀n:Nat,yB P w K mg base (CXE P w) (1+n) T.f_length_of.a T.f_length_of.fd ["block"] (sTw K 1 (yj fu n))∧yB P w K mg base (CXE P w) (1+n) T.f_deed_length.a T.f_deed_length.fd ["deed"] (sTw K 1 (yo fu n)):=by
 intro n
 induction n with
 |zero=>
  refine ⟨?_,?_⟩
  ·rw [UC]
   exact wE
  ·rw [Vk]
   exact wE
 |succ n ih=>
  refine ⟨?_,?_⟩
  ·rw [Yr]
   exact T.f_length_of.F.okE zcV (fun vs H Q E h=>h.1) (fun cdv A outer s H vs Q E hr h=>⟨_,(@zn _ _ _ (@zw _ _ _ _ (zK (UW (K:=K) rfl) rfl T.n_sum PyProof.Rows.Boot.«sum» (za (xF (N':=["deed"]) rfl (blk (osc:=zt Yn) rfl (by decide+kernel)) (yO xb) (xG (K:=K) (pv 0)) (yn rfl) (fun C s₀ H₀ fp=>yk (i:=0) (show (["deed"]:List Str).Nodup from by decide+kernel) rfl (Or.inl rfl)) (fun C s₀ H₀ fp=>xa) (fun C s₀ H₀ fp=>(zq ih.2 (hr.mono (by (try simp only [Nat.add_eq]);omega)) rfl T.f_deed_length.m T.f_deed_length.F.kp T.f_deed_length.b .nil Wd (@za _ _ _ _ _ (pv 0) zg zf)))) zg)))),yy (n:=1) (k:=0) (b:=ZB fu (yj fu n) (yo fu n)) rfl (zy (yl ze0 (zb (xf (cap:=[none]) (wv (zc 0)) zu xc (zr (zb (zc 0) zh))) zh))) h⟩)
  ·rw [Zs]
   exact T.f_deed_length.F.okE WD (fun vs H Q E h=>h.1) (fun cdv A outer s H vs Q E hr h=>⟨_,(@zk _ _ _ _ _ (@zV _ _ 1 _ _ _ _ WD.nd rfl (Or.inl rfl) (zK (UW (K:=K) rfl) rfl T.n_sum PyProof.Rows.Boot.«sum» (za (xF (N':=["block"]) rfl (blk (osc:=zt vJ) rfl (by decide+kernel)) (yO xb) (xG (K:=K) (zq (Zz (fu:=fu) T) (hr.mono (by (try simp only [Nat.add_eq]);omega)) rfl T.f_blocks_of.m T.f_blocks_of.F.kp T.f_blocks_of.b .nil zG (@za _ _ _ _ _ (pv 0) zg zf))) (yn rfl) (fun C s₀ H₀ fp=>yk (i:=0) (show (["block"]:List Str).Nodup from by decide+kernel) rfl (Or.inl rfl)) (fun C s₀ H₀ fp=>xa) (fun C s₀ H₀ fp=>(zq ih.1 (hr.mono (by (try simp only [Nat.add_eq]);omega)) rfl T.f_length_of.m T.f_length_of.F.kp T.f_length_of.b .nil Wd (@za _ _ _ _ _ (pv 0) zg zf)))) zg)) (by rfl) (by walk_at "q1")) (@zk _ _ _ _ _ (ya (yf xp (@zZ _ _ _ _ _ _ _ (zT (K:=K)) (pv 0) zm (fun _ _=>rfl)) zA (by rfl)) (@zn _ _ _ (@zw _ _ _ _ (yh yP zm (yh WT (zK (zgk rfl) rfl T.n_max boot_max (@za _ _ _ _ _ (@zZ _ _ _ _ _ _ _ (zT (K:=K)) (pv 0) zm (fun _ _=>rfl)) (@za _ _ _ _ _ zm zg zi) zF)) (yh yP zm (pv 1)))))) zB) (@zn _ _ _ (@zw _ _ _ _ (yh yP zm (pv 1)))))),yy (n:=1) (k:=1) (b:=vc fu (yj fu n) (yo fu n)) rfl (zo (zQ (yl ze0 (zb (xf (cap:=[none]) (wv (zr (zb (zc 0) zh))) zu xc (zr (zb (zc 0) zh))) zh)) zu) (zo (yb (yd (zp yR (zp yg (zc 0) (zj _)) (zx _))) (zy (zp yQ (zj _) (zp WY (yl zk1 (zb (zp yg (zc 0) (zj _)) (zb (zj _) zh))) (zp yQ (zj _) (zc 1))))) zC) (zy (zp yQ (zj _) (zc 1))))) h⟩)
theorem zcY (T:Tx K mg) (n:Nat):yB P w K mg base (CXE P w) (1+n) T.f_length_of.a T.f_length_of.fd ["block"] (sTw K 1 (yj fu n)):=(zbC T n).1
noncomputable def wJ (fu:Nat) (r_deeds_within:TwF):TwS:=(zH (yD (TL []) (gN 1)) (zH (zcA (iT (ze 0)) (gN 2) (zH (wP (eMt xU (ze 1) [(ze 2)])) (zcA (iT (zv (xM fu) [(ze 2)])) (gN 3) (wP (eMt Xy (ze 1) [(zv r_deeds_within [(ze 3)])]))))) (zY (ze 1))))
noncomputable def zW (fu:Nat):Nat→TwF
 |0=>fun _ _=>none
 |n+1=>ye 1 3 (wJ fu (zW fu n))
theorem Zc (fu n:Nat):zW fu (n+1)=ye 1 3 (wJ fu (zW fu n)):=by rfl
theorem WI (fu:Nat):zW fu 0=fun _ _=>none:=by rfl
theorem Tq (T:Tx K mg):∀n:Nat,yB P w K mg base (CXE P w) (1+n) T.f_deeds_within.a T.f_deeds_within.fd ["block"] (sTw K 1 (zW fu n)):=by
 intro n
 induction n with
 |zero=>
  skip
  ·rw [WI]
   exact wE
 |succ n ih=>
  ·rw [Zc]
   exact T.f_deeds_within.F.okE wH (fun vs H Q E h=>h.1) (fun cdv A outer s H vs Q E hr h=>⟨_,(@zk _ _ _ _ _ (@zV _ _ 1 _ _ _ _ wH.nd rfl (Or.inl rfl) (@Yy _ _ _ _ zg) (by rfl) (by walk_at "q1")) (@zk _ _ _ _ _ (VA PassesOwn.leaving rfl (xG (K:=K) (pv 0)) (yk (i:=2) wH.nd rfl (Or.inl rfl)) (@zk _ _ _ _ _ (xE (vW PySem.F.plainAttrs_list PySem.F.slot_list_append PySem.F.type_list_append wk (pv 1) (@za _ _ _ _ _ (pv 2) zg zf))) (@zn _ _ _ (VA PassesOwn.leaving rfl (xG (K:=K) (zq (Zz (fu:=fu) T) (hr.mono (by (try simp only [Nat.add_eq]);omega)) rfl T.f_blocks_of.m T.f_blocks_of.F.kp T.f_blocks_of.b .nil zG (@za _ _ _ _ _ (pv 2) zg zf))) (yk (i:=3) wH.nd rfl (Or.inl rfl)) (@zn _ _ _ (xE (vW PySem.F.plainAttrs_list PySem.F.slot_list_extend PySem.F.type_list_extend (VC (K:=K)) (pv 1) (@za _ _ _ _ _ (zq ih (hr.mono (by (try simp only [Nat.add_eq]);omega)) rfl T.f_deeds_within.m T.f_deeds_within.F.kp T.f_deeds_within.b .nil zG (@za _ _ _ _ _ (pv 3) zg zf)) zg yc)))))))) (@zn _ _ _ (@zw _ _ _ _ (pv 1))))),yy (n:=1) (k:=3) (b:=wJ fu (zW fu n)) rfl (zo (zQ (YC zh) zu) (zo (VD (wv (zc 0)) zu (zo (xH (Wq wO (zc 1) (zb (zc 2) zh))) (VD (wv (zr (zb (zc 2) zh))) zu (xH (Wq UZ (zc 1) (zb (zr (zb (zc 3) zh)) zh)))))) (zy (zc 1)))) h⟩)
theorem TW (T:Tx K mg) (n:Nat):yB P w K mg base (CXE P w) (1+n) T.f_deeds_within.a T.f_deeds_within.fd ["block"] (sTw K 1 (zW fu n)):=(Tq T n)
noncomputable def YL (fu:Nat):TwS:=(zY (zgC (zv (WH fu) [(ze 0)]) (VF (fun i j=>decide (i≤j)) (fun i j=>decide (i≤j)) (ze 1) (ze 0) (ze 2))))
noncomputable def xA (fu:Nat):TwF:=ye 3 0 (YL fu)
theorem vP (T:Tx K mg):yB P w K mg base (CXE P w) 2 T.f_is_from_to.a T.f_is_from_to.fd ["number","least","most"] (sTw K 3 (xA fu)):=
 T.f_is_from_to.F.okE zbx (fun vs H Q E h=>h.1) (fun cdv A outer s H vs Q E hr h=>⟨_,(@zn _ _ _ (@zw _ _ _ _ (zcj (zq (zd9 (fu:=fu) T) (hr.mono (by decide)) rfl T.f_is_whole.m T.f_is_whole.F.kp T.f_is_whole.b .nil zG (@za _ _ _ _ _ (pv 0) zg zf)) (zap (zdl Tw Tw (pv 1) (pv 0) (pv 2)))))),yy (n:=3) (k:=0) (b:=YL fu) rfl (zy (zcy (zr (zb (zc 0) zh)) (Um (zc 1) (zc 0) (zc 2)))) h⟩)
noncomputable def XR (fu:Nat):TwS:=(zH (yD (xl [none] (iT (ze 0)) (gN 0) xq (eOp yE (ze 0) (eC (.int 0)))) (gN 1)) (zH (sIf (bOr (bE (eOp dGt (eFn wx [(ze 1)]) (eC (.int 9)))) (bE (eOp zcD (eUn Uu (ze 1)) (eFn wx [(ze 1)])))) (zY (eC (.bl false))) zO) (zH (sIf (YB (bE (eFn zaN [(xl [none] (iL (ze 1)) (gN 0) xq (zv (ZS fu) [(ze 0)]))]))) (zY (eC (.bl false))) zO) (zH (yD (eC (.int 1)) (gN 2)) (zH (zcA (iT (ze 0)) (gT 2 (wu (gN 3) (wu (gN 4) Ug))) (zH (sIf (YB (bE (zv (xA fu) [(ze 4),(eC (.int 1)),(eC (.int 9))]))) (zY (eC (.bl false))) zO) (yD (eOp Vr (ze 2) (ze 4)) (gN 2)))) (zY (eOp dLe (ze 2) (eC (.int 1000)))))))))
noncomputable def XS (fu:Nat):TwF:=ye 1 4 (XR fu)
theorem zcZ (T:Tx K mg):yB P w K mg base (CXE P w) 3 T.f_boxes_fit.a T.f_boxes_fit.fd ["boxes"] (sTw K 1 (XS fu)):=
 T.f_boxes_fit.F.okE wo (fun vs H Q E h=>h.1) (fun cdv A outer s H vs Q E hr h=>⟨_,(@zk _ _ _ _ _ (Xt (i:=1) (N':=["box"]) rfl (blk (osc:=zt Zb) rfl (by decide+kernel)) (yO xb) (xG (K:=K) (pv 0)) (yn rfl) (fun C s₀ H₀ fp=>yk (i:=0) (show (["box"]:List Str).Nodup from by decide+kernel) rfl (Or.inl rfl)) (fun C s₀ H₀ fp=>xa) (fun C s₀ H₀ fp=>(@zZ _ _ _ _ _ _ _ (zT (K:=K)) (pv 0) zm (fun _ _=>rfl))) wo.nd rfl rfl) (@zk _ _ _ _ _ (ya (PW.pt (VT (ym (Wi (zK (yi (K:=K)) rfl T.n_len boot_len (@za _ _ _ _ _ (pv 1) zg zf)) (match T.m_MOST_BOXES with|⟨t,h⟩=>yZ (v:= .int 9) rfl h ⟨t,rfl⟩))) (Xn (ym (UP (zgO (K:=K) rfl rfl T.n_len rfl T.n_set (pv 1)) (zK (yi (K:=K)) rfl T.n_len boot_len (@za _ _ _ _ _ (pv 1) zg zf))))))) (@zn _ _ _ (@zw _ _ _ _ Wc)) zB) (@zk _ _ _ _ _ (ya (wS (wR (zK (Xe (K:=K) rfl) rfl T.n_all PyProof.Rows.Boot.«all» (za (xF (N':=["name"]) rfl (blk (osc:=zt Zb) rfl (by decide+kernel)) (yO xb) (Ua (K:=K) (pv 1)) (yn rfl) (fun C s₀ H₀ fp=>yk (i:=0) (show (["name"]:List Str).Nodup from by decide+kernel) rfl (Or.inl rfl)) (fun C s₀ H₀ fp=>xa) (fun C s₀ H₀ fp=>(zq (za3 (fu:=fu) T) (hr.mono (by decide)) rfl T.f_is_name.m T.f_is_name.F.kp T.f_is_name.b .nil Wd (@za _ _ _ _ _ (pv 0) zg zf)))) zg)))) (@zn _ _ _ (@zw _ _ _ _ Wc)) zB) (@zk _ _ _ _ _ (@zV _ _ 2 _ _ _ _ wo.nd rfl (Or.inl rfl) zm (by rfl) (by walk_at "q1")) (@zk _ _ _ _ _ (VA PassesOwn.leaving rfl (xG (K:=K) (pv 0)) (WV (K:=K) (n:=2) rfl (xO (yk (i:=3) wo.nd rfl (Or.inl rfl)) (xO (yk (i:=4) wo.nd rfl (Or.inl rfl)) WQ))) (@zk _ _ _ _ _ (ya (wS (wR (zq (vP (fu:=fu) T) (hr.mono (by decide)) rfl T.f_is_from_to.m T.f_is_from_to.F.kp T.f_is_from_to.b .nil zG (@za _ _ _ _ _ (pv 4) (@za _ _ _ _ _ zm (@za _ _ _ _ _ (match T.m_MOST_SIZE with|⟨t,h⟩=>yZ (v:= .int 9) rfl h ⟨t,rfl⟩) zg zf) zi) zf)))) (@zn _ _ _ (@zw _ _ _ _ Wc)) zB) (@zn _ _ _ (@zV _ _ 2 _ _ _ _ wo.nd rfl (Or.inl rfl) (yh WT (pv 2) (pv 4)) (by rfl) (by walk_at "q1"))))) (@zn _ _ _ (@zw _ _ _ _ (zao (zg6 (pv 2) (match T.m_MOST_STATES with|⟨t,h⟩=>yZ (v:= .int 1000) rfl h ⟨t,rfl⟩)))))))))),yy (n:=1) (k:=4) (b:=XR fu) rfl (zo (Xz (xf (cap:=[none]) (wv (zc 0)) zu xc (zp yg (zc 0) (zj _)))) (zo (yb (Ud (yT (Ws (yl xg (zb (zc 1) zh)) (zj _))) (yT (Te (zgR (zc 1)) (yl xg (zb (zc 1) zh))))) (zy (We _)) zC) (zo (yb (wV (yT (yl zaO (zb (xf (cap:=[none]) (zaf (zc 1)) zu xc (zr (zb (zc 0) zh))) zh)))) (zy (We _)) zC) (zo (zQ (zj _) zu) (zo (VD (wv (zc 0)) (Ta (xP zu (xP zu WX))) (zo (yb (wV (yT (zr (zb (zc 4) (zb (zj _) (zb (zj _) zh)))))) (zy (We _)) zC) (zQ (zp WY (zc 2) (zc 4)) zu))) (zy (zhG (zc 2) (zj _)))))))) h⟩)
noncomputable def Zk (fu:Nat):TwS:=(zH (sIf (bE (eUn (zdM "str") (ze 1))) (zY (zgG false (ze 1) (ze 0))) zO) (zY (zv (xA fu) [(ze 1),(eC (.int 0)),(eC (.int 999999999))])))
noncomputable def wK (fu:Nat):TwF:=ye 2 0 (Zk fu)
theorem TX (T:Tx K mg):yB P w K mg base (CXE P w) 3 T.f_operand_fits.a T.f_operand_fits.fd ["sizes","operand"] (sTw K 2 (wK fu)):=
 T.f_operand_fits.F.okE TU (fun vs H Q E h=>h.1) (fun cdv A outer s H vs Q E hr h=>⟨_,(@zk _ _ _ _ _ (ya (wR (zK (WU (K:=K)) rfl T.n_isinstance boot_isinstance (za (pv 1) (za (zab (v:= .ty "str") rfl T.n_str boot_str rfl) zg)))) (@zn _ _ _ (@zw _ _ _ _ (zao (zkM (zhq hr) (pv 1) (pv 0))))) zB) (@zn _ _ _ (@zw _ _ _ _ (zq (vP (fu:=fu) T) (hr.mono (by decide)) rfl T.f_is_from_to.m T.f_is_from_to.F.kp T.f_is_from_to.b .nil zG (@za _ _ _ _ _ (pv 1) (@za _ _ _ _ _ zm (@za _ _ _ _ _ (match T.m_MOST_NUMBER with|⟨t,h⟩=>yZ (v:= .int 999999999) rfl h ⟨t,rfl⟩) zg zf) zi) zf))))),yy (n:=2) (k:=0) (b:=Zk fu) rfl (zo (yb (yT (zcG zfT (zc 1))) (zy (zk3 (zc 1) (zc 0))) zC) (zy (zr (zb (zc 1) (zb (zj _) (zb (zj _) zh)))))) h⟩)
noncomputable def ZT (fu:Nat):TwS:=(zH (sIf (bE (eOp (yV false) (eOp yE (ze 0) (eC (.int 0))) (eC (.str "set")))) (zY (eUn zgQ (eOp yE (ze 0) (eC (.int 2))))) zO) (zH (sIf (bE (eOp (dIn false) (eOp yE (ze 0) (eC (.int 0))) (xj [(eC (.str "look")),(eC (.str "if")),(eC (.str "while"))]))) (zY (eUn zgQ (eOp yE (ze 0) (eC (.int 1))))) zO) (zH (sIf (bE (eOp (yV false) (eOp yE (ze 0) (eC (.int 0))) (eC (.str "gain")))) (zY (xj [(eOp yE (ze 0) (eC (.int 1)))])) zO) (zY (xj [])))))
noncomputable def ve (fu:Nat):TwF:=ye 1 0 (ZT fu)
theorem za4 (T:Tx K mg):yB P w K mg base (CXE P w) 1 T.f_operands_of.a T.f_operands_of.fd ["deed"] (sTw K 1 (ve fu)):=
 T.f_operands_of.F.okE zaZ (fun vs H Q E h=>h.1) (fun cdv A outer s H vs Q E hr h=>⟨_,(@zk _ _ _ _ _ (ya (yf xp (@zZ _ _ _ _ _ _ _ (zT (K:=K)) (pv 0) zm (fun _ _=>rfl)) zA (by rfl)) (@zn _ _ _ (@zw _ _ _ _ (zhV (K:=K) (@zZ _ _ _ _ _ _ _ (zT (K:=K)) (pv 0) zm (fun _ _=>rfl))))) zB) (@zk _ _ _ _ _ (ya (yf (zeN (K:=K)) (@zZ _ _ _ _ _ _ _ (zT (K:=K)) (pv 0) zm (fun _ _=>rfl)) (@yv _ _ _ _ _ (@za _ _ _ _ _ zA (@za _ _ _ _ _ zA (@za _ _ _ _ _ zA zg zi) zi) zi)) (by rfl)) (@zn _ _ _ (@zw _ _ _ _ (zhV (K:=K) (@zZ _ _ _ _ _ _ _ (zT (K:=K)) (pv 0) zm (fun _ _=>rfl))))) zB) (@zk _ _ _ _ _ (ya (yf xp (@zZ _ _ _ _ _ _ _ (zT (K:=K)) (pv 0) zm (fun _ _=>rfl)) zA (by rfl)) (@zn _ _ _ (@zw _ _ _ _ (@yv _ _ _ _ _ (@za _ _ _ _ _ (@zZ _ _ _ _ _ _ _ (zT (K:=K)) (pv 0) zm (fun _ _=>rfl)) zg zF)))) zB) (@zn _ _ _ (@zw _ _ _ _ (@yv _ _ _ _ _ zg)))))),yy (n:=1) (k:=0) (b:=ZT fu) rfl (zo (yb (yd (zp yR (zp yg (zc 0) (zj _)) (zx _))) (zy (zh1 (zp yg (zc 0) (zj _)))) zC) (zo (yb (yd (zp TC (zp yg (zc 0) (zj _)) (yw (zb (zx _) (zb (zx _) (zb (zx _) zh)))))) (zy (zh1 (zp yg (zc 0) (zj _)))) zC) (zo (yb (yd (zp yR (zp yg (zc 0) (zj _)) (zx _))) (zy (yw (zb (zp yg (zc 0) (zj _)) zh))) zC) (zy (yw zh))))) h⟩)
noncomputable def ZU (fu:Nat):TwS:=(zH (sIf (bOr (bE (eOp zcD (eFn wx [(ze 0)]) (ze 1))) (YB (bE (eFn zaN [(xl [none] (iT (ze 0)) (gN 0) xq (zv (xA fu) [(ze 0),(eC (.int 0)),(eC (.int 999999999))]))])))) (zY (eC (.bl false))) zO) (zY (eOp dGt (eFn zdJ [(ze 0)]) (eC (.int 0)))))
noncomputable def vf (fu:Nat):TwF:=ye 2 0 (ZU fu)
theorem za5 (T:Tx K mg):yB P w K mg base (CXE P w) 3 T.f_weights_fit.a T.f_weights_fit.fd ["weights","size"] (sTw K 2 (vf fu)):=
 T.f_weights_fit.F.okE zaY (fun vs H Q E h=>h.1) (fun cdv A outer s H vs Q E hr h=>⟨_,(@zk _ _ _ _ _ (ya (PW.pt (VT (ym (UP (zK (yi (K:=K)) rfl T.n_len boot_len (@za _ _ _ _ _ (pv 0) zg zf)) (pv 1))) (Xn (wS (wR (zK (Xe (K:=K) rfl) rfl T.n_all PyProof.Rows.Boot.«all» (za (xF (N':=["weight"]) rfl (blk (osc:=zt vK) rfl (by decide+kernel)) (yO xb) (xG (K:=K) (pv 0)) (yn rfl) (fun C s₀ H₀ fp=>yk (i:=0) (show (["weight"]:List Str).Nodup from by decide+kernel) rfl (Or.inl rfl)) (fun C s₀ H₀ fp=>xa) (fun C s₀ H₀ fp=>(zq (vP (fu:=fu) T) (hr.mono (by decide)) rfl T.f_is_from_to.m T.f_is_from_to.F.kp T.f_is_from_to.b .nil Wd (@za _ _ _ _ _ (pv 0) (@za _ _ _ _ _ zm (@za _ _ _ _ _ (match T.m_MOST_NUMBER with|⟨t,h⟩=>yZ (v:= .int 999999999) rfl h ⟨t,rfl⟩) zg zf) zi) zf)))) zg))))))) (@zn _ _ _ (@zw _ _ _ _ Wc)) zB) (@zn _ _ _ (@zw _ _ _ _ (zao (Wi (zK (zeS (K:=K) rfl) rfl T.n_sum PyProof.Rows.Boot.«sum» (@za _ _ _ _ _ (pv 0) zg zf)) zm))))),yy (n:=2) (k:=0) (b:=ZU fu) rfl (zo (yb (Ud (yT (Te (yl xg (zb (zc 0) zh)) (zc 1))) (wV (yT (yl zaO (zb (xf (cap:=[none]) (wv (zc 0)) zu xc (zr (zb (zc 0) (zb (zj _) (zb (zj _) zh))))) zh))))) (zy (We _)) zC) (zy (Ws (yl zi4 (zb (zc 0) zh)) (zj _)))) h⟩)
noncomputable def XT (fu:Nat):TwS:=(zH (yD (eOp yE (ze 1) (eC (.int 0))) (gN 2)) (zH (sIf (Xw (bE (eOp (dIn false) (ze 2) (xj [(eC (.str "set")),(eC (.str "draw"))]))) (bE (zgG true (eOp yE (ze 1) (eC (.int 1))) (ze 0)))) (zY (eC (.bl false))) zO) (zH (sIf (Xw (bE (eOp (yV false) (ze 2) (eC (.str "draw")))) (YB (bE (zv (vf fu) [(eOp yE (ze 1) (eC (.int 2))),(zdP (ze 0) (eOp yE (ze 1) (eC (.int 1))))])))) (zY (eC (.bl false))) zO) (zH (sIf (Xw (bE (eOp (yV false) (ze 2) (eC (.str "times")))) (YB (bE (zv (xA fu) [(eOp yE (ze 1) (eC (.int 1))),(eC (.int 0)),(eC (.int 60))])))) (zY (eC (.bl false))) zO) (zH (sIf (Xw (bE (eOp (yV false) (ze 2) (eC (.str "hand")))) (YB (bE (VF (fun i j=>decide (i≤j)) (fun i j=>decide (i≤j)) (eC (.int 2)) (eFn wx [(eOp yE (ze 1) (eC (.int 1)))]) (eC (.int 8)))))) (zY (eC (.bl false))) zO) (zY (eFn zaN [(xl [none,some 0] (iT (zv (ve fu) [(ze 1)])) (gN 0) xq (zv (wK fu) [(ze 1),(ze 0)]))])))))))
noncomputable def vg (fu:Nat):TwF:=ye 2 1 (XT fu)
theorem zc0 (T:Tx K mg):yB P w K mg base (CXE P w) 4 T.f_deed_fits.a T.f_deed_fits.fd ["sizes","deed"] (sTw K 2 (vg fu)):=
 T.f_deed_fits.F.okE Ux (fun vs H Q E h=>h.1) (fun cdv A outer s H vs Q E hr h=>⟨_,(@zk _ _ _ _ _ (@zV _ _ 2 _ _ _ _ Ux.nd rfl (Or.inl rfl) (@zZ _ _ _ _ _ _ _ (zT (K:=K)) (pv 1) zm (fun _ _=>rfl)) (by rfl) (by walk_at "q1")) (@zk _ _ _ _ _ (ya (PW.pt (Zd (yf (zeN (K:=K)) (pv 2) (@yv _ _ _ _ _ (@za _ _ _ _ _ zA (@za _ _ _ _ _ zA zg zi) zi)) (by rfl)) (wD (ym (zgt (zhq hr) (@zZ _ _ _ _ _ _ _ (zT (K:=K)) (pv 1) zm (fun _ _=>rfl)) (pv 0)))))) (@zn _ _ _ (@zw _ _ _ _ Wc)) zB) (@zk _ _ _ _ _ (ya (PW.pt (Zd (yf xp (pv 2) zA (by rfl)) (wD (wS (wR (zq (za5 (fu:=fu) T) (hr.mono (by decide)) rfl T.f_weights_fit.m T.f_weights_fit.F.kp T.f_weights_fit.b .nil zG (@za _ _ _ _ _ (@zZ _ _ _ _ _ _ _ (zT (K:=K)) (pv 1) zm (fun _ _=>rfl)) (@za _ _ _ _ _ (ziQ (zhq hr) (pv 0) (@zZ _ _ _ _ _ _ _ (zT (K:=K)) (pv 1) zm (fun _ _=>rfl)) (fun _ _=>rfl)) zg zF) zF))))))) (@zn _ _ _ (@zw _ _ _ _ Wc)) zB) (@zk _ _ _ _ _ (ya (PW.pt (Zd (yf xp (pv 2) zA (by rfl)) (wD (wS (wR (zq (vP (fu:=fu) T) (hr.mono (by decide)) rfl T.f_is_from_to.m T.f_is_from_to.F.kp T.f_is_from_to.b .nil zG (@za _ _ _ _ _ (@zZ _ _ _ _ _ _ _ (zT (K:=K)) (pv 1) zm (fun _ _=>rfl)) (@za _ _ _ _ _ zm (@za _ _ _ _ _ (match T.m_MOST_TURNS with|⟨t,h⟩=>yZ (v:= .int 60) rfl h ⟨t,rfl⟩) zg zf) zi) zF))))))) (@zn _ _ _ (@zw _ _ _ _ Wc)) zB) (@zk _ _ _ _ _ (ya (PW.pt (Zd (yf xp (pv 2) zA (by rfl)) (wD (wS (zdm Tw Tw (match T.m_FEWEST_BLOCKS with|⟨t,h⟩=>yZ (v:= .int 2) rfl h ⟨t,rfl⟩) (zK (yi (K:=K)) rfl T.n_len boot_len (@za _ _ _ _ _ (@zZ _ _ _ _ _ _ _ (zT (K:=K)) (pv 1) zm (fun _ _=>rfl)) zg zF)) (match T.m_MOST_BLOCKS with|⟨t,h⟩=>yZ (v:= .int 8) rfl h ⟨t,rfl⟩)))))) (@zn _ _ _ (@zw _ _ _ _ Wc)) zB) (@zn _ _ _ (@zw _ _ _ _ (zK (Xe (K:=K) rfl) rfl T.n_all PyProof.Rows.Boot.«all» (za (xF (N':=["operand","sizes"]) rfl (blk (osc:=zt Yo) rfl (by decide+kernel)) (yO (Ym (i:=0) rfl rfl xb)) (xG (K:=K) (zq (za4 (fu:=fu) T) (hr.mono (by decide)) rfl T.f_operands_of.m T.f_operands_of.F.kp T.f_operands_of.b .nil zG (@za _ _ _ _ _ (pv 1) zg zf))) (yn rfl) (fun C s₀ H₀ fp=>yk (i:=0) (show (["operand","sizes"]:List Str).Nodup from by decide+kernel) rfl (Or.inl rfl)) (fun C s₀ H₀ fp=>xa) (fun C s₀ H₀ fp=>(zq (TX (fu:=fu) T) (hr.mono (by decide)) rfl T.f_operand_fits.m T.f_operand_fits.F.kp T.f_operand_fits.b .nil Wd (@za _ _ _ _ _ (pv 1) (@za _ _ _ _ _ (pv 0) zg zf) zf)))) zg))))))))),yy (n:=2) (k:=1) (b:=XT fu) rfl (zo (zQ (zp yg (zc 1) (zj _)) zu) (zo (yb (Zf (yd (zp TC (zc 2) (yw (zb (zx _) (zb (zx _) zh))))) (yT (zgH (zp yg (zc 1) (zj _)) (zc 0)))) (zy (We _)) zC) (zo (yb (Zf (yd (zp yR (zc 2) (zx _))) (wV (yT (zr (zb (zp yg (zc 1) (zj _)) (zb (zi9 (zc 0) (zp yg (zc 1) (zj _))) zh)))))) (zy (We _)) zC) (zo (yb (Zf (yd (zp yR (zc 2) (zx _))) (wV (yT (zr (zb (zp yg (zc 1) (zj _)) (zb (zj _) (zb (zj _) zh))))))) (zy (We _)) zC) (zo (yb (Zf (yd (zp yR (zc 2) (zx _))) (wV (yd (Um (zj _) (yl xg (zb (zp yg (zc 1) (zj _)) zh)) (zj _))))) (zy (We _)) zC) (zy (yl zaO (zb (xf (cap:=[none,some 0]) (wv (zr (zb (zc 1) zh))) zu xc (zr (zb (zc 1) (zb (zc 0) zh)))) zh)))))))) h⟩)
noncomputable def Ys (fu:Nat) (r_depth_of:TwF) (r_deed_depth:TwF):TwS:=(zY (eUn (zaS 0) (xl [none] (iT (ze 0)) (gN 0) xq (zv r_deed_depth [(ze 0)]))))
noncomputable def vQ (fu:Nat) (r_depth_of:TwF) (r_deed_depth:TwF):TwS:=(zH (sIf (bE (eOp (dIn true) (eOp yE (ze 0) (eC (.int 0))) (eC (.ct [.str "if",.str "while",.str "times",.str "hand"])))) (zY (eC (.int 0))) zO) (zY (eOp xX (eC (.int 1)) (eUn (zaS 0) (xl [none] (iT (zv (xM fu) [(ze 0)])) (gN 0) xq (zv r_depth_of [(ze 0)]))))))
mutual
noncomputable def yt (fu:Nat):Nat→TwF
 |0=>fun _ _=>none
 |n+1=>ye 1 0 (Ys fu (yt fu n) (yz fu n))
noncomputable def yz (fu:Nat):Nat→TwF
 |0=>fun _ _=>none
 |n+1=>ye 1 0 (vQ fu (yt fu n) (yz fu n))
end
theorem Xi (fu n:Nat):yt fu (n+1)=ye 1 0 (Ys fu (yt fu n) (yz fu n)):=by rw [yt]
theorem Ts (fu:Nat):yt fu 0=fun _ _=>none:=by rw [yt]
theorem ZV (fu n:Nat):yz fu (n+1)=ye 1 0 (vQ fu (yt fu n) (yz fu n)):=by rw [yz]
theorem VO (fu:Nat):yz fu 0=fun _ _=>none:=by rw [yz]
theorem zc1 (T:Tx K mg):∀n:Nat,yB P w K mg base (CXE P w) (1+n) T.f_depth_of.a T.f_depth_of.fd ["block"] (sTw K 1 (yt fu n))∧yB P w K mg base (CXE P w) (1+n) T.f_deed_depth.a T.f_deed_depth.fd ["deed"] (sTw K 1 (yz fu n)):=by
 intro n
 induction n with
 |zero=>
  refine ⟨?_,?_⟩
  ·rw [Ts]
   exact wE
  ·rw [VO]
   exact wE
 |succ n ih=>
  refine ⟨?_,?_⟩
  ·rw [Xi]
   exact T.f_depth_of.F.okE zd6 (fun vs H Q E h=>h.1) (fun cdv A outer s H vs Q E hr h=>⟨_,(@zn _ _ _ (@zw _ _ _ _ (zfX (K:=K) rfl rfl T.n_max (xF (N':=["deed"]) rfl (blk (osc:=zt XC) rfl (by decide+kernel)) (yO xb) (xG (K:=K) (pv 0)) (yn rfl) (fun C s₀ H₀ fp=>yk (i:=0) (show (["deed"]:List Str).Nodup from by decide+kernel) rfl (Or.inl rfl)) (fun C s₀ H₀ fp=>xa) (fun C s₀ H₀ fp=>(zq ih.2 (hr.mono (by (try simp only [Nat.add_eq]);omega)) rfl T.f_deed_depth.m T.f_deed_depth.F.kp T.f_deed_depth.b .nil Wd (@za _ _ _ _ _ (pv 0) zg zf))))))),yy (n:=1) (k:=0) (b:=Ys fu (yt fu n) (yz fu n)) rfl (zy (zfZ (xf (cap:=[none]) (wv (zc 0)) zu xc (zr (zb (zc 0) zh))))) h⟩)
  ·rw [ZV]
   exact T.f_deed_depth.F.okE zby (fun vs H Q E h=>h.1) (fun cdv A outer s H vs Q E hr h=>⟨_,(@zk _ _ _ _ _ (ya (yf (Xc (K:=K)) (@zZ _ _ _ _ _ _ _ (zT (K:=K)) (pv 0) zm (fun _ _=>rfl)) (yZ (v:= .ref T.a_BLOCK_KINDS) rfl T.m_BLOCK_KINDS rfl) (by rfl)) (@zn _ _ _ (@zw _ _ _ _ zm)) zB) (@zn _ _ _ (@zw _ _ _ _ (yh yP zm (zfX (K:=K) rfl rfl T.n_max (xF (N':=["block"]) rfl (blk (osc:=zt Zv) rfl (by decide+kernel)) (yO xb) (xG (K:=K) (zq (Zz (fu:=fu) T) (hr.mono (by (try simp only [Nat.add_eq]);omega)) rfl T.f_blocks_of.m T.f_blocks_of.F.kp T.f_blocks_of.b .nil zG (@za _ _ _ _ _ (pv 0) zg zf))) (yn rfl) (fun C s₀ H₀ fp=>yk (i:=0) (show (["block"]:List Str).Nodup from by decide+kernel) rfl (Or.inl rfl)) (fun C s₀ H₀ fp=>xa) (fun C s₀ H₀ fp=>(zq ih.1 (hr.mono (by (try simp only [Nat.add_eq]);omega)) rfl T.f_depth_of.m T.f_depth_of.F.kp T.f_depth_of.b .nil Wd (@za _ _ _ _ _ (pv 0) zg zf))))))))),yy (n:=1) (k:=0) (b:=vQ fu (yt fu n) (yz fu n)) rfl (zo (yb (yd (zp TC (zp yg (zc 0) (zj _)) (zcx fun j H=> .ct (fun H=>T.c_BLOCK_KINDS H) (.cons (.str _) (.cons (.str _) (.cons (.str _) (.cons (.str _) .nil))))))) (zy (zj _)) zC) (zy (zp yQ (zj _) (zfZ (xf (cap:=[none]) (wv (zr (zb (zc 0) zh))) zu xc (zr (zb (zc 0) zh))))))) h⟩)
theorem zea (T:Tx K mg) (n:Nat):yB P w K mg base (CXE P w) (1+n) T.f_depth_of.a T.f_depth_of.fd ["block"] (sTw K 1 (yt fu n)):=(zc1 T n).1
noncomputable def YM (fu:Nat):TwS:=(zH (yD (eOp yE (ze 0) (eC (.int 0))) (gN 1)) (zH (yD (eOp yE (ze 0) (eC (.int 1))) (gN 2)) (zH (sIf (YB (bE (zv (XS fu) [(ze 1)]))) (zY (eC (.bl false))) zO) (zH (yD (eFn zcQ [(ze 1)]) (gN 3)) (zH (sIf (YB (bE (eFn zaN [(xl [none,some 3] (iL (zv (zW fu 20) [(ze 2)])) (gN 0) xq (zv (vg fu) [(ze 1),(ze 0)]))]))) (zY (eC (.bl false))) zO) (zY (zgC (eOp dLe (zv (yt fu 40) [(ze 2)]) (eC (.int 12))) (eOp dLe (zv (yj fu 40) [(ze 2)]) (eC (.int 100))))))))))
noncomputable def YN (fu:Nat):TwF:=ye 1 3 (YM fu)
theorem zbD (T:Tx K mg):yB P w K mg base (CXE P w) 42 T.f_is_program.a T.f_is_program.fd ["program"] (sTw K 1 (YN fu)):=
 T.f_is_program.F.okE vL (fun vs H Q E h=>h.1) (fun cdv A outer s H vs Q E hr h=>⟨_,(@zk _ _ _ _ _ (@zV _ _ 1 _ _ _ _ vL.nd rfl (Or.inl rfl) (@zZ _ _ _ _ _ _ _ (zT (K:=K)) (pv 0) zm (fun _ _=>rfl)) (by rfl) (by walk_at "q1")) (@zk _ _ _ _ _ (@zV _ _ 2 _ _ _ _ vL.nd rfl (Or.inl rfl) (@zZ _ _ _ _ _ _ _ (zT (K:=K)) (pv 0) zm (fun _ _=>rfl)) (by rfl) (by walk_at "q1")) (@zk _ _ _ _ _ (ya (wS (wR (zq (zcZ (fu:=fu) T) (hr.mono (by decide)) rfl T.f_boxes_fit.m T.f_boxes_fit.F.kp T.f_boxes_fit.b .nil zG (@za _ _ _ _ _ (pv 1) zg zf)))) (@zn _ _ _ (@zw _ _ _ _ Wc)) zB) (@zk _ _ _ _ _ (@zV _ _ 3 _ _ _ _ vL.nd rfl (Or.inr rfl) (yU (ze6 rfl) rfl T.n_dict PyProof.Rows.Boot.«dict» (@za _ _ _ _ _ (pv 1) zg zf)) (by rfl) (by walk_at "q1")) (@zk _ _ _ _ _ (ya (wS (wR (zK (Xe (K:=K) rfl) rfl T.n_all PyProof.Rows.Boot.«all» (za (xF (N':=["deed","sizes"]) rfl (blk (osc:=zt Zu) rfl (by decide+kernel)) (yO (Ym (i:=3) rfl rfl xb)) (Ua (K:=K) (zq (TW (fu:=fu) T 20) (hr.mono (by decide)) rfl T.f_deeds_within.m T.f_deeds_within.F.kp T.f_deeds_within.b .nil zG (@za _ _ _ _ _ (pv 2) zg zf))) (yn rfl) (fun C s₀ H₀ fp=>yk (i:=0) (show (["deed","sizes"]:List Str).Nodup from by decide+kernel) rfl (Or.inl rfl)) (fun C s₀ H₀ fp=>xa) (fun C s₀ H₀ fp=>(zq (zc0 (fu:=fu) T) (hr.mono (by decide)) rfl T.f_deed_fits.m T.f_deed_fits.F.kp T.f_deed_fits.b .nil Wd (@za _ _ _ _ _ (pv 1) (@za _ _ _ _ _ (pv 0) zg zf) zf)))) zg)))) (@zn _ _ _ (@zw _ _ _ _ Wc)) zB) (@zn _ _ _ (@zw _ _ _ _ (zcj (zao (zg6 (zq (zea (fu:=fu) T 40) (hr.mono (by decide)) rfl T.f_depth_of.m T.f_depth_of.F.kp T.f_depth_of.b .nil zG (@za _ _ _ _ _ (pv 2) zg zf)) (match T.m_MOST_WITHIN with|⟨t,h⟩=>yZ (v:= .int 12) rfl h ⟨t,rfl⟩))) (zap (zao (zg6 (zq (zcY (fu:=fu) T 40) (hr.mono (by decide)) rfl T.f_length_of.m T.f_length_of.F.kp T.f_length_of.b .nil zG (@za _ _ _ _ _ (pv 2) zg zf)) (match T.m_MOST_LENGTH with|⟨t,h⟩=>yZ (v:= .int 100) rfl h ⟨t,rfl⟩)))))))))))),yy (n:=1) (k:=3) (b:=YM fu) rfl (zo (zQ (zp yg (zc 0) (zj _)) zu) (zo (zQ (zp yg (zc 0) (zj _)) zu) (zo (yb (wV (yT (zr (zb (zc 1) zh)))) (zy (We _)) zC) (zo (zQ (yl zh2 (zb (zc 1) zh)) zu) (zo (yb (wV (yT (yl zaO (zb (xf (cap:=[none,some 3]) (zaf (zr (zb (zc 2) zh))) zu xc (zr (zb (zc 1) (zb (zc 0) zh)))) zh)))) (zy (We _)) zC) (zy (zcy (zhG (zr (zb (zc 2) zh)) (zj _)) (zhG (zr (zb (zc 2) zh)) (zj _))))))))) h⟩)
noncomputable def vF (fu:Nat):TwS:=(zH (zdW "Rows" "rows" (ze 0) (TL [])) (zH (sIf (bE (eOp (yV true) (ze 1) (eC (.str "")))) (zdW "Rows" "rows" (ze 0) (xl [none] (iL (zbu VG (ze 1) [(eC (.str "\n"))])) (gN 0) xq (zbu VG (ze 0) [(eC (.str " "))]))) zO) (zdW "Rows" "place" (ze 0) (eC (.int 0)))))
noncomputable def vG (fu:Nat):TwF:=ye 2 0 (vF fu)
theorem Tt (T:Tx K mg):yB P w K mg base (CXE P w) 1 T.f_Rows___init__.a T.f_Rows___init__.fd ["self","text"] (sTw K 2 (vG fu)):=
 T.f_Rows___init__.F.okE Tp (fun vs H Q E h=>h.1) (fun cdv A outer s H vs Q E hr h=>⟨_,(@zk _ _ _ _ _ (zeE (pv 0) (@Yy _ _ _ _ zg) rfl) (@zk _ _ _ _ _ (ya (yf zhe (pv 1) zA (by rfl)) (@zn _ _ _ (zeE (pv 0) (xF (N':=["row"]) rfl (blk (osc:=zt wG) rfl (by decide+kernel)) (yO xb) (Ua (K:=K) (vW PySem.F.plainAttrs_str PySem.F.slot_str_split PySem.F.type_str_split zdY (pv 1) (@za _ _ _ _ _ zA zg zi))) (yn rfl) (fun C s₀ H₀ fp=>yk (i:=0) (show (["row"]:List Str).Nodup from by decide+kernel) rfl (Or.inl rfl)) (fun C s₀ H₀ fp=>xa) (fun C s₀ H₀ fp=>(vW PySem.F.plainAttrs_str PySem.F.slot_str_split PySem.F.type_str_split zdY (pv 0) (@za _ _ _ _ _ zA zg zi)))) rfl)) zB) (@zn _ _ _ (zeE (pv 0) zm rfl)))),yy (n:=2) (k:=0) (b:=vF fu) rfl (zo (zcO T.ns_Rows T.cl_Rows T.n_Rows_rows (zc 0) (YC zh)) (zo (yb (yd (zp ze1 (zc 1) (zx _))) (zcO T.ns_Rows T.cl_Rows T.n_Rows_rows (zc 0) (xf (cap:=[none]) (zaf (Tm zd1 (zc 1) (zb (zx _) zh))) zu xc (Tm zd1 (zc 0) (zb (zx _) zh)))) zC) (zcO T.ns_Rows T.cl_Rows T.n_Rows_place (zc 0) (zj _)))) h⟩)
noncomputable def wN (fu:Nat):TwS:=(zH (sIf (bE (eOp ZL (TF "Rows" "place" (ze 0)) (eFn wx [(TF "Rows" "rows" (ze 0))]))) (zY (eC .non)) zO) (zY (eOp vp (eOp vp (TF "Rows" "rows" (ze 0)) (TF "Rows" "place" (ze 0))) (eC (.int 0)))))
noncomputable def yu (fu:Nat):TwF:=ye 1 0 (wN fu)
theorem xm (T:Tx K mg):yB P w K mg base (CXE P w) 1 T.f_Rows_first_word.a T.f_Rows_first_word.fd ["self"] (sTw K 1 (yu fu)):=
 T.f_Rows_first_word.F.okE VL (fun vs H Q E h=>h.1) (fun cdv A outer s H vs Q E hr h=>⟨_,(@zk _ _ _ _ _ (ya (ym (xR (UT (pv 0) rfl) (zK (yi (K:=K)) rfl T.n_len boot_len (@za _ _ _ _ _ (UT (pv 0) rfl) zg zcw)))) (@zn _ _ _ (@zw _ _ _ _ zg5)) zB) (@zn _ _ _ (@zw _ _ _ _ (@zZ _ _ _ _ _ _ _ (yH (K:=K)) (@zZ _ _ _ _ _ _ _ (yH (K:=K)) (UT (pv 0) rfl) (UT (pv 0) rfl) (fun _ _=>rfl)) zm (fun _ _=>rfl))))),yy (n:=1) (k:=0) (b:=wN fu) rfl (zo (yb (yT (xS (Ve T.ns_Rows T.cl_Rows T.n_Rows_place (zc 0)) (yl xg (zb (Ve T.ns_Rows T.cl_Rows T.n_Rows_rows (zc 0)) zh)))) (zy zhA) zC) (zy (zp xy (zp xy (Ve T.ns_Rows T.cl_Rows T.n_Rows_rows (zc 0)) (Ve T.ns_Rows T.cl_Rows T.n_Rows_place (zc 0))) (zj _)))) h⟩)
noncomputable def YO (fu:Nat):TwS:=(zH (yD (eOp vp (TF "Rows" "rows" (ze 0)) (TF "Rows" "place" (ze 0))) (gN 1)) (zH (zhZ "Rows" "place" (ze 0) (eC (.int 1))) (zY (ze 1))))
noncomputable def xQ (fu:Nat):TwF:=ye 1 1 (YO fu)
theorem YQ (T:Tx K mg):yB P w K mg base (CXE P w) 1 T.f_Rows_taken.a T.f_Rows_taken.fd ["self"] (sTw K 1 (xQ fu)):=
 T.f_Rows_taken.F.okE Vt (fun vs H Q E h=>h.1) (fun cdv A outer s H vs Q E hr h=>⟨_,(@zk _ _ _ _ _ (@zV _ _ 1 _ _ _ _ Vt.nd rfl (Or.inl rfl) (@zZ _ _ _ _ _ _ _ (yH (K:=K)) (UT (pv 0) rfl) (UT (pv 0) rfl) (fun _ _=>rfl)) (by rfl) (by walk_at "q1")) (@zk _ _ _ _ _ (zgo (pv 0) zm zkG) (@zn _ _ _ (@zw _ _ _ _ (pv 1))))),yy (n:=1) (k:=1) (b:=YO fu) rfl (zo (zQ (zp xy (Ve T.ns_Rows T.cl_Rows T.n_Rows_rows (zc 0)) (Ve T.ns_Rows T.cl_Rows T.n_Rows_place (zc 0))) zu) (zo (zjp T.ns_Rows T.cl_Rows T.n_Rows_place (zc 0) (zj _)) (zy (zc 1)))) h⟩)
noncomputable def ZW (fu:Nat):TwS:=(sIf (bOr (bE (eUn zmz (xT "Rows" "first_word" (yu fu) (ze 0) []))) (bE (eOp (zlt true) (xT "Rows" "taken" (xQ fu) (ze 0) []) (TL [(ze 1)])))) vB zO)
noncomputable def yW (fu:Nat):TwF:=ye 2 0 (ZW fu)
theorem xn (T:Tx K mg):yB P w K mg base (CXE P w) 2 T.f_Rows_take_alone.a T.f_Rows_take_alone.fd ["self","word"] (sTw K 2 (yW fu)):=
 T.f_Rows_take_alone.F.okE VM (fun vs H Q E h=>h.1) (fun cdv A outer s H vs Q E hr h=>⟨_,(@zn _ _ _ (ya (PW.pt (VT (ym (zkt (vV (pv 0) T.cl_Rows T.f_Rows_first_word.mt (xm (fu:=fu) T) (hr.mono (by decide)) T.f_Rows_first_word.b .nil zG))) (Xn (yf (zln (K:=K) hr) (vV (pv 0) T.cl_Rows T.f_Rows_taken.mt (YQ (fu:=fu) T) (hr.mono (by decide)) T.f_Rows_taken.b .nil zG) (@Yy _ _ _ _ (@za _ _ _ _ _ (pv 1) zg zf)) (by rfl))))) (@zn _ _ _ wa) zB)),yy (n:=2) (k:=0) (b:=ZW fu) rfl (yb (Ud (yT (zkU (xJ T.ns_Rows (zc 0) zh))) (yd (zp zlu (xJ T.ns_Rows (zc 0) zh) (YC (zb (zc 1) zh))))) we zC) h⟩)
noncomputable def XU (fu:Nat):TwS:=(zH (sIf (YB (bE (zv (ZS fu) [(ze 0)]))) vB zO) (zY (ze 0)))
noncomputable def xx (fu:Nat):TwF:=ye 1 0 (XU fu)
theorem ZC (T:Tx K mg):yB P w K mg base (CXE P w) 3 T.f_name_from.a T.f_name_from.fd ["word"] (sTw K 1 (xx fu)):=
 T.f_name_from.F.okE zcX (fun vs H Q E h=>h.1) (fun cdv A outer s H vs Q E hr h=>⟨_,(@zk _ _ _ _ _ (ya (wS (wR (zq (za3 (fu:=fu) T) (hr.mono (by decide)) rfl T.f_is_name.m T.f_is_name.F.kp T.f_is_name.b .nil zG (@za _ _ _ _ _ (pv 0) zg zf)))) (@zn _ _ _ wa) zB) (@zn _ _ _ (@zw _ _ _ _ (pv 0)))),yy (n:=1) (k:=0) (b:=XU fu) rfl (zo (yb (wV (yT (zr (zb (zc 0) zh)))) we zC) (zy (zc 0))) h⟩)
noncomputable def ZX (fu:Nat):TwS:=(zH (sIf (YB (bE (zv (Zy fu) [(ze 0)]))) vB zO) (zY (eFn zcd [(ze 0)])))
noncomputable def xo (fu:Nat):TwF:=ye 1 0 (ZX fu)
theorem ZY (T:Tx K mg):yB P w K mg base (CXE P w) 3 T.f_number_from.a T.f_number_from.fd ["word"] (sTw K 1 (xo fu)):=
 T.f_number_from.F.okE za2 (fun vs H Q E h=>h.1) (fun cdv A outer s H vs Q E hr h=>⟨_,(@zk _ _ _ _ _ (ya (wS (wR (zq (UB (fu:=fu) T) (hr.mono (by decide)) rfl T.f_is_number.m T.f_is_number.F.kp T.f_is_number.b .nil zG (@za _ _ _ _ _ (pv 0) zg zf)))) (@zn _ _ _ wa) zB) (@zn _ _ _ (@zw _ _ _ _ (yU zcc rfl T.n_int boot_int (@za _ _ _ _ _ (pv 0) zg zf))))),yy (n:=1) (k:=0) (b:=ZX fu) rfl (zo (yb (wV (yT (zr (zb (zc 0) zh)))) we zC) (zy (yl zf2 (zb (zc 0) zh)))) h⟩)
noncomputable def Zl (fu:Nat):TwS:=(zH (sIf (bE (zv (Zy fu) [(ze 0)])) (zY (eFn zcd [(ze 0)])) zO) (zY (zv (xx fu) [(ze 0)])))
noncomputable def xt (fu:Nat):TwF:=ye 1 0 (Zl fu)
theorem wL (T:Tx K mg):yB P w K mg base (CXE P w) 4 T.f_operand_from.a T.f_operand_from.fd ["word"] (sTw K 1 (xt fu)):=
 T.f_operand_from.F.okE TV (fun vs H Q E h=>h.1) (fun cdv A outer s H vs Q E hr h=>⟨_,(@zk _ _ _ _ _ (ya (wR (zq (UB (fu:=fu) T) (hr.mono (by decide)) rfl T.f_is_number.m T.f_is_number.F.kp T.f_is_number.b .nil zG (@za _ _ _ _ _ (pv 0) zg zf))) (@zn _ _ _ (@zw _ _ _ _ (yU zcc rfl T.n_int boot_int (@za _ _ _ _ _ (pv 0) zg zf)))) zB) (@zn _ _ _ (@zw _ _ _ _ (zq (ZC (fu:=fu) T) (hr.mono (by decide)) rfl T.f_name_from.m T.f_name_from.F.kp T.f_name_from.b .nil zG (@za _ _ _ _ _ (pv 0) zg zf))))),yy (n:=1) (k:=0) (b:=Zl fu) rfl (zo (yb (yT (zr (zb (zc 0) zh))) (zy (yl zf2 (zb (zc 0) zh))) zC) (zy (zr (zb (zc 0) zh)))) h⟩)
noncomputable def ZZ (fu:Nat):TwS:=(zH (sIf (bOr (bE (eOp zcD (eFn wx [(ze 0)]) (eC (.int 3)))) (bE (eOp (dIn true) (eOp vp (ze 0) (eC (.int 1))) (ze 1)))) vB zO) (zY (xj [(zv (xt fu) [(eOp vp (ze 0) (eC (.int 0)))]),(eOp vp (ze 0) (eC (.int 1))),(zv (xt fu) [(eOp vp (ze 0) (eC (.int 2)))])])))
noncomputable def vh (fu:Nat):TwF:=ye 2 0 (ZZ fu)
theorem WJ (T:Tx K mg):yB P w K mg base (CXE P w) 5 T.f_signed_from.a T.f_signed_from.fd ["words","signs"] (sTw K 2 (vh fu)):=
 T.f_signed_from.F.okE za1 (fun vs H Q E h=>h.1) (fun cdv A outer s H vs Q E hr h=>⟨_,(@zk _ _ _ _ _ (ya (PW.pt (VT (ym (UP (zK (yi (K:=K)) rfl T.n_len boot_len (@za _ _ _ _ _ (pv 0) zg zf)) zm)) (Xn (yf (Xc (K:=K)) (@zZ _ _ _ _ _ _ _ (yH (K:=K)) (pv 0) zm (fun _ _=>rfl)) (pv 1) (by rfl))))) (@zn _ _ _ wa) zB) (@zn _ _ _ (@zw _ _ _ _ (@yv _ _ _ _ _ (@za _ _ _ _ _ (zq (wL (fu:=fu) T) (hr.mono (by decide)) rfl T.f_operand_from.m T.f_operand_from.F.kp T.f_operand_from.b .nil zG (@za _ _ _ _ _ (@zZ _ _ _ _ _ _ _ (yH (K:=K)) (pv 0) zm (fun _ _=>rfl)) zg zF)) (@za _ _ _ _ _ (@zZ _ _ _ _ _ _ _ (yH (K:=K)) (pv 0) zm (fun _ _=>rfl)) (@za _ _ _ _ _ (zq (wL (fu:=fu) T) (hr.mono (by decide)) rfl T.f_operand_from.m T.f_operand_from.F.kp T.f_operand_from.b .nil zG (@za _ _ _ _ _ (@zZ _ _ _ _ _ _ _ (yH (K:=K)) (pv 0) zm (fun _ _=>rfl)) zg zF)) zg yc) zF) yc))))),yy (n:=2) (k:=0) (b:=ZZ fu) rfl (zo (yb (Ud (yT (Te (yl xg (zb (zc 0) zh)) (zj _))) (yd (zp TC (zp xy (zc 0) (zj _)) (zc 1)))) we zC) (zy (yw (zb (zr (zb (zp xy (zc 0) (zj _)) zh)) (zb (zp xy (zc 0) (zj _)) (zb (zr (zb (zp xy (zc 0) (zj _)) zh)) zh)))))) h⟩)
noncomputable def xV (fu:Nat):TwS:=(zH (sIf (bE (eOp ZL (eFn wx [(ze 0)]) (eC (.int 1)))) (zY (xj [(zv (xt fu) [(eOp vp (ze 0) (eC (.int 0)))])])) zO) (zY (zv (vh fu) [(ze 0),(eC (.ct [.str "+",.str "-",.str "*"]))])))
noncomputable def xW (fu:Nat):TwF:=ye 1 0 (xV fu)
theorem UD (T:Tx K mg):yB P w K mg base (CXE P w) 6 T.f_reckoning_from.a T.f_reckoning_from.fd ["words"] (sTw K 1 (xW fu)):=
 T.f_reckoning_from.F.okE Uz (fun vs H Q E h=>h.1) (fun cdv A outer s H vs Q E hr h=>⟨_,(@zk _ _ _ _ _ (ya (ym (xR (zK (yi (K:=K)) rfl T.n_len boot_len (@za _ _ _ _ _ (pv 0) zg zf)) zm)) (@zn _ _ _ (@zw _ _ _ _ (@yv _ _ _ _ _ (@za _ _ _ _ _ (zq (wL (fu:=fu) T) (hr.mono (by decide)) rfl T.f_operand_from.m T.f_operand_from.F.kp T.f_operand_from.b .nil zG (@za _ _ _ _ _ (@zZ _ _ _ _ _ _ _ (yH (K:=K)) (pv 0) zm (fun _ _=>rfl)) zg zF)) zg yc)))) zB) (@zn _ _ _ (@zw _ _ _ _ (zq (WJ (fu:=fu) T) (hr.mono (by decide)) rfl T.f_signed_from.m T.f_signed_from.F.kp T.f_signed_from.b .nil zG (@za _ _ _ _ _ (pv 0) (@za _ _ _ _ _ (yZ (v:= .ref T.a_RECKONING_SIGNS) rfl T.m_RECKONING_SIGNS rfl) zg zf) zf))))),yy (n:=1) (k:=0) (b:=xV fu) rfl (zo (yb (yT (xS (yl xg (zb (zc 0) zh)) (zj _))) (zy (yw (zb (zr (zb (zp xy (zc 0) (zj _)) zh)) zh))) zC) (zy (zr (zb (zc 0) (zb (zcx fun j H=> .ct (fun H=>T.c_RECKONING_SIGNS H) (.cons (.str _) (.cons (.str _) (.cons (.str _) .nil)))) zh))))) h⟩)
noncomputable def XV (fu:Nat):TwS:=(zY (zv (vh fu) [(ze 0),(eC (.ct [.str "=",.str "<",.str "#"]))]))
noncomputable def vi (fu:Nat):TwF:=ye 1 0 (XV fu)
theorem XW (T:Tx K mg):yB P w K mg base (CXE P w) 6 T.f_test_from.a T.f_test_from.fd ["words"] (sTw K 1 (vi fu)):=
 T.f_test_from.F.okE zcW (fun vs H Q E h=>h.1) (fun cdv A outer s H vs Q E hr h=>⟨_,(@zn _ _ _ (@zw _ _ _ _ (zq (WJ (fu:=fu) T) (hr.mono (by decide)) rfl T.f_signed_from.m T.f_signed_from.F.kp T.f_signed_from.b .nil zG (@za _ _ _ _ _ (pv 0) (@za _ _ _ _ _ (yZ (v:= .ref T.a_TEST_SIGNS) rfl T.m_TEST_SIGNS rfl) zg zf) zf)))),yy (n:=1) (k:=0) (b:=XV fu) rfl (zy (zr (zb (zc 0) (zb (zcx fun j H=> .ct (fun H=>T.c_TEST_SIGNS H) (.cons (.str _) (.cons (.str _) (.cons (.str _) .nil)))) zh)))) h⟩)
noncomputable def YR (fu:Nat):TwS:=(zH (sIf (Xw (bE (eOp (yV false) (ze 0) (eC (.str "pass")))) (bE (eOp ZL (eFn wx [(ze 1)]) (eC (.int 0))))) (zY (xj [(eC (.str "pass"))])) zO) (zH (sIf (Xw (bE (eOp (yV false) (ze 0) (eC (.str "set")))) (bE (eOp dGt (eFn wx [(ze 1)]) (eC (.int 1))))) (zY (xj [(eC (.str "set")),(zv (xx fu) [(eOp vp (ze 1) (eC (.int 0)))]),(zv (xW fu) [(eSl TM (ze 1) (Uf (eC (.int 1))) oNo)])])) zO) (zH (sIf (Xw (bE (eOp (yV false) (ze 0) (eC (.str "draw")))) (bE (eOp dGt (eFn wx [(ze 1)]) (eC (.int 1))))) (zY (xj [(eC (.str "draw")),(zv (xx fu) [(eOp vp (ze 1) (eC (.int 0)))]),(eFn Zg [(xl [none] (iL (eSl TM (ze 1) (Uf (eC (.int 1))) oNo)) (gN 0) xq (zv (xo fu) [(ze 0)]))])])) zO) (zH (sIf (Xw (bE (eOp (yV false) (ze 0) (eC (.str "gain")))) (bE (eOp ZL (eFn wx [(ze 1)]) (eC (.int 1))))) (zY (xj [(eC (.str "gain")),(zv (xt fu) [(eOp vp (ze 1) (eC (.int 0)))])])) zO) (zH (sIf (bE (eOp (yV false) (ze 0) (eC (.str "look")))) (zY (xj [(eC (.str "look")),(zv (vi fu) [(ze 1)])])) zO) vB)))))
noncomputable def YS (fu:Nat):TwF:=ye 2 0 (YR fu)
theorem zbE (T:Tx K mg):yB P w K mg base (CXE P w) 7 T.f_plain_deed.a T.f_plain_deed.fd ["kind","words"] (sTw K 2 (YS fu)):=
 T.f_plain_deed.F.okE zbz (fun vs H Q E h=>h.1) (fun cdv A outer s H vs Q E hr h=>⟨_,(@zk _ _ _ _ _ (ya (PW.pt (Zd (yf xp (pv 0) zA (by rfl)) (wD (ym (xR (zK (yi (K:=K)) rfl T.n_len boot_len (@za _ _ _ _ _ (pv 1) zg zf)) zm))))) (@zn _ _ _ (@zw _ _ _ _ (@yv _ _ _ _ _ (@za _ _ _ _ _ zA zg zi)))) zB) (@zk _ _ _ _ _ (ya (PW.pt (Zd (yf xp (pv 0) zA (by rfl)) (wD (ym (Wi (zK (yi (K:=K)) rfl T.n_len boot_len (@za _ _ _ _ _ (pv 1) zg zf)) zm))))) (@zn _ _ _ (@zw _ _ _ _ (@yv _ _ _ _ _ (@za _ _ _ _ _ zA (@za _ _ _ _ _ (zq (ZC (fu:=fu) T) (hr.mono (by decide)) rfl T.f_name_from.m T.f_name_from.F.kp T.f_name_from.b .nil zG (@za _ _ _ _ _ (@zZ _ _ _ _ _ _ _ (yH (K:=K)) (pv 1) zm (fun _ _=>rfl)) zg zF)) (@za _ _ _ _ _ (zq (UD (fu:=fu) T) (hr.mono (by decide)) rfl T.f_reckoning_from.m T.f_reckoning_from.F.kp T.f_reckoning_from.b .nil zG (@za _ _ _ _ _ (ZJ (Xd (K:=K)) (pv 1) (Xq zm) Xp) zg zF)) zg yc) yc) zi)))) zB) (@zk _ _ _ _ _ (ya (PW.pt (Zd (yf xp (pv 0) zA (by rfl)) (wD (ym (Wi (zK (yi (K:=K)) rfl T.n_len boot_len (@za _ _ _ _ _ (pv 1) zg zf)) zm))))) (@zn _ _ _ (@zw _ _ _ _ (@yv _ _ _ _ _ (@za _ _ _ _ _ zA (@za _ _ _ _ _ (zq (ZC (fu:=fu) T) (hr.mono (by decide)) rfl T.f_name_from.m T.f_name_from.F.kp T.f_name_from.b .nil zG (@za _ _ _ _ _ (@zZ _ _ _ _ _ _ _ (yH (K:=K)) (pv 1) zm (fun _ _=>rfl)) zg zF)) (@za _ _ _ _ _ (yU (xK (K:=K)) rfl T.n_tuple boot_tuple (za (xF (N':=["word"]) rfl (blk (osc:=zt Zw) rfl (by decide+kernel)) (yO xb) (Ua (K:=K) (ZJ (Xd (K:=K)) (pv 1) (Xq zm) Xp)) (yn rfl) (fun C s₀ H₀ fp=>yk (i:=0) (show (["word"]:List Str).Nodup from by decide+kernel) rfl (Or.inl rfl)) (fun C s₀ H₀ fp=>xa) (fun C s₀ H₀ fp=>(zq (ZY (fu:=fu) T) (hr.mono (by decide)) rfl T.f_number_from.m T.f_number_from.F.kp T.f_number_from.b .nil Wd (@za _ _ _ _ _ (pv 0) zg zf)))) zg)) zg yc) yc) zi)))) zB) (@zk _ _ _ _ _ (ya (PW.pt (Zd (yf xp (pv 0) zA (by rfl)) (wD (ym (xR (zK (yi (K:=K)) rfl T.n_len boot_len (@za _ _ _ _ _ (pv 1) zg zf)) zm))))) (@zn _ _ _ (@zw _ _ _ _ (@yv _ _ _ _ _ (@za _ _ _ _ _ zA (@za _ _ _ _ _ (zq (wL (fu:=fu) T) (hr.mono (by decide)) rfl T.f_operand_from.m T.f_operand_from.F.kp T.f_operand_from.b .nil zG (@za _ _ _ _ _ (@zZ _ _ _ _ _ _ _ (yH (K:=K)) (pv 1) zm (fun _ _=>rfl)) zg zF)) zg yc) zi)))) zB) (@zk _ _ _ _ _ (ya (yf xp (pv 0) zA (by rfl)) (@zn _ _ _ (@zw _ _ _ _ (@yv _ _ _ _ _ (@za _ _ _ _ _ zA (@za _ _ _ _ _ (zq (XW (fu:=fu) T) (hr.mono (by decide)) rfl T.f_test_from.m T.f_test_from.F.kp T.f_test_from.b .nil zG (@za _ _ _ _ _ (pv 1) zg zf)) zg yc) zi)))) zB) (@zn _ _ _ wa)))))),yy (n:=2) (k:=0) (b:=YR fu) rfl (zo (yb (Zf (yd (zp yR (zc 0) (zx _))) (yT (xS (yl xg (zb (zc 1) zh)) (zj _)))) (zy (yw (zb (zx _) zh))) zC) (zo (yb (Zf (yd (zp yR (zc 0) (zx _))) (yT (Ws (yl xg (zb (zc 1) zh)) (zj _)))) (zy (yw (zb (zx _) (zb (zr (zb (zp xy (zc 1) (zj _)) zh)) (zb (zr (zb (UY (zc 1) (Xx (zj _)) zaE) zh)) zh))))) zC) (zo (yb (Zf (yd (zp yR (zc 0) (zx _))) (yT (Ws (yl xg (zb (zc 1) zh)) (zj _)))) (zy (yw (zb (zx _) (zb (zr (zb (zp xy (zc 1) (zj _)) zh)) (zb (yl vY (zb (xf (cap:=[none]) (zaf (UY (zc 1) (Xx (zj _)) zaE)) zu xc (zr (zb (zc 0) zh))) zh)) zh))))) zC) (zo (yb (Zf (yd (zp yR (zc 0) (zx _))) (yT (xS (yl xg (zb (zc 1) zh)) (zj _)))) (zy (yw (zb (zx _) (zb (zr (zb (zp xy (zc 1) (zj _)) zh)) zh)))) zC) (zo (yb (yd (zp yR (zc 0) (zx _))) (zy (yw (zb (zx _) (zb (zr (zb (zc 1) zh)) zh)))) zC) we))))) h⟩)
noncomputable def Vw (fu:Nat):TwS:=(zH (sIf (bE (eOp zcD (eFn wx [(ze 0)]) (eC (.int 1)))) vB zO) (zY (zv (xo fu) [(eOp vp (ze 0) (eC (.int 0)))])))
noncomputable def Vx (fu:Nat):TwF:=ye 1 0 (Vw fu)
theorem zbF (T:Tx K mg):yB P w K mg base (CXE P w) 4 T.f_turns_from.a T.f_turns_from.fd ["words"] (sTw K 1 (Vx fu)):=
 T.f_turns_from.F.okE zbA (fun vs H Q E h=>h.1) (fun cdv A outer s H vs Q E hr h=>⟨_,(@zk _ _ _ _ _ (ya (ym (UP (zK (yi (K:=K)) rfl T.n_len boot_len (@za _ _ _ _ _ (pv 0) zg zf)) zm)) (@zn _ _ _ wa) zB) (@zn _ _ _ (@zw _ _ _ _ (zq (ZY (fu:=fu) T) (hr.mono (by decide)) rfl T.f_number_from.m T.f_number_from.F.kp T.f_number_from.b .nil zG (@za _ _ _ _ _ (@zZ _ _ _ _ _ _ _ (yH (K:=K)) (pv 0) zm (fun _ _=>rfl)) zg zF))))),yy (n:=1) (k:=0) (b:=Vw fu) rfl (zo (yb (yT (Te (yl xg (zb (zc 0) zh)) (zj _))) we zC) (zy (zr (zb (zp xy (zc 0) (zj _)) zh)))) h⟩)
noncomputable def vR (fu:Nat) (r_block_from:TwF) (r_deed_from:TwF) (r_closed_block:TwF) (r_if_from:TwF) (r_hand_blocks:TwF):TwS:=(zH (yD (TL []) (gN 2)) (zH (sWh fu (bE (eOp (dIn true) (xT "Rows" "first_word" (yu fu) (ze 0) []) (xj [(eC .non),(eC (.str "else")),(eC (.str "or")),(eC (.str "end"))]))) (wP (eMt xU (ze 2) [(zv r_deed_from [(ze 0),(ze 1)])]))) (zY (eFn Zg [(ze 2)]))))
noncomputable def ZD (fu:Nat) (r_block_from:TwF) (r_deed_from:TwF) (r_closed_block:TwF) (r_if_from:TwF) (r_hand_blocks:TwF):TwS:=(zH (yD (xT "Rows" "taken" (xQ fu) (ze 0) []) (gN 2)) (zH (yD (eOp vp (ze 2) (eC (.int 0))) (gN 3)) (zH (sIf (bE (eOp (dIn true) (ze 3) (eC (.ct [.str "if",.str "while",.str "times",.str "hand"])))) (zY (zv (YS fu) [(ze 3),(eSl TM (ze 2) (Uf (eC (.int 1))) oNo)])) zO) (zH (sIf (bE (eOp ZL (ze 1) (eC (.int 12)))) vB zO) (zH (sIf (bE (eOp (yV false) (ze 3) (eC (.str "if")))) (zY (zv r_if_from [(ze 0),(zv (vi fu) [(eSl TM (ze 2) (Uf (eC (.int 1))) oNo)]),(eOp xX (ze 1) (eC (.int 1)))])) zO) (zH (sIf (bE (eOp (yV false) (ze 3) (eC (.str "while")))) (zY (xj [(eC (.str "while")),(zv (vi fu) [(eSl TM (ze 2) (Uf (eC (.int 1))) oNo)]),(zv r_closed_block [(ze 0),(eOp xX (ze 1) (eC (.int 1)))])])) zO) (zH (sIf (bE (eOp (yV false) (ze 3) (eC (.str "times")))) (zY (xj [(eC (.str "times")),(zv (Vx fu) [(eSl TM (ze 2) (Uf (eC (.int 1))) oNo)]),(zv r_closed_block [(ze 0),(eOp xX (ze 1) (eC (.int 1)))])])) zO) (zH (sIf (bE (eOp zcD (eFn wx [(ze 2)]) (eC (.int 1)))) vB zO) (zY (xj [(eC (.str "hand")),(zv r_hand_blocks [(ze 0),(eOp xX (ze 1) (eC (.int 1)))])]))))))))))
noncomputable def Zm (fu:Nat) (r_block_from:TwF) (r_deed_from:TwF) (r_closed_block:TwF) (r_if_from:TwF) (r_hand_blocks:TwF):TwS:=(zH (yD (zv r_block_from [(ze 0),(ze 1)]) (gN 2)) (zH (wP (xT "Rows" "take_alone" (yW fu) (ze 0) [(eC (.str "end"))])) (zY (ze 2))))
noncomputable def VP (fu:Nat) (r_block_from:TwF) (r_deed_from:TwF) (r_closed_block:TwF) (r_if_from:TwF) (r_hand_blocks:TwF):TwS:=(zH (yD (zv r_block_from [(ze 0),(ze 2)]) (gN 3)) (zH (wP (xT "Rows" "take_alone" (yW fu) (ze 0) [(eC (.str "else"))])) (zY (xj [(eC (.str "if")),(ze 1),(ze 3),(zv r_closed_block [(ze 0),(ze 2)])]))))
noncomputable def Ya (fu:Nat) (r_block_from:TwF) (r_deed_from:TwF) (r_closed_block:TwF) (r_if_from:TwF) (r_hand_blocks:TwF):TwS:=(zH (yD (TL [(zv r_block_from [(ze 0),(ze 1)])]) (gN 2)) (zH (wP (xT "Rows" "take_alone" (yW fu) (ze 0) [(eC (.str "or"))])) (zH (wP (eMt xU (ze 2) [(zv r_block_from [(ze 0),(ze 1)])])) (zH (sWh fu (bE (eOp zd2 (xT "Rows" "first_word" (yu fu) (ze 0) []) (eC (.str "or")))) (zH (wP (xT "Rows" "take_alone" (yW fu) (ze 0) [(eC (.str "or"))])) (wP (eMt xU (ze 2) [(zv r_block_from [(ze 0),(ze 1)])])))) (zH (wP (xT "Rows" "take_alone" (yW fu) (ze 0) [(eC (.str "end"))])) (zY (eFn Zg [(ze 2)])))))))
mutual
noncomputable def zP (fu:Nat):Nat→TwF
 |0=>fun _ _=>none
 |n+1=>ye 2 1 (vR fu (zP fu n) (zX fu n) (zN fu n) (yp fu n) (zS fu n))
noncomputable def zX (fu:Nat):Nat→TwF
 |0=>fun _ _=>none
 |n+1=>ye 2 2 (ZD fu (zP fu n) (zX fu n) (zN fu n) (yp fu n) (zS fu n))
noncomputable def zN (fu:Nat):Nat→TwF
 |0=>fun _ _=>none
 |n+1=>ye 2 1 (Zm fu (zP fu n) (zX fu n) (zN fu n) (yp fu n) (zS fu n))
noncomputable def yp (fu:Nat):Nat→TwF
 |0=>fun _ _=>none
 |n+1=>ye 3 1 (VP fu (zP fu n) (zX fu n) (zN fu n) (yp fu n) (zS fu n))
noncomputable def zS (fu:Nat):Nat→TwF
 |0=>fun _ _=>none
 |n+1=>ye 2 1 (Ya fu (zP fu n) (zX fu n) (zN fu n) (yp fu n) (zS fu n))
end
theorem Yb (fu n:Nat):zP fu (n+1)=ye 2 1 (vR fu (zP fu n) (zX fu n) (zN fu n) (yp fu n) (zS fu n)):=by rw [zP]
theorem VQ (fu:Nat):zP fu 0=fun _ _=>none:=by rw [zP]
theorem Yt (fu n:Nat):zX fu (n+1)=ye 2 2 (ZD fu (zP fu n) (zX fu n) (zN fu n) (yp fu n) (zS fu n)):=by rw [zX]
theorem UE (fu:Nat):zX fu 0=fun _ _=>none:=by rw [zX]
theorem WK (fu n:Nat):zN fu (n+1)=ye 2 1 (Zm fu (zP fu n) (zX fu n) (zN fu n) (yp fu n) (zS fu n)):=by rw [zN]
theorem WL (fu:Nat):zN fu 0=fun _ _=>none:=by rw [zN]
theorem TY (fu n:Nat):yp fu (n+1)=ye 3 1 (VP fu (zP fu n) (zX fu n) (zN fu n) (yp fu n) (zS fu n)):=by rw [yp]
theorem TZ (fu:Nat):yp fu 0=fun _ _=>none:=by rw [yp]
theorem Vl (fu n:Nat):zS fu (n+1)=ye 2 1 (Ya fu (zP fu n) (zX fu n) (zN fu n) (yp fu n) (zS fu n)):=by rw [zS]
theorem Vm (fu:Nat):zS fu 0=fun _ _=>none:=by rw [zS]
theorem za6 (T:Tx K mg):∀n:Nat,yB P w K mg base (CXE P w) (7+n) T.f_block_from.a T.f_block_from.fd ["rows","opened"] (sTw K 2 (zP fu n))∧yB P w K mg base (CXE P w) (7+n) T.f_deed_from.a T.f_deed_from.fd ["rows","opened"] (sTw K 2 (zX fu n))∧yB P w K mg base (CXE P w) (7+n) T.f_closed_block.a T.f_closed_block.fd ["rows","opened"] (sTw K 2 (zN fu n))∧yB P w K mg base (CXE P w) (7+n) T.f_if_from.a T.f_if_from.fd ["rows","test","opened"] (sTw K 3 (yp fu n))∧yB P w K mg base (CXE P w) (7+n) T.f_hand_blocks.a T.f_hand_blocks.fd ["rows","opened"] (sTw K 2 (zS fu n)):=by
 intro n
 induction n with
 |zero=>
  refine ⟨?_,?_,?_,?_,?_⟩
  ·rw [VQ]
   exact wE
  ·rw [UE]
   exact wE
  ·rw [WL]
   exact wE
  ·rw [TZ]
   exact wE
  ·rw [Vm]
   exact wE
 |succ n ih=>
  refine ⟨?_,?_,?_,?_,?_⟩
  ·rw [Yb]
   exact T.f_block_from.F.okE Vu (fun vs H Q E h=>h.1) (fun cdv A outer s H vs Q E hr h=>⟨_,(@zk _ _ _ _ _ (@zV _ _ 2 _ _ _ _ Vu.nd rfl (Or.inl rfl) (@Yy _ _ _ _ zg) (by rfl) (by walk_at "q1")) (@zk _ _ _ _ _ (zaq PassesOwn.leaving (yf (Xc (K:=K)) (vV (pv 0) T.cl_Rows T.f_Rows_first_word.mt (xm (fu:=fu) T) (hr.mono (by (try simp only [Nat.add_eq]);omega)) T.f_Rows_first_word.b .nil zG) (@yv _ _ _ _ _ (@za _ _ _ _ _ zg5 (@za _ _ _ _ _ zA (@za _ _ _ _ _ zA (@za _ _ _ _ _ zA zg zi) zi) zi) zi)) (by rfl)) (@zn _ _ _ (xE (vW PySem.F.plainAttrs_list PySem.F.slot_list_append PySem.F.type_list_append wk (pv 2) (@za _ _ _ _ _ (zq ih.2.1 (hr.mono (by (try simp only [Nat.add_eq]);omega)) rfl T.f_deed_from.m T.f_deed_from.F.kp T.f_deed_from.b .nil zG (@za _ _ _ _ _ (pv 0) (@za _ _ _ _ _ (pv 1) zg zf) zf)) zg yc))))) (@zn _ _ _ (@zw _ _ _ _ (yU (xK (K:=K)) rfl T.n_tuple boot_tuple (@za _ _ _ _ _ (pv 2) zg zf)))))),yy (n:=2) (k:=1) (b:=vR fu (zP fu n) (zX fu n) (zN fu n) (yp fu n) (zS fu n)) rfl (zo (zQ (YC zh) zu) (zo (zaJ (yd (zp TC (xJ T.ns_Rows (zc 0) zh) (yw (zb zhA (zb (zx _) (zb (zx _) (zb (zx _) zh))))))) (xH (Wq wO (zc 2) (zb (zr (zb (zc 0) (zb (zc 1) zh))) zh)))) (zy (yl vY (zb (zc 2) zh))))) h⟩)
  ·rw [Yt]
   exact T.f_deed_from.F.okE XL (fun vs H Q E h=>h.1) (fun cdv A outer s H vs Q E hr h=>⟨_,(@zk _ _ _ _ _ (@zV _ _ 2 _ _ _ _ XL.nd rfl (Or.inl rfl) (vV (pv 0) T.cl_Rows T.f_Rows_taken.mt (YQ (fu:=fu) T) (hr.mono (by (try simp only [Nat.add_eq]);omega)) T.f_Rows_taken.b .nil zG) (by rfl) (by walk_at "q1")) (@zk _ _ _ _ _ (@zV _ _ 3 _ _ _ _ XL.nd rfl (Or.inl rfl) (@zZ _ _ _ _ _ _ _ (yH (K:=K)) (pv 2) zm (fun _ _=>rfl)) (by rfl) (by walk_at "q1")) (@zk _ _ _ _ _ (ya (yf (Xc (K:=K)) (pv 3) (yZ (v:= .ref T.a_BLOCK_KINDS) rfl T.m_BLOCK_KINDS rfl) (by rfl)) (@zn _ _ _ (@zw _ _ _ _ (zq (zbE (fu:=fu) T) (hr.mono (by (try simp only [Nat.add_eq]);omega)) rfl T.f_plain_deed.m T.f_plain_deed.F.kp T.f_plain_deed.b .nil zG (@za _ _ _ _ _ (pv 3) (@za _ _ _ _ _ (ZJ (Xd (K:=K)) (pv 2) (Xq zm) Xp) zg zF) zf)))) zB) (@zk _ _ _ _ _ (ya (ym (xR (pv 1) (match T.m_MOST_WITHIN with|⟨t,h⟩=>yZ (v:= .int 12) rfl h ⟨t,rfl⟩))) (@zn _ _ _ wa) zB) (@zk _ _ _ _ _ (ya (yf xp (pv 3) zA (by rfl)) (@zn _ _ _ (@zw _ _ _ _ (zq ih.2.2.2.1 (hr.mono (by (try simp only [Nat.add_eq]);omega)) rfl T.f_if_from.m T.f_if_from.F.kp T.f_if_from.b .nil zG (@za _ _ _ _ _ (pv 0) (@za _ _ _ _ _ (zq (XW (fu:=fu) T) (hr.mono (by (try simp only [Nat.add_eq]);omega)) rfl T.f_test_from.m T.f_test_from.F.kp T.f_test_from.b .nil zG (@za _ _ _ _ _ (ZJ (Xd (K:=K)) (pv 2) (Xq zm) Xp) zg zF)) (@za _ _ _ _ _ (yh yP (pv 1) zm) zg yY) yc) zf)))) zB) (@zk _ _ _ _ _ (ya (yf xp (pv 3) zA (by rfl)) (@zn _ _ _ (@zw _ _ _ _ (@yv _ _ _ _ _ (@za _ _ _ _ _ zA (@za _ _ _ _ _ (zq (XW (fu:=fu) T) (hr.mono (by (try simp only [Nat.add_eq]);omega)) rfl T.f_test_from.m T.f_test_from.F.kp T.f_test_from.b .nil zG (@za _ _ _ _ _ (ZJ (Xd (K:=K)) (pv 2) (Xq zm) Xp) zg zF)) (@za _ _ _ _ _ (zq ih.2.2.1 (hr.mono (by (try simp only [Nat.add_eq]);omega)) rfl T.f_closed_block.m T.f_closed_block.F.kp T.f_closed_block.b .nil zG (@za _ _ _ _ _ (pv 0) (@za _ _ _ _ _ (yh yP (pv 1) zm) zg yY) zf)) zg yc) yc) zi)))) zB) (@zk _ _ _ _ _ (ya (yf xp (pv 3) zA (by rfl)) (@zn _ _ _ (@zw _ _ _ _ (@yv _ _ _ _ _ (@za _ _ _ _ _ zA (@za _ _ _ _ _ (zq (zbF (fu:=fu) T) (hr.mono (by (try simp only [Nat.add_eq]);omega)) rfl T.f_turns_from.m T.f_turns_from.F.kp T.f_turns_from.b .nil zG (@za _ _ _ _ _ (ZJ (Xd (K:=K)) (pv 2) (Xq zm) Xp) zg zF)) (@za _ _ _ _ _ (zq ih.2.2.1 (hr.mono (by (try simp only [Nat.add_eq]);omega)) rfl T.f_closed_block.m T.f_closed_block.F.kp T.f_closed_block.b .nil zG (@za _ _ _ _ _ (pv 0) (@za _ _ _ _ _ (yh yP (pv 1) zm) zg yY) zf)) zg yc) yc) zi)))) zB) (@zk _ _ _ _ _ (ya (ym (UP (zK (yi (K:=K)) rfl T.n_len boot_len (@za _ _ _ _ _ (pv 2) zg zf)) zm)) (@zn _ _ _ wa) zB) (@zn _ _ _ (@zw _ _ _ _ (@yv _ _ _ _ _ (@za _ _ _ _ _ zA (@za _ _ _ _ _ (zq ih.2.2.2.2 (hr.mono (by (try simp only [Nat.add_eq]);omega)) rfl T.f_hand_blocks.m T.f_hand_blocks.F.kp T.f_hand_blocks.b .nil zG (@za _ _ _ _ _ (pv 0) (@za _ _ _ _ _ (yh yP (pv 1) zm) zg yY) zf)) zg yc) zi)))))))))))),yy (n:=2) (k:=2) (b:=ZD fu (zP fu n) (zX fu n) (zN fu n) (yp fu n) (zS fu n)) rfl (zo (zQ (xJ T.ns_Rows (zc 0) zh) zu) (zo (zQ (zp xy (zc 2) (zj _)) zu) (zo (yb (yd (zp TC (zc 3) (zcx fun j H=> .ct (fun H=>T.c_BLOCK_KINDS H) (.cons (.str _) (.cons (.str _) (.cons (.str _) (.cons (.str _) .nil))))))) (zy (zr (zb (zc 3) (zb (UY (zc 2) (Xx (zj _)) zaE) zh)))) zC) (zo (yb (yT (xS (zc 1) (zj _))) we zC) (zo (yb (yd (zp yR (zc 3) (zx _))) (zy (zr (zb (zc 0) (zb (zr (zb (UY (zc 2) (Xx (zj _)) zaE) zh)) (zb (zp yQ (zc 1) (zj _)) zh))))) zC) (zo (yb (yd (zp yR (zc 3) (zx _))) (zy (yw (zb (zx _) (zb (zr (zb (UY (zc 2) (Xx (zj _)) zaE) zh)) (zb (zr (zb (zc 0) (zb (zp yQ (zc 1) (zj _)) zh))) zh))))) zC) (zo (yb (yd (zp yR (zc 3) (zx _))) (zy (yw (zb (zx _) (zb (zr (zb (UY (zc 2) (Xx (zj _)) zaE) zh)) (zb (zr (zb (zc 0) (zb (zp yQ (zc 1) (zj _)) zh))) zh))))) zC) (zo (yb (yT (Te (yl xg (zb (zc 2) zh)) (zj _))) we zC) (zy (yw (zb (zx _) (zb (zr (zb (zc 0) (zb (zp yQ (zc 1) (zj _)) zh))) zh)))))))))))) h⟩)
  ·rw [WK]
   exact T.f_closed_block.F.okE Wg (fun vs H Q E h=>h.1) (fun cdv A outer s H vs Q E hr h=>⟨_,(@zk _ _ _ _ _ (@zV _ _ 2 _ _ _ _ Wg.nd rfl (Or.inl rfl) (zq ih.1 (hr.mono (by (try simp only [Nat.add_eq]);omega)) rfl T.f_block_from.m T.f_block_from.F.kp T.f_block_from.b .nil zG (@za _ _ _ _ _ (pv 0) (@za _ _ _ _ _ (pv 1) zg zf) zf)) (by rfl) (by walk_at "q1")) (@zk _ _ _ _ _ (xE (VW (pv 0) T.cl_Rows T.f_Rows_take_alone.mt (xn (fu:=fu) T) (hr.mono (by (try simp only [Nat.add_eq]);omega)) T.f_Rows_take_alone.b .nil zG (@za _ _ _ _ _ zA zg zi))) (@zn _ _ _ (@zw _ _ _ _ (pv 2))))),yy (n:=2) (k:=1) (b:=Zm fu (zP fu n) (zX fu n) (zN fu n) (yp fu n) (zS fu n)) rfl (zo (zQ (zr (zb (zc 0) (zb (zc 1) zh))) zu) (zo (xH (xJ T.ns_Rows (zc 0) (zb (zx _) zh))) (zy (zc 2)))) h⟩)
  ·rw [TY]
   exact T.f_if_from.F.okE za0 (fun vs H Q E h=>h.1) (fun cdv A outer s H vs Q E hr h=>⟨_,(@zk _ _ _ _ _ (@zV _ _ 3 _ _ _ _ za0.nd rfl (Or.inl rfl) (zq ih.1 (hr.mono (by (try simp only [Nat.add_eq]);omega)) rfl T.f_block_from.m T.f_block_from.F.kp T.f_block_from.b .nil zG (@za _ _ _ _ _ (pv 0) (@za _ _ _ _ _ (pv 2) zg zf) zf)) (by rfl) (by walk_at "q1")) (@zk _ _ _ _ _ (xE (VW (pv 0) T.cl_Rows T.f_Rows_take_alone.mt (xn (fu:=fu) T) (hr.mono (by (try simp only [Nat.add_eq]);omega)) T.f_Rows_take_alone.b .nil zG (@za _ _ _ _ _ zA zg zi))) (@zn _ _ _ (@zw _ _ _ _ (@yv _ _ _ _ _ (@za _ _ _ _ _ zA (@za _ _ _ _ _ (pv 1) (@za _ _ _ _ _ (pv 3) (@za _ _ _ _ _ (zq ih.2.2.1 (hr.mono (by (try simp only [Nat.add_eq]);omega)) rfl T.f_closed_block.m T.f_closed_block.F.kp T.f_closed_block.b .nil zG (@za _ _ _ _ _ (pv 0) (@za _ _ _ _ _ (pv 2) zg zf) zf)) zg yc) zf) zf) zi)))))),yy (n:=3) (k:=1) (b:=VP fu (zP fu n) (zX fu n) (zN fu n) (yp fu n) (zS fu n)) rfl (zo (zQ (zr (zb (zc 0) (zb (zc 2) zh))) zu) (zo (xH (xJ T.ns_Rows (zc 0) (zb (zx _) zh))) (zy (yw (zb (zx _) (zb (zc 1) (zb (zc 3) (zb (zr (zb (zc 0) (zb (zc 2) zh))) zh)))))))) h⟩)
  ·rw [Vl]
   exact T.f_hand_blocks.F.okE WE (fun vs H Q E h=>h.1) (fun cdv A outer s H vs Q E hr h=>⟨_,(@zk _ _ _ _ _ (@zV _ _ 2 _ _ _ _ WE.nd rfl (Or.inl rfl) (@Yy _ _ _ _ (@za _ _ _ _ _ (zq ih.1 (hr.mono (by (try simp only [Nat.add_eq]);omega)) rfl T.f_block_from.m T.f_block_from.F.kp T.f_block_from.b .nil zG (@za _ _ _ _ _ (pv 0) (@za _ _ _ _ _ (pv 1) zg zf) zf)) zg yc)) (by rfl) (by walk_at "q1")) (@zk _ _ _ _ _ (xE (VW (pv 0) T.cl_Rows T.f_Rows_take_alone.mt (xn (fu:=fu) T) (hr.mono (by (try simp only [Nat.add_eq]);omega)) T.f_Rows_take_alone.b .nil zG (@za _ _ _ _ _ zA zg zi))) (@zk _ _ _ _ _ (xE (vW PySem.F.plainAttrs_list PySem.F.slot_list_append PySem.F.type_list_append wk (pv 2) (@za _ _ _ _ _ (zq ih.1 (hr.mono (by (try simp only [Nat.add_eq]);omega)) rfl T.f_block_from.m T.f_block_from.F.kp T.f_block_from.b .nil zG (@za _ _ _ _ _ (pv 0) (@za _ _ _ _ _ (pv 1) zg zf) zf)) zg yc))) (@zk _ _ _ _ _ (zaq PassesOwn.leaving (yf xp (vV (pv 0) T.cl_Rows T.f_Rows_first_word.mt (xm (fu:=fu) T) (hr.mono (by (try simp only [Nat.add_eq]);omega)) T.f_Rows_first_word.b .nil zG) zA (by rfl)) (@zk _ _ _ _ _ (xE (VW (pv 0) T.cl_Rows T.f_Rows_take_alone.mt (xn (fu:=fu) T) (hr.mono (by (try simp only [Nat.add_eq]);omega)) T.f_Rows_take_alone.b .nil zG (@za _ _ _ _ _ zA zg zi))) (@zn _ _ _ (xE (vW PySem.F.plainAttrs_list PySem.F.slot_list_append PySem.F.type_list_append wk (pv 2) (@za _ _ _ _ _ (zq ih.1 (hr.mono (by (try simp only [Nat.add_eq]);omega)) rfl T.f_block_from.m T.f_block_from.F.kp T.f_block_from.b .nil zG (@za _ _ _ _ _ (pv 0) (@za _ _ _ _ _ (pv 1) zg zf) zf)) zg yc)))))) (@zk _ _ _ _ _ (xE (VW (pv 0) T.cl_Rows T.f_Rows_take_alone.mt (xn (fu:=fu) T) (hr.mono (by (try simp only [Nat.add_eq]);omega)) T.f_Rows_take_alone.b .nil zG (@za _ _ _ _ _ zA zg zi))) (@zn _ _ _ (@zw _ _ _ _ (yU (xK (K:=K)) rfl T.n_tuple boot_tuple (@za _ _ _ _ _ (pv 2) zg zf))))))))),yy (n:=2) (k:=1) (b:=Ya fu (zP fu n) (zX fu n) (zN fu n) (yp fu n) (zS fu n)) rfl (zo (zQ (YC (zb (zr (zb (zc 0) (zb (zc 1) zh))) zh)) zu) (zo (xH (xJ T.ns_Rows (zc 0) (zb (zx _) zh))) (zo (xH (Wq wO (zc 2) (zb (zr (zb (zc 0) (zb (zc 1) zh))) zh))) (zo (zaJ (yd (zp zh8 (xJ T.ns_Rows (zc 0) zh) (zx _))) (zo (xH (xJ T.ns_Rows (zc 0) (zb (zx _) zh))) (xH (Wq wO (zc 2) (zb (zr (zb (zc 0) (zb (zc 1) zh))) zh))))) (zo (xH (xJ T.ns_Rows (zc 0) (zb (zx _) zh))) (zy (yl vY (zb (zc 2) zh)))))))) h⟩)
theorem zbG (T:Tx K mg) (n:Nat):yB P w K mg base (CXE P w) (7+n) T.f_block_from.a T.f_block_from.fd ["rows","opened"] (sTw K 2 (zP fu n)):=(za6 T n).1
noncomputable def YT (fu:Nat):TwS:=(zH (yD (TL []) (gN 1)) (zH (sWh fu (bE (eOp zd2 (xT "Rows" "first_word" (yu fu) (ze 0) []) (eC (.str "box")))) (zH (yD (xT "Rows" "taken" (xQ fu) (ze 0) []) (gN 2)) (zH (sIf (bE (eOp zcD (eFn wx [(ze 2)]) (eC (.int 3)))) vB zO) (wP (eMt xU (ze 1) [(xj [(zv (xx fu) [(eOp vp (ze 2) (eC (.int 1)))]),(zv (xo fu) [(eOp vp (ze 2) (eC (.int 2)))])])]))))) (zY (eFn Zg [(ze 1)]))))
noncomputable def YU (fu:Nat):TwF:=ye 1 2 (YT fu)
theorem zbH (T:Tx K mg):yB P w K mg base (CXE P w) 4 T.f_boxes_from.a T.f_boxes_from.fd ["rows"] (sTw K 1 (YU fu)):=
 T.f_boxes_from.F.okE YJ (fun vs H Q E h=>h.1) (fun cdv A outer s H vs Q E hr h=>⟨_,(@zk _ _ _ _ _ (@zV _ _ 1 _ _ _ _ YJ.nd rfl (Or.inl rfl) (@Yy _ _ _ _ zg) (by rfl) (by walk_at "q1")) (@zk _ _ _ _ _ (zaq PassesOwn.leaving (yf xp (vV (pv 0) T.cl_Rows T.f_Rows_first_word.mt (xm (fu:=fu) T) (hr.mono (by decide)) T.f_Rows_first_word.b .nil zG) zA (by rfl)) (@zk _ _ _ _ _ (@zV _ _ 2 _ _ _ _ YJ.nd rfl (Or.inl rfl) (vV (pv 0) T.cl_Rows T.f_Rows_taken.mt (YQ (fu:=fu) T) (hr.mono (by decide)) T.f_Rows_taken.b .nil zG) (by rfl) (by walk_at "q1")) (@zk _ _ _ _ _ (ya (ym (UP (zK (yi (K:=K)) rfl T.n_len boot_len (@za _ _ _ _ _ (pv 2) zg zf)) zm)) (@zn _ _ _ wa) zB) (@zn _ _ _ (xE (vW PySem.F.plainAttrs_list PySem.F.slot_list_append PySem.F.type_list_append wk (pv 1) (@za _ _ _ _ _ (@yv _ _ _ _ _ (@za _ _ _ _ _ (zq (ZC (fu:=fu) T) (hr.mono (by decide)) rfl T.f_name_from.m T.f_name_from.F.kp T.f_name_from.b .nil zG (@za _ _ _ _ _ (@zZ _ _ _ _ _ _ _ (yH (K:=K)) (pv 2) zm (fun _ _=>rfl)) zg zF)) (@za _ _ _ _ _ (zq (ZY (fu:=fu) T) (hr.mono (by decide)) rfl T.f_number_from.m T.f_number_from.F.kp T.f_number_from.b .nil zG (@za _ _ _ _ _ (@zZ _ _ _ _ _ _ _ (yH (K:=K)) (pv 2) zm (fun _ _=>rfl)) zg zF)) zg yc) yc)) zg Ub))))))) (@zn _ _ _ (@zw _ _ _ _ (yU (xK (K:=K)) rfl T.n_tuple boot_tuple (@za _ _ _ _ _ (pv 1) zg zf)))))),yy (n:=1) (k:=2) (b:=YT fu) rfl (zo (zQ (YC zh) zu) (zo (zaJ (yd (zp zh8 (xJ T.ns_Rows (zc 0) zh) (zx _))) (zo (zQ (xJ T.ns_Rows (zc 0) zh) zu) (zo (yb (yT (Te (yl xg (zb (zc 2) zh)) (zj _))) we zC) (xH (Wq wO (zc 1) (zb (yw (zb (zr (zb (zp xy (zc 2) (zj _)) zh)) (zb (zr (zb (zp xy (zc 2) (zj _)) zh)) zh))) zh)))))) (zy (yl vY (zb (zc 1) zh))))) h⟩)
noncomputable def zc2 (fu:Nat):TwS:=(zH (yD (ze8 "Rows" (vG fu) [(ze 0)]) (gN 1)) (zH (yD (zv (YU fu) [(ze 1)]) (gN 2)) (zH (yD (zv (zP fu 40) [(ze 1),(eC (.int 0))]) (gN 3)) (zH (sIf (bE (eUn zhB (xT "Rows" "first_word" (yu fu) (ze 1) []))) vB zO) (zH (yD (xj [(ze 2),(ze 3)]) (gN 4)) (zH (sIf (YB (bE (zv (YN fu) [(ze 4)]))) vB zO) (zY (ze 4))))))))
noncomputable def zc3 (fu:Nat):TwF:=ye 1 4 (zc2 fu)
theorem zjA (T:Tx K mg):yB P w K mg base (CXE P w) 48 T.f_read.a T.f_read.fd ["text"] (sTw K 1 (zc3 fu)):=
 T.f_read.F.okE Uy (fun vs H Q E h=>h.1) (fun cdv A outer s H vs Q E hr h=>⟨_,(@zk _ _ _ _ _ (@zV _ _ 1 _ _ _ _ Uy.nd rfl (Or.inl rfl) (ziH T.mk_Rows (Tt (fu:=fu) T) (hr.mono (by decide)) rfl T.m_Rows T.f_Rows___init__.b .nil zG (@za _ _ _ _ _ (pv 0) zg zf)) (by rfl) (by walk_at "q1")) (@zk _ _ _ _ _ (@zV _ _ 2 _ _ _ _ Uy.nd rfl (Or.inl rfl) (zq (zbH (fu:=fu) T) (hr.mono (by decide)) rfl T.f_boxes_from.m T.f_boxes_from.F.kp T.f_boxes_from.b .nil zG (@za _ _ _ _ _ (pv 1) zg zf)) (by rfl) (by walk_at "q1")) (@zk _ _ _ _ _ (@zV _ _ 3 _ _ _ _ Uy.nd rfl (Or.inl rfl) (zq (zbG (fu:=fu) T 40) (hr.mono (by decide)) rfl T.f_block_from.m T.f_block_from.F.kp T.f_block_from.b .nil zG (@za _ _ _ _ _ (pv 1) (@za _ _ _ _ _ zm zg zi) zf)) (by rfl) (by walk_at "q1")) (@zk _ _ _ _ _ (ya (ym (ziA (vV (pv 1) T.cl_Rows T.f_Rows_first_word.mt (xm (fu:=fu) T) (hr.mono (by decide)) T.f_Rows_first_word.b .nil zG))) (@zn _ _ _ wa) zB) (@zk _ _ _ _ _ (@zV _ _ 4 _ _ _ _ Uy.nd rfl (Or.inl rfl) (@yv _ _ _ _ _ (@za _ _ _ _ _ (pv 2) (@za _ _ _ _ _ (pv 3) zg zf) zf)) (by rfl) (by walk_at "q1")) (@zk _ _ _ _ _ (ya (wS (wR (zq (zbD (fu:=fu) T) (hr.mono (by decide)) rfl T.f_is_program.m T.f_is_program.F.kp T.f_is_program.b .nil zG (@za _ _ _ _ _ (pv 4) zg zf)))) (@zn _ _ _ wa) zB) (@zn _ _ _ (@zw _ _ _ _ (pv 4))))))))),yy (n:=1) (k:=4) (b:=zc2 fu) rfl (zo (zQ (zhY T.ns_Rows (zb (zc 0) zh)) zu) (zo (zQ (zr (zb (zc 1) zh)) zu) (zo (zQ (zr (zb (zc 1) (zb (zj _) zh))) zu) (zo (yb (yT (ziZ (xJ T.ns_Rows (zc 1) zh))) we zC) (zo (zQ (yw (zb (zc 2) (zb (zc 3) zh))) zu) (zo (yb (wV (yT (zr (zb (zc 4) zh)))) we zC) (zy (zc 4)))))))) h⟩)
noncomputable def Yc (fu:Nat):TwS:=(zH (yD (eOp yE (ze 0) (eC (.int 0))) (gN 1)) (zH (sIf (bOr (bE (eOp (yV false) (ze 1) (eC (.str "set")))) (bE (eOp (yV false) (ze 1) (eC (.str "draw"))))) (zY (eOp zb3 (xj [(ze 1),(eOp yE (ze 0) (eC (.int 1)))]) (eOp yE (ze 0) (eC (.int 2))))) zO) (zH (sIf (bE (eOp (dIn false) (ze 1) (xj [(eC (.str "look")),(eC (.str "if")),(eC (.str "while"))]))) (zY (eOp zb3 (xj [(ze 1)]) (eOp yE (ze 0) (eC (.int 1))))) zO) (zH (sIf (bOr (bE (eOp (yV false) (ze 1) (eC (.str "times")))) (bE (eOp (yV false) (ze 1) (eC (.str "gain"))))) (zY (xj [(ze 1),(eOp yE (ze 0) (eC (.int 1)))])) zO) (zY (xj [(ze 1)]))))))
noncomputable def Yd (fu:Nat):TwF:=ye 1 1 (Yc fu)
theorem za7 (T:Tx K mg):yB P w K mg base (CXE P w) 1 T.f_first_words.a T.f_first_words.fd ["deed"] (sTw K 1 (Yd fu)):=
 T.f_first_words.F.okE WF (fun vs H Q E h=>h.1) (fun cdv A outer s H vs Q E hr h=>⟨_,(@zk _ _ _ _ _ (@zV _ _ 1 _ _ _ _ WF.nd rfl (Or.inl rfl) (@zZ _ _ _ _ _ _ _ (zT (K:=K)) (pv 0) zm (fun _ _=>rfl)) (by rfl) (by walk_at "q1")) (@zk _ _ _ _ _ (ya (PW.pt (VT (yf xp (pv 1) zA (by rfl)) (Xn (yf xp (pv 1) zA (by rfl))))) (@zn _ _ _ (@zw _ _ _ _ (yh (zfJ (K:=K)) (@yv _ _ _ _ _ (@za _ _ _ _ _ (pv 1) (@za _ _ _ _ _ (@zZ _ _ _ _ _ _ _ (zT (K:=K)) (pv 0) zm (fun _ _=>rfl)) zg zF) zf)) (@zZ _ _ _ _ _ _ _ (zT (K:=K)) (pv 0) zm (fun _ _=>rfl))))) zB) (@zk _ _ _ _ _ (ya (yf (zeN (K:=K)) (pv 1) (@yv _ _ _ _ _ (@za _ _ _ _ _ zA (@za _ _ _ _ _ zA (@za _ _ _ _ _ zA zg zi) zi) zi)) (by rfl)) (@zn _ _ _ (@zw _ _ _ _ (yh (zfJ (K:=K)) (@yv _ _ _ _ _ (@za _ _ _ _ _ (pv 1) zg zf)) (@zZ _ _ _ _ _ _ _ (zT (K:=K)) (pv 0) zm (fun _ _=>rfl))))) zB) (@zk _ _ _ _ _ (ya (PW.pt (VT (yf xp (pv 1) zA (by rfl)) (Xn (yf xp (pv 1) zA (by rfl))))) (@zn _ _ _ (@zw _ _ _ _ (@yv _ _ _ _ _ (@za _ _ _ _ _ (pv 1) (@za _ _ _ _ _ (@zZ _ _ _ _ _ _ _ (zT (K:=K)) (pv 0) zm (fun _ _=>rfl)) zg zF) zf)))) zB) (@zn _ _ _ (@zw _ _ _ _ (@yv _ _ _ _ _ (@za _ _ _ _ _ (pv 1) zg zf)))))))),yy (n:=1) (k:=1) (b:=Yc fu) rfl (zo (zQ (zp yg (zc 0) (zj _)) zu) (zo (yb (Ud (yd (zp yR (zc 1) (zx _))) (yd (zp yR (zc 1) (zx _)))) (zy (zp zfN (yw (zb (zc 1) (zb (zp yg (zc 0) (zj _)) zh))) (zp yg (zc 0) (zj _)))) zC) (zo (yb (yd (zp TC (zc 1) (yw (zb (zx _) (zb (zx _) (zb (zx _) zh)))))) (zy (zp zfN (yw (zb (zc 1) zh)) (zp yg (zc 0) (zj _)))) zC) (zo (yb (Ud (yd (zp yR (zc 1) (zx _))) (yd (zp yR (zc 1) (zx _)))) (zy (yw (zb (zc 1) (zb (zp yg (zc 0) (zj _)) zh)))) zC) (zy (yw (zb (zc 1) zh))))))) h⟩)
noncomputable def vS (fu:Nat) (r_block_rows:TwF) (r_deed_rows:TwF):TwS:=(zH (yD (TL []) (gN 1)) (zH (zcA (iT (ze 0)) (gN 2) (wP (eMt Xy (ze 1) [(zv r_deed_rows [(ze 2)])]))) (zY (ze 1))))
noncomputable def ZE (fu:Nat) (r_block_rows:TwF) (r_deed_rows:TwF):TwS:=(zH (yD (TL [(zbu Uv (eC (.str " ")) [(xl [none] (iT (zv (Yd fu) [(ze 0)])) (gN 0) xq (eFn zbv [(ze 0)]))])]) (gN 1)) (zH (sIf (bE (eOp (dIn true) (eOp yE (ze 0) (eC (.int 0))) (eC (.ct [.str "if",.str "while",.str "times",.str "hand"])))) (zY (ze 1)) zO) (zH (yD (eIf (bE (eOp (yV false) (eOp yE (ze 0) (eC (.int 0))) (eC (.str "if")))) (eC (.str "else")) (eC (.str "or"))) (gN 2)) (zH (zcA (zi7 (zv (xM fu) [(ze 0)])) (gT 2 (wu (gN 3) (wu (gN 4) Ug))) (zH (sIf (bE (eOp dGt (ze 3) (eC (.int 0)))) (wP (eMt xU (ze 1) [(ze 2)])) zO) (wP (eMt Xy (ze 1) [(zv r_block_rows [(ze 4)])])))) (zH (wP (eMt xU (ze 1) [(eC (.str "end"))])) (zY (ze 1)))))))
mutual
noncomputable def yq (fu:Nat):Nat→TwF
 |0=>fun _ _=>none
 |n+1=>ye 1 2 (vS fu (yq fu n) (yK fu n))
noncomputable def yK (fu:Nat):Nat→TwF
 |0=>fun _ _=>none
 |n+1=>ye 1 4 (ZE fu (yq fu n) (yK fu n))
end
theorem Ye (fu n:Nat):yq fu (n+1)=ye 1 2 (vS fu (yq fu n) (yK fu n)):=by rw [yq]
theorem VR (fu:Nat):yq fu 0=fun _ _=>none:=by rw [yq]
theorem Yu (fu n:Nat):yK fu (n+1)=ye 1 4 (ZE fu (yq fu n) (yK fu n)):=by rw [yK]
theorem UF (fu:Nat):yK fu 0=fun _ _=>none:=by rw [yK]
theorem za8 (T:Tx K mg):∀n:Nat,yB P w K mg base (CXE P w) (1+n) T.f_block_rows.a T.f_block_rows.fd ["block"] (sTw K 1 (yq fu n))∧yB P w K mg base (CXE P w) (1+n) T.f_deed_rows.a T.f_deed_rows.fd ["deed"] (sTw K 1 (yK fu n)):=by
 intro n
 induction n with
 |zero=>
  refine ⟨?_,?_⟩
  ·rw [VR]
   exact wE
  ·rw [UF]
   exact wE
 |succ n ih=>
  refine ⟨?_,?_⟩
  ·rw [Ye]
   exact T.f_block_rows.F.okE YK (fun vs H Q E h=>h.1) (fun cdv A outer s H vs Q E hr h=>⟨_,(@zk _ _ _ _ _ (@zV _ _ 1 _ _ _ _ YK.nd rfl (Or.inl rfl) (@Yy _ _ _ _ zg) (by rfl) (by walk_at "q1")) (@zk _ _ _ _ _ (VA PassesOwn.leaving rfl (xG (K:=K) (pv 0)) (yk (i:=2) YK.nd rfl (Or.inl rfl)) (@zn _ _ _ (xE (vW PySem.F.plainAttrs_list PySem.F.slot_list_extend PySem.F.type_list_extend (VC (K:=K)) (pv 1) (@za _ _ _ _ _ (zq ih.2 (hr.mono (by (try simp only [Nat.add_eq]);omega)) rfl T.f_deed_rows.m T.f_deed_rows.F.kp T.f_deed_rows.b .nil zG (@za _ _ _ _ _ (pv 2) zg zf)) zg yc))))) (@zn _ _ _ (@zw _ _ _ _ (pv 1))))),yy (n:=1) (k:=2) (b:=vS fu (yq fu n) (yK fu n)) rfl (zo (zQ (YC zh) zu) (zo (VD (wv (zc 0)) zu (xH (Wq UZ (zc 1) (zb (zr (zb (zc 2) zh)) zh)))) (zy (zc 1)))) h⟩)
  ·rw [Yu]
   exact T.f_deed_rows.F.okE vb (fun vs H Q E h=>h.1) (fun cdv A outer s H vs Q E hr h=>⟨_,(@zk _ _ _ _ _ (@zV _ _ 1 _ _ _ _ vb.nd rfl (Or.inl rfl) (@Yy _ _ _ _ (@za _ _ _ _ _ (vW PySem.F.plainAttrs_str PySem.F.slot_str_join PySem.F.type_str_join zai zA (za (xF (N':=["word"]) rfl (blk (osc:=zt Yp) rfl (by decide+kernel)) (yO xb) (xG (K:=K) (zq (za7 (fu:=fu) T) (hr.mono (by (try simp only [Nat.add_eq]);omega)) rfl T.f_first_words.m T.f_first_words.F.kp T.f_first_words.b .nil zG (@za _ _ _ _ _ (pv 0) zg zf))) (yn rfl) (fun C s₀ H₀ fp=>yk (i:=0) (show (["word"]:List Str).Nodup from by decide+kernel) rfl (Or.inl rfl)) (fun C s₀ H₀ fp=>xa) (fun C s₀ H₀ fp=>(yU Vf rfl T.n_str PyProof.Rows.Boot.«str» (@za _ _ _ _ _ (pv 0) zg zf)))) zg)) zg yc)) (by rfl) (by walk_at "q1")) (@zk _ _ _ _ _ (ya (yf (Xc (K:=K)) (@zZ _ _ _ _ _ _ _ (zT (K:=K)) (pv 0) zm (fun _ _=>rfl)) (yZ (v:= .ref T.a_BLOCK_KINDS) rfl T.m_BLOCK_KINDS rfl) (by rfl)) (@zn _ _ _ (@zw _ _ _ _ (pv 1))) zB) (@zk _ _ _ _ _ (@zV _ _ 2 _ _ _ _ vb.nd rfl (Or.inl rfl) (zg7 (yf xp (@zZ _ _ _ _ _ _ _ (zT (K:=K)) (pv 0) zm (fun _ _=>rfl)) zA (by rfl)) zA zA) (by rfl) (by walk_at "q1")) (@zk _ _ _ _ _ (VA PassesOwn.leaving rfl (zdF (K:=K) rfl T.n_enumerate (@za _ _ _ _ _ (zq (Zz (fu:=fu) T) (hr.mono (by (try simp only [Nat.add_eq]);omega)) rfl T.f_blocks_of.m T.f_blocks_of.F.kp T.f_blocks_of.b .nil zG (@za _ _ _ _ _ (pv 0) zg zf)) zg yc)) (WV (K:=K) (n:=2) rfl (xO (yk (i:=3) vb.nd rfl (Or.inl rfl)) (xO (yk (i:=4) vb.nd rfl (Or.inl rfl)) WQ))) (@zk _ _ _ _ _ (ya (ym (Wi (pv 3) zm)) (@zn _ _ _ (xE (vW PySem.F.plainAttrs_list PySem.F.slot_list_append PySem.F.type_list_append wk (pv 1) (@za _ _ _ _ _ (pv 2) zg zf)))) zB) (@zn _ _ _ (xE (vW PySem.F.plainAttrs_list PySem.F.slot_list_extend PySem.F.type_list_extend (VC (K:=K)) (pv 1) (@za _ _ _ _ _ (zq ih.1 (hr.mono (by (try simp only [Nat.add_eq]);omega)) rfl T.f_block_rows.m T.f_block_rows.F.kp T.f_block_rows.b .nil zG (@za _ _ _ _ _ (pv 4) zg zf)) zg yc)))))) (@zk _ _ _ _ _ (xE (vW PySem.F.plainAttrs_list PySem.F.slot_list_append PySem.F.type_list_append wk (pv 1) (@za _ _ _ _ _ zA zg zi))) (@zn _ _ _ (@zw _ _ _ _ (pv 1)))))))),yy (n:=1) (k:=4) (b:=ZE fu (yq fu n) (yK fu n)) rfl (zo (zQ (YC (zb (Tm zaj (zx _) (zb (xf (cap:=[none]) (wv (zr (zb (zc 0) zh))) zu xc (yl zak (zb (zc 0) zh))) zh)) zh)) zu) (zo (yb (yd (zp TC (zp yg (zc 0) (zj _)) (zcx fun j H=> .ct (fun H=>T.c_BLOCK_KINDS H) (.cons (.str _) (.cons (.str _) (.cons (.str _) (.cons (.str _) .nil))))))) (zy (zc 1)) zC) (zo (zQ (zmy (yd (zp yR (zp yg (zc 0) (zj _)) (zx _))) (zx _) (zx _)) zu) (zo (VD (zdO (zr (zb (zc 0) zh))) (Ta (xP zu (xP zu WX))) (zo (yb (yT (Ws (zc 3) (zj _))) (xH (Wq wO (zc 1) (zb (zc 2) zh))) zC) (xH (Wq UZ (zc 1) (zb (zr (zb (zc 4) zh)) zh))))) (zo (xH (Wq wO (zc 1) (zb (zx _) zh))) (zy (zc 1))))))) h⟩)
theorem zbI (T:Tx K mg) (n:Nat):yB P w K mg base (CXE P w) (1+n) T.f_block_rows.a T.f_block_rows.fd ["block"] (sTw K 1 (yq fu n)):=(za8 T n).1
noncomputable def za9 (fu:Nat):TwS:=(zH (yD (xl [none,none] (iT (eOp yE (ze 0) (eC (.int 0)))) (gT 2 (wu (gN 0) (wu (gN 1) Ug))) xq (eJn [(eC (.str "box ")),(eUn zgT (ze 0)),(eC (.str " ")),(eUn zgT (ze 1))] Str.empty)) (gN 1)) (zY (zbu Uv (eC (.str "\n")) [(eOp zb4 (ze 1) (zv (yq fu 40) [(eOp yE (ze 0) (eC (.int 1)))]))])))
noncomputable def zba (fu:Nat):TwF:=ye 1 1 (za9 fu)
theorem zic (T:Tx K mg):yB P w K mg base (CXE P w) 42 T.f_shown.a T.f_shown.fd ["program"] (sTw K 1 (zba fu)):=
 T.f_shown.F.okE zd7 (fun vs H Q E h=>h.1) (fun cdv A outer s H vs Q E hr h=>⟨_,(@zk _ _ _ _ _ (Xt (i:=1) (N':=["name","size"]) rfl (blk (osc:=zt zal) rfl (by decide+kernel)) (yO (yO xb)) (xG (K:=K) (@zZ _ _ _ _ _ _ _ (zT (K:=K)) (pv 0) zm (fun _ _=>rfl))) (zaw (vz (yn rfl) (vz (yn rfl) UU vA) vA)) (fun C s₀ H₀ fp=>WV (K:=K) (n:=2) rfl (xO (yk (i:=0) (show (["name","size"]:List Str).Nodup from by decide+kernel) rfl (Or.inl rfl)) (xO (yk (i:=1) (show (["name","size"]:List Str).Nodup from by decide+kernel) rfl (Or.inl rfl)) WQ))) (fun C s₀ H₀ fp=>xa) (fun C s₀ H₀ fp=>(zjs (PJ.cons zA (PJ.cons (zh6 (pv 0)) (PJ.cons zA (PJ.cons (zh6 (pv 1)) PJ.nil)))))) zd7.nd rfl rfl) (@zn _ _ _ (@zw _ _ _ _ (vW PySem.F.plainAttrs_str PySem.F.slot_str_join PySem.F.type_str_join zai zA (@za _ _ _ _ _ (yh (zfK (K:=K)) (pv 1) (zq (zbI (fu:=fu) T 40) (hr.mono (by decide)) rfl T.f_block_rows.m T.f_block_rows.F.kp T.f_block_rows.b .nil zG (@za _ _ _ _ _ (@zZ _ _ _ _ _ _ _ (zT (K:=K)) (pv 0) zm (fun _ _=>rfl)) zg zF))) zg yY))))),yy (n:=1) (k:=1) (b:=za9 fu) rfl (zo (Xz (xf (cap:=[none,none]) (wv (zp yg (zc 0) (zj _))) (Ta (xP zu (xP zu WX))) xc (zju (RJ.cons (zx _) (RJ.cons (zh7 (zc 0)) (RJ.cons (zx _) (RJ.cons (zh7 (zc 1)) RJ.nil))))))) (zy (Tm zaj (zx _) (zb (zp zfO (zc 1) (zr (zb (zp yg (zc 0) (zj _)) zh))) zh)))) h⟩)
noncomputable def XX (fu:Nat):TwS:=(zH (yD (eC (.int 0)) (gN 4)) (zH (sIf (bE (eOp dGt (eFn wx [(ze 0)]) (eC (.int 0)))) (yD (eOp vp (ze 0) (eOp TQ (ze 1) (eFn wx [(ze 0)]))) (gN 4)) zO) (zY (eOp TQ (eOp TQ (eOp xX (eOp zi0 (eOp xX (ze 4) (eOp Vr (ze 1) (ze 1))) (eC (.int 48271))) (eC (.int 11))) (ze 2)) (ze 3)))))
noncomputable def zJ (fu:Nat):TwF:=ye 4 1 (XX fu)
theorem zU (T:Tx K mg):yB P w K mg base (CXE P w) 1 T.f__law_draw.a T.f__law_draw.fd ["_law_script","_law_k","_law_prime","_law_many"] (sTw K 4 (zJ fu)):=
 T.f__law_draw.F.okE XM (fun vs H Q E h=>h.1) (fun cdv A outer s H vs Q E hr h=>⟨_,(@zk _ _ _ _ _ (@zV _ _ 4 _ _ _ _ XM.nd rfl (Or.inl rfl) zm (by rfl) (by walk_at "q1")) (@zk _ _ _ _ _ (ya (ym (Wi (zK (yi (K:=K)) rfl T.n_len boot_len (@za _ _ _ _ _ (pv 0) zg zf)) zm)) (@zn _ _ _ (@zV _ _ 4 _ _ _ _ XM.nd rfl (Or.inl rfl) (@zZ _ _ _ _ _ _ _ (yH (K:=K)) (pv 0) (yh Wj (pv 1) (zK (yi (K:=K)) rfl T.n_len boot_len (@za _ _ _ _ _ (pv 0) zg zf))) (fun _ _=>rfl)) (by rfl) (by walk_at "q1"))) zB) (@zn _ _ _ (@zw _ _ _ _ (yh Wj (yh Wj (yh yP (yh zkE (yh yP (pv 4) (yh WT (pv 1) (pv 1))) zm) zm) (pv 2)) (pv 3)))))),yy (n:=4) (k:=1) (b:=XX fu) rfl (zo (zQ (zj _) zu) (zo (yb (yT (Ws (yl xg (zb (zc 0) zh)) (zj _))) (zQ (zp xy (zc 0) (zp Wr (zc 1) (yl xg (zb (zc 0) zh)))) zu) zC) (zy (zp Wr (zp Wr (zp yQ (zp zkX (zp yQ (zc 4) (zp WY (zc 1) (zc 1))) (zj _)) (zj _)) (zc 2)) (zc 3))))) h⟩)
noncomputable def XY (fu:Nat):TwS:=(zH (yD (eC (.str "abcdefghijklmnopqrstuvwxyz")) (gN 3)) (zH (yD (eOp xX (ze 2) (eC (.int 1))) (gN 4)) (zH (sIf (bE (eOp ZL (zv (zJ fu) [(ze 0),(eC (.int 1)),(eC (.int 10009)),(eC (.int 2))]) (eC (.int 0)))) (yD (eOp xX (ze 4) (zv (zJ fu) [(ze 0),(eOp xX (eC (.int 20)) (ze 1)),(eC (.int 10037)),(eOp zhE (eC (.int 8)) (ze 2))])) (gN 4)) zO) (zH (yD (eC (.str "")) (gN 5)) (zH (zcA (iR1 (ze 4)) (gN 6) (zH (yD (eOp xX (eOp Vr (ze 6) (ze 6)) (zv (zJ fu) [(ze 0),(eC (.int 2)),(eC (.int 10039)),(eC (.int 26))])) (gN 7)) (zH (sIf (bE (eOp ZL (zv (zJ fu) [(ze 0),(eC (.int 3)),(eC (.int 10061)),(eC (.int 2))]) (eC (.int 0)))) (yD (eOp xX (ze 7) (zv (zJ fu) [(ze 0),(eOp xX (eC (.int 30)) (ze 1)),(eC (.int 10067)),(eC (.int 26))])) (gN 7)) zO) (zH (sIf (bE (eOp ZL (ze 6) (ze 2))) (yD (eOp xX (ze 1) (zv (zJ fu) [(ze 0),(eC (.int 4)),(eC (.int 10069)),(eC (.int 26))])) (gN 7)) zO) (yD (eOp ww (ze 5) (eOp zaD (ze 3) (eOp TQ (ze 7) (eC (.int 26))))) (gN 5)))))) (zY (ze 5)))))))
noncomputable def XZ (fu:Nat):TwF:=ye 3 5 (XY fu)
theorem zc4 (T:Tx K mg):yB P w K mg base (CXE P w) 2 T.f__law_name.a T.f__law_name.fd ["_law_script","_law_k","_law_at"] (sTw K 3 (XZ fu)):=
 T.f__law_name.F.okE yX (fun vs H Q E h=>h.1) (fun cdv A outer s H vs Q E hr h=>⟨_,(@zk _ _ _ _ _ (@zV _ _ 3 _ _ _ _ yX.nd rfl (Or.inl rfl) zA (by rfl) (by walk_at "q1")) (@zk _ _ _ _ _ (@zV _ _ 4 _ _ _ _ yX.nd rfl (Or.inl rfl) (yh yP (pv 2) zm) (by rfl) (by walk_at "q1")) (@zk _ _ _ _ _ (ya (ym (xR (zq (zU (fu:=fu) T) (hr.mono (by decide)) rfl T.f__law_draw.m T.f__law_draw.F.kp T.f__law_draw.b .nil zG (@za _ _ _ _ _ (pv 0) (@za _ _ _ _ _ zm (@za _ _ _ _ _ zm (@za _ _ _ _ _ zm zg zi) zi) zi) zf)) zm)) (@zn _ _ _ (@zV _ _ 4 _ _ _ _ yX.nd rfl (Or.inl rfl) (yh yP (pv 4) (zq (zU (fu:=fu) T) (hr.mono (by decide)) rfl T.f__law_draw.m T.f__law_draw.F.kp T.f__law_draw.b .nil zG (@za _ _ _ _ _ (pv 0) (@za _ _ _ _ _ (yh yP zm (pv 1)) (@za _ _ _ _ _ zm (@za _ _ _ _ _ (yh zeA zm (pv 2)) zg yY) zi) yY) zf))) (by rfl) (by walk_at "q1"))) zB) (@zk _ _ _ _ _ (@zV _ _ 5 _ _ _ _ yX.nd rfl (Or.inl rfl) zA (by rfl) (by walk_at "q1")) (@zk _ _ _ _ _ (VA PassesOwn.leaving rfl (UQ rfl T.n_range (@za _ _ _ _ _ (pv 4) zg zf)) (yk (i:=6) yX.nd rfl (Or.inl rfl)) (@zk _ _ _ _ _ (@zV _ _ 7 _ _ _ _ yX.nd rfl (Or.inl rfl) (yh yP (yh WT (pv 6) (pv 6)) (zq (zU (fu:=fu) T) (hr.mono (by decide)) rfl T.f__law_draw.m T.f__law_draw.F.kp T.f__law_draw.b .nil zG (@za _ _ _ _ _ (pv 0) (@za _ _ _ _ _ zm (@za _ _ _ _ _ zm (@za _ _ _ _ _ zm zg zi) zi) zi) zf))) (by rfl) (by walk_at "q1")) (@zk _ _ _ _ _ (ya (ym (xR (zq (zU (fu:=fu) T) (hr.mono (by decide)) rfl T.f__law_draw.m T.f__law_draw.F.kp T.f__law_draw.b .nil zG (@za _ _ _ _ _ (pv 0) (@za _ _ _ _ _ zm (@za _ _ _ _ _ zm (@za _ _ _ _ _ zm zg zi) zi) zi) zf)) zm)) (@zn _ _ _ (@zV _ _ 7 _ _ _ _ yX.nd rfl (Or.inl rfl) (yh yP (pv 7) (zq (zU (fu:=fu) T) (hr.mono (by decide)) rfl T.f__law_draw.m T.f__law_draw.F.kp T.f__law_draw.b .nil zG (@za _ _ _ _ _ (pv 0) (@za _ _ _ _ _ (yh yP zm (pv 1)) (@za _ _ _ _ _ zm (@za _ _ _ _ _ zm zg zi) zi) yY) zf))) (by rfl) (by walk_at "q1"))) zB) (@zk _ _ _ _ _ (ya (ym (xR (pv 6) (pv 2))) (@zn _ _ _ (@zV _ _ 7 _ _ _ _ yX.nd rfl (Or.inl rfl) (yh yP (pv 1) (zq (zU (fu:=fu) T) (hr.mono (by decide)) rfl T.f__law_draw.m T.f__law_draw.F.kp T.f__law_draw.b .nil zG (@za _ _ _ _ _ (pv 0) (@za _ _ _ _ _ zm (@za _ _ _ _ _ zm (@za _ _ _ _ _ zm zg zi) zi) zi) zf))) (by rfl) (by walk_at "q1"))) zB) (@zn _ _ _ (@zV _ _ 5 _ _ _ _ yX.nd rfl (Or.inl rfl) (yh xk (pv 5) (@zZ _ _ _ _ _ _ _ zcm (pv 3) (yh Wj (pv 7) zm) (fun _ _=>rfl))) (by rfl) (by walk_at "q1"))))))) (@zn _ _ _ (@zw _ _ _ _ (pv 5)))))))),yy (n:=3) (k:=5) (b:=XY fu) rfl (zo (zQ (zx _) zu) (zo (zQ (zp yQ (zc 2) (zj _)) zu) (zo (yb (yT (xS (zr (zb (zc 0) (zb (zj _) (zb (zj _) (zb (zj _) zh))))) (zj _))) (zQ (zp yQ (zc 4) (zr (zb (zc 0) (zb (zp yQ (zj _) (zc 1)) (zb (zj _) (zb (zp zeX (zj _) (zc 2)) zh)))))) zu) zC) (zo (zQ (zx _) zu) (zo (VD (Tc (zc 4)) zu (zo (zQ (zp yQ (zp WY (zc 6) (zc 6)) (zr (zb (zc 0) (zb (zj _) (zb (zj _) (zb (zj _) zh)))))) zu) (zo (yb (yT (xS (zr (zb (zc 0) (zb (zj _) (zb (zj _) (zb (zj _) zh))))) (zj _))) (zQ (zp yQ (zc 7) (zr (zb (zc 0) (zb (zp yQ (zj _) (zc 1)) (zb (zj _) (zb (zj _) zh)))))) zu) zC) (zo (yb (yT (xS (zc 6) (zc 2))) (zQ (zp yQ (zc 1) (zr (zb (zc 0) (zb (zj _) (zb (zj _) (zb (zj _) zh)))))) zu) zC) (zQ (zp wW (zc 5) (zp zcz (zc 3) (zp Wr (zc 7) (zj _)))) zu))))) (zy (zc 5))))))) h⟩)
noncomputable def YV (fu:Nat):TwS:=(zH (yD (zv (zJ fu) [(ze 0),(eC (.int 5)),(eC (.int 10079)),(eC (.int 8))]) (gN 3)) (zH (yD (TL []) (gN 4)) (zH (yD (eC (.int 1)) (gN 5)) (zH (zcA (iR1 (ze 1)) (gN 6) (zH (yD (eOp xX (eC (.int 1)) (zv (zJ fu) [(ze 0),(eOp xX (eC (.int 6)) (ze 6)),(eC (.int 10091)),(eC (.int 9))])) (gN 7)) (zH (sIf (bE (eOp dGt (eOp Vr (ze 5) (ze 7)) (ze 2))) (yD (eC (.int 1)) (gN 7)) zO) (zH (yD (eOp Vr (ze 5) (ze 7)) (gN 5)) (zH (yD (zv (XZ fu) [(ze 0),(ze 6),(ze 3)]) (gN 8)) (zH (sIf (Xw (bE (eOp ZL (ze 6) (eC (.int 1)))) (bE (eOp ZL (zv (zJ fu) [(ze 0),(eC (.int 9)),(eC (.int 10369)),(eC (.int 3))]) (eC (.int 0))))) (zH (yD (eSl zdH (eOp yE (eOp vp (ze 4) (eC (.int 0))) (eC (.int 0))) oNo (Uf (eUn zi1 (eC (.int 1))))) (gN 8)) (sIf (bE (eOp dLt (eFn zaM [(ze 8)]) (eC (.int 7)))) (yD (eOp ww (eOp yE (eOp vp (ze 4) (eC (.int 0))) (eC (.int 0))) (eC (.str "e"))) (gN 8)) zO)) zO) (wP (eMt xU (ze 4) [(xj [(ze 8),(ze 7)])])))))))) (zY (eFn Zg [(ze 4)]))))))
noncomputable def YW (fu:Nat):TwF:=ye 3 6 (YV fu)
theorem zbJ (T:Tx K mg):yB P w K mg base (CXE P w) 3 T.f__law_boxes.a T.f__law_boxes.fd ["_law_script","_law_count","_law_most"] (sTw K 3 (YW fu)):=
 T.f__law_boxes.F.okE yI (fun vs H Q E h=>h.1) (fun cdv A outer s H vs Q E hr h=>⟨_,(@zk _ _ _ _ _ (@zV _ _ 3 _ _ _ _ yI.nd rfl (Or.inl rfl) (zq (zU (fu:=fu) T) (hr.mono (by decide)) rfl T.f__law_draw.m T.f__law_draw.F.kp T.f__law_draw.b .nil zG (@za _ _ _ _ _ (pv 0) (@za _ _ _ _ _ zm (@za _ _ _ _ _ zm (@za _ _ _ _ _ zm zg zi) zi) zi) zf)) (by rfl) (by walk_at "q1")) (@zk _ _ _ _ _ (@zV _ _ 4 _ _ _ _ yI.nd rfl (Or.inl rfl) (@Yy _ _ _ _ zg) (by rfl) (by walk_at "q1")) (@zk _ _ _ _ _ (@zV _ _ 5 _ _ _ _ yI.nd rfl (Or.inl rfl) zm (by rfl) (by walk_at "q1")) (@zk _ _ _ _ _ (VA PassesOwn.leaving rfl (UQ rfl T.n_range (@za _ _ _ _ _ (pv 1) zg zf)) (yk (i:=6) yI.nd rfl (Or.inl rfl)) (@zk _ _ _ _ _ (@zV _ _ 7 _ _ _ _ yI.nd rfl (Or.inl rfl) (yh yP zm (zq (zU (fu:=fu) T) (hr.mono (by decide)) rfl T.f__law_draw.m T.f__law_draw.F.kp T.f__law_draw.b .nil zG (@za _ _ _ _ _ (pv 0) (@za _ _ _ _ _ (yh yP zm (pv 6)) (@za _ _ _ _ _ zm (@za _ _ _ _ _ zm zg zi) zi) yY) zf))) (by rfl) (by walk_at "q1")) (@zk _ _ _ _ _ (ya (ym (Wi (yh WT (pv 5) (pv 7)) (pv 2))) (@zn _ _ _ (@zV _ _ 7 _ _ _ _ yI.nd rfl (Or.inl rfl) zm (by rfl) (by walk_at "q1"))) zB) (@zk _ _ _ _ _ (@zV _ _ 5 _ _ _ _ yI.nd rfl (Or.inl rfl) (yh WT (pv 5) (pv 7)) (by rfl) (by walk_at "q1")) (@zk _ _ _ _ _ (@zV _ _ 8 _ _ _ _ yI.nd rfl (Or.inl rfl) (zq (zc4 (fu:=fu) T) (hr.mono (by decide)) rfl T.f__law_name.m T.f__law_name.F.kp T.f__law_name.b .nil zG (@za _ _ _ _ _ (pv 0) (@za _ _ _ _ _ (pv 6) (@za _ _ _ _ _ (pv 3) zg zf) zf) zf)) (by rfl) (by walk_at "q1")) (@zk _ _ _ _ _ (ya (PW.pt (Zd (ym (xR (pv 6) zm)) (wD (ym (xR (zq (zU (fu:=fu) T) (hr.mono (by decide)) rfl T.f__law_draw.m T.f__law_draw.F.kp T.f__law_draw.b .nil zG (@za _ _ _ _ _ (pv 0) (@za _ _ _ _ _ zm (@za _ _ _ _ _ zm (@za _ _ _ _ _ zm zg zi) zi) zi) zf)) zm))))) (@zk _ _ _ _ _ (@zV _ _ 8 _ _ _ _ yI.nd rfl (Or.inl rfl) (ZJ zkP (@zZ _ _ _ _ _ _ _ (zT (K:=K)) (@zZ _ _ _ _ _ _ _ (yH (K:=K)) (pv 4) zm (fun _ _=>rfl)) zm (fun _ _=>rfl)) Xp (Xq (zl9 zkF zm))) (by rfl) (by walk_at "q1")) (@zn _ _ _ (ya (ym (zfv (zK Xr rfl T.n_len boot_len (@za _ _ _ _ _ (pv 8) zg zf)) zm)) (@zn _ _ _ (@zV _ _ 8 _ _ _ _ yI.nd rfl (Or.inl rfl) (yh xk (@zZ _ _ _ _ _ _ _ (zT (K:=K)) (@zZ _ _ _ _ _ _ _ (yH (K:=K)) (pv 4) zm (fun _ _=>rfl)) zm (fun _ _=>rfl)) zA) (by rfl) (by walk_at "q1"))) zB))) zB) (@zn _ _ _ (xE (vW PySem.F.plainAttrs_list PySem.F.slot_list_append PySem.F.type_list_append wk (pv 4) (@za _ _ _ _ _ (@yv _ _ _ _ _ (@za _ _ _ _ _ (pv 8) (@za _ _ _ _ _ (pv 7) zg zf) zf)) zg Ub)))))))))) (@zn _ _ _ (@zw _ _ _ _ (yU (xK (K:=K)) rfl T.n_tuple boot_tuple (@za _ _ _ _ _ (pv 4) zg zf)))))))),yy (n:=3) (k:=6) (b:=YV fu) rfl (zo (zQ (zr (zb (zc 0) (zb (zj _) (zb (zj _) (zb (zj _) zh))))) zu) (zo (zQ (YC zh) zu) (zo (zQ (zj _) zu) (zo (VD (Tc (zc 1)) zu (zo (zQ (zp yQ (zj _) (zr (zb (zc 0) (zb (zp yQ (zj _) (zc 6)) (zb (zj _) (zb (zj _) zh)))))) zu) (zo (yb (yT (Ws (zp WY (zc 5) (zc 7)) (zc 2))) (zQ (zj _) zu) zC) (zo (zQ (zp WY (zc 5) (zc 7)) zu) (zo (zQ (zr (zb (zc 0) (zb (zc 6) (zb (zc 3) zh)))) zu) (zo (yb (Zf (yT (xS (zc 6) (zj _))) (yT (xS (zr (zb (zc 0) (zb (zj _) (zb (zj _) (zb (zj _) zh))))) (zj _)))) (zo (zQ (zkV (zp yg (zp xy (zc 4) (zj _)) (zj _)) zaE (Xx (zmw zkY (zj _)))) zu) (yb (yT (zfM (yl zcE (zb (zc 8) zh)) (zj _))) (zQ (zp wW (zp yg (zp xy (zc 4) (zj _)) (zj _)) (zx _)) zu) zC)) zC) (xH (Wq wO (zc 4) (zb (yw (zb (zc 8) (zb (zc 7) zh))) zh))))))))) (zy (yl vY (zb (zc 4) zh))))))) h⟩)
noncomputable def Zn (fu:Nat):TwS:=(zH (yD (eC (.int 0)) (gN 3)) (zH (sIf (bE (eOp dGt (eFn wx [(ze 0)]) (eC (.int 0)))) (yD (eOp vp (ze 0) (eOp TQ (ze 1) (eFn wx [(ze 0)]))) (gN 3)) zO) (zH (yD (zv (zJ fu) [(ze 0),(ze 1),(eC (.int 10103)),(eC (.int 4))]) (gN 4)) (zH (sIf (Xw (bE (eOp dLt (ze 4) (eC (.int 2)))) (bE (eOp dGt (eFn wx [(ze 2)]) (eC (.int 0))))) (zY (eOp yE (eOp yE (ze 2) (zv (zJ fu) [(ze 0),(ze 1),(eC (.int 10111)),(eFn wx [(ze 2)])])) (eC (.int 0)))) zO) (zH (sIf (bE (eOp ZL (ze 4) (eC (.int 2)))) (zY (eOp TQ (ze 3) (eOp zeW (eC (.int 10)) (eC (.int 9))))) zO) (zY (zv (zJ fu) [(ze 0),(ze 1),(eC (.int 10133)),(eC (.int 10))])))))))
noncomputable def yL (fu:Nat):TwF:=ye 3 2 (Zn fu)
theorem xu (T:Tx K mg):yB P w K mg base (CXE P w) 2 T.f__law_operand.a T.f__law_operand.fd ["_law_script","_law_k","_law_boxes_here"] (sTw K 3 (yL fu)):=
 T.f__law_operand.F.okE wI (fun vs H Q E h=>h.1) (fun cdv A outer s H vs Q E hr h=>⟨_,(@zk _ _ _ _ _ (@zV _ _ 3 _ _ _ _ wI.nd rfl (Or.inl rfl) zm (by rfl) (by walk_at "q1")) (@zk _ _ _ _ _ (ya (ym (Wi (zK (yi (K:=K)) rfl T.n_len boot_len (@za _ _ _ _ _ (pv 0) zg zf)) zm)) (@zn _ _ _ (@zV _ _ 3 _ _ _ _ wI.nd rfl (Or.inl rfl) (@zZ _ _ _ _ _ _ _ (yH (K:=K)) (pv 0) (yh Wj (pv 1) (zK (yi (K:=K)) rfl T.n_len boot_len (@za _ _ _ _ _ (pv 0) zg zf))) (fun _ _=>rfl)) (by rfl) (by walk_at "q1"))) zB) (@zk _ _ _ _ _ (@zV _ _ 4 _ _ _ _ wI.nd rfl (Or.inl rfl) (zq (zU (fu:=fu) T) (hr.mono (by decide)) rfl T.f__law_draw.m T.f__law_draw.F.kp T.f__law_draw.b .nil zG (@za _ _ _ _ _ (pv 0) (@za _ _ _ _ _ (pv 1) (@za _ _ _ _ _ zm (@za _ _ _ _ _ zm zg zi) zi) zf) zf)) (by rfl) (by walk_at "q1")) (@zk _ _ _ _ _ (ya (PW.pt (Zd (ym (zfv (pv 4) zm)) (wD (ym (Wi (zK (yi (K:=K)) rfl T.n_len boot_len (@za _ _ _ _ _ (pv 2) zg zf)) zm))))) (@zn _ _ _ (@zw _ _ _ _ (@zZ _ _ _ _ _ _ _ (zT (K:=K)) (@zZ _ _ _ _ _ _ _ (zT (K:=K)) (pv 2) (zq (zU (fu:=fu) T) (hr.mono (by decide)) rfl T.f__law_draw.m T.f__law_draw.F.kp T.f__law_draw.b .nil zG (@za _ _ _ _ _ (pv 0) (@za _ _ _ _ _ (pv 1) (@za _ _ _ _ _ zm (@za _ _ _ _ _ (zK (yi (K:=K)) rfl T.n_len boot_len (@za _ _ _ _ _ (pv 2) zg zf)) zg yc) zi) zf) zf)) (fun _ _=>rfl)) zm (fun _ _=>rfl)))) zB) (@zk _ _ _ _ _ (ya (ym (xR (pv 4) zm)) (@zn _ _ _ (@zw _ _ _ _ (yh Wj (pv 3) (yh zeB zm zm)))) zB) (@zn _ _ _ (@zw _ _ _ _ (zq (zU (fu:=fu) T) (hr.mono (by decide)) rfl T.f__law_draw.m T.f__law_draw.F.kp T.f__law_draw.b .nil zG (@za _ _ _ _ _ (pv 0) (@za _ _ _ _ _ (pv 1) (@za _ _ _ _ _ zm (@za _ _ _ _ _ zm zg zi) zi) zf) zf))))))))),yy (n:=3) (k:=2) (b:=Zn fu) rfl (zo (zQ (zj _) zu) (zo (yb (yT (Ws (yl xg (zb (zc 0) zh)) (zj _))) (zQ (zp xy (zc 0) (zp Wr (zc 1) (yl xg (zb (zc 0) zh)))) zu) zC) (zo (zQ (zr (zb (zc 0) (zb (zc 1) (zb (zj _) (zb (zj _) zh))))) zu) (zo (yb (Zf (yT (zfM (zc 4) (zj _))) (yT (Ws (yl xg (zb (zc 2) zh)) (zj _)))) (zy (zp yg (zp yg (zc 2) (zr (zb (zc 0) (zb (zc 1) (zb (zj _) (zb (yl xg (zb (zc 2) zh)) zh)))))) (zj _))) zC) (zo (yb (yT (xS (zc 4) (zj _))) (zy (zp Wr (zc 3) (zp zeY (zj _) (zj _)))) zC) (zy (zr (zb (zc 0) (zb (zc 1) (zb (zj _) (zb (zj _) zh))))))))))) h⟩)
noncomputable def Wa (fu:Nat):TwS:=(zH (yD (eOp zaD (eC (.str "=<#")) (zv (zJ fu) [(ze 0),(ze 1),(eC (.int 10139)),(eC (.int 3))])) (gN 3)) (zY (xj [(zv (yL fu) [(ze 0),(eOp xX (ze 1) (eC (.int 1))),(ze 2)]),(ze 3),(zv (yL fu) [(ze 0),(eOp xX (ze 1) (eC (.int 2))),(ze 2)])])))
noncomputable def ZF (fu:Nat):TwF:=ye 3 1 (Wa fu)
theorem zc5 (T:Tx K mg):yB P w K mg base (CXE P w) 3 T.f__law_test.a T.f__law_test.fd ["_law_script","_law_k","_law_boxes_here"] (sTw K 3 (ZF fu)):=
 T.f__law_test.F.okE UA (fun vs H Q E h=>h.1) (fun cdv A outer s H vs Q E hr h=>⟨_,(@zk _ _ _ _ _ (@zV _ _ 3 _ _ _ _ UA.nd rfl (Or.inl rfl) (@zZ _ _ _ _ _ _ _ zcm zA (zq (zU (fu:=fu) T) (hr.mono (by decide)) rfl T.f__law_draw.m T.f__law_draw.F.kp T.f__law_draw.b .nil zG (@za _ _ _ _ _ (pv 0) (@za _ _ _ _ _ (pv 1) (@za _ _ _ _ _ zm (@za _ _ _ _ _ zm zg zi) zi) zf) zf)) (fun _ _=>rfl)) (by rfl) (by walk_at "q1")) (@zn _ _ _ (@zw _ _ _ _ (@yv _ _ _ _ _ (@za _ _ _ _ _ (zq (xu (fu:=fu) T) (hr.mono (by decide)) rfl T.f__law_operand.m T.f__law_operand.F.kp T.f__law_operand.b .nil zG (@za _ _ _ _ _ (pv 0) (@za _ _ _ _ _ (yh yP (pv 1) zm) (@za _ _ _ _ _ (pv 2) zg zf) yY) zf)) (@za _ _ _ _ _ (pv 3) (@za _ _ _ _ _ (zq (xu (fu:=fu) T) (hr.mono (by decide)) rfl T.f__law_operand.m T.f__law_operand.F.kp T.f__law_operand.b .nil zG (@za _ _ _ _ _ (pv 0) (@za _ _ _ _ _ (yh yP (pv 1) zm) (@za _ _ _ _ _ (pv 2) zg zf) yY) zf)) zg yc) zf) yc))))),yy (n:=3) (k:=1) (b:=Wa fu) rfl (zo (zQ (zp zcz (zx _) (zr (zb (zc 0) (zb (zc 1) (zb (zj _) (zb (zj _) zh)))))) zu) (zy (yw (zb (zr (zb (zc 0) (zb (zp yQ (zc 1) (zj _)) (zb (zc 2) zh)))) (zb (zc 3) (zb (zr (zb (zc 0) (zb (zp yQ (zc 1) (zj _)) (zb (zc 2) zh)))) zh)))))) h⟩)
noncomputable def vj (fu:Nat):TwS:=(zH (sIf (bE (eOp ZL (zv (zJ fu) [(ze 0),(ze 1),(eC (.int 10141)),(eC (.int 3))]) (eC (.int 0)))) (zY (xj [(zv (yL fu) [(ze 0),(eOp xX (ze 1) (eC (.int 1))),(ze 2)])])) zO) (zH (yD (eOp zaD (eC (.str "+-*")) (zv (zJ fu) [(ze 0),(ze 1),(eC (.int 10151)),(eC (.int 3))])) (gN 3)) (zY (xj [(zv (yL fu) [(ze 0),(eOp xX (ze 1) (eC (.int 1))),(ze 2)]),(ze 3),(zv (yL fu) [(ze 0),(eOp xX (ze 1) (eC (.int 2))),(ze 2)])]))))
noncomputable def vk (fu:Nat):TwF:=ye 3 1 (vj fu)
theorem UG (T:Tx K mg):yB P w K mg base (CXE P w) 3 T.f__law_reckoning.a T.f__law_reckoning.fd ["_law_script","_law_k","_law_boxes_here"] (sTw K 3 (vk fu)):=
 T.f__law_reckoning.F.okE Yq (fun vs H Q E h=>h.1) (fun cdv A outer s H vs Q E hr h=>⟨_,(@zk _ _ _ _ _ (ya (ym (xR (zq (zU (fu:=fu) T) (hr.mono (by decide)) rfl T.f__law_draw.m T.f__law_draw.F.kp T.f__law_draw.b .nil zG (@za _ _ _ _ _ (pv 0) (@za _ _ _ _ _ (pv 1) (@za _ _ _ _ _ zm (@za _ _ _ _ _ zm zg zi) zi) zf) zf)) zm)) (@zn _ _ _ (@zw _ _ _ _ (@yv _ _ _ _ _ (@za _ _ _ _ _ (zq (xu (fu:=fu) T) (hr.mono (by decide)) rfl T.f__law_operand.m T.f__law_operand.F.kp T.f__law_operand.b .nil zG (@za _ _ _ _ _ (pv 0) (@za _ _ _ _ _ (yh yP (pv 1) zm) (@za _ _ _ _ _ (pv 2) zg zf) yY) zf)) zg yc)))) zB) (@zk _ _ _ _ _ (@zV _ _ 3 _ _ _ _ Yq.nd rfl (Or.inl rfl) (@zZ _ _ _ _ _ _ _ zcm zA (zq (zU (fu:=fu) T) (hr.mono (by decide)) rfl T.f__law_draw.m T.f__law_draw.F.kp T.f__law_draw.b .nil zG (@za _ _ _ _ _ (pv 0) (@za _ _ _ _ _ (pv 1) (@za _ _ _ _ _ zm (@za _ _ _ _ _ zm zg zi) zi) zf) zf)) (fun _ _=>rfl)) (by rfl) (by walk_at "q1")) (@zn _ _ _ (@zw _ _ _ _ (@yv _ _ _ _ _ (@za _ _ _ _ _ (zq (xu (fu:=fu) T) (hr.mono (by decide)) rfl T.f__law_operand.m T.f__law_operand.F.kp T.f__law_operand.b .nil zG (@za _ _ _ _ _ (pv 0) (@za _ _ _ _ _ (yh yP (pv 1) zm) (@za _ _ _ _ _ (pv 2) zg zf) yY) zf)) (@za _ _ _ _ _ (pv 3) (@za _ _ _ _ _ (zq (xu (fu:=fu) T) (hr.mono (by decide)) rfl T.f__law_operand.m T.f__law_operand.F.kp T.f__law_operand.b .nil zG (@za _ _ _ _ _ (pv 0) (@za _ _ _ _ _ (yh yP (pv 1) zm) (@za _ _ _ _ _ (pv 2) zg zf) yY) zf)) zg yc) zf) yc)))))),yy (n:=3) (k:=1) (b:=vj fu) rfl (zo (yb (yT (xS (zr (zb (zc 0) (zb (zc 1) (zb (zj _) (zb (zj _) zh))))) (zj _))) (zy (yw (zb (zr (zb (zc 0) (zb (zp yQ (zc 1) (zj _)) (zb (zc 2) zh)))) zh))) zC) (zo (zQ (zp zcz (zx _) (zr (zb (zc 0) (zb (zc 1) (zb (zj _) (zb (zj _) zh)))))) zu) (zy (yw (zb (zr (zb (zc 0) (zb (zp yQ (zc 1) (zj _)) (zb (zc 2) zh)))) (zb (zc 3) (zb (zr (zb (zc 0) (zb (zp yQ (zc 1) (zj _)) (zb (zc 2) zh)))) zh))))))) h⟩)
noncomputable def Zo (fu:Nat):TwS:=(zH (yD (xl [none,some 0,some 1] (iR1 (ze 2)) (gN 0) xq (zv (zJ fu) [(ze 1),(eOp xX (ze 2) (ze 0)),(eC (.int 10159)),(eC (.int 4))])) (gN 3)) (zH (yD (zv (zJ fu) [(ze 0),(ze 1),(eC (.int 10163)),(ze 2)]) (gN 4)) (zH (sIf (bE (eOp ZL (eFn zeZ [(ze 3)]) (eC (.int 0)))) (yD (eC (.int 1)) (zaH (ze 3) (ze 4))) zO) (zH (sIf (bE (eOp ZL (zv (zJ fu) [(ze 0),(ze 1),(eC (.int 10169)),(eC (.int 6))]) (eC (.int 0)))) (yD (eOp zhE (eOp zeW (eC (.int 10)) (eC (.int 9))) (eC (.int 1))) (zaH (ze 3) (ze 4))) (sIf (Xw (bE (eOp dGt (eFn wx [(ze 0)]) (eC (.int 0)))) (bE (eOp ZL (zv (zJ fu) [(ze 0),(ze 1),(eC (.int 10463)),(eC (.int 3))]) (eC (.int 0))))) (yD (eOp xX (eC (.int 1)) (eOp TQ (eOp vp (ze 0) (eOp TQ (ze 1) (eFn wx [(ze 0)]))) (eOp zhE (eOp zeW (eC (.int 10)) (eC (.int 9))) (eC (.int 1))))) (zaH (ze 3) (ze 4))) zO)) (zY (eFn Zg [(ze 3)]))))))
noncomputable def Zp (fu:Nat):TwF:=ye 3 2 (Zo fu)
theorem zaa (T:Tx K mg):yB P w K mg base (CXE P w) 2 T.f__law_weights.a T.f__law_weights.fd ["_law_script","_law_k","_law_size"] (sTw K 3 (Zp fu)):=
 T.f__law_weights.F.okE Zj (fun vs H Q E h=>h.1) (fun cdv A outer s H vs Q E hr h=>⟨_,(@zk _ _ _ _ _ (Xt (i:=3) (N':=["_law_at","_law_script","_law_k"]) rfl (blk (osc:=zt va) rfl (by decide+kernel)) (yO (Ym (i:=0) rfl rfl (Ym (i:=1) rfl rfl xb))) (UQ rfl T.n_range (@za _ _ _ _ _ (pv 2) zg zf)) (yn rfl) (fun C s₀ H₀ fp=>yk (i:=0) (show (["_law_at","_law_script","_law_k"]:List Str).Nodup from by decide+kernel) rfl (Or.inl rfl)) (fun C s₀ H₀ fp=>xa) (fun C s₀ H₀ fp=>(zq (zU (fu:=fu) T) (hr.mono (by decide)) rfl T.f__law_draw.m T.f__law_draw.F.kp T.f__law_draw.b .nil Wd (@za _ _ _ _ _ (pv 1) (@za _ _ _ _ _ (yh yP (pv 2) (pv 0)) (@za _ _ _ _ _ zm (@za _ _ _ _ _ zm zg zi) zi) yY) zf))) Zj.nd rfl rfl) (@zk _ _ _ _ _ (@zV _ _ 4 _ _ _ _ Zj.nd rfl (Or.inl rfl) (zq (zU (fu:=fu) T) (hr.mono (by decide)) rfl T.f__law_draw.m T.f__law_draw.F.kp T.f__law_draw.b .nil zG (@za _ _ _ _ _ (pv 0) (@za _ _ _ _ _ (pv 1) (@za _ _ _ _ _ zm (@za _ _ _ _ _ (pv 2) zg zf) zi) zf) zf)) (by rfl) (by walk_at "q1")) (@zk _ _ _ _ _ (ya (ym (xR (zK (UW (K:=K) rfl) rfl T.n_sum PyProof.Rows.Boot.«sum» (@za _ _ _ _ _ (pv 3) zg zf)) zm)) (@zn _ _ _ (zck zm (zew (pv 3) (pv 4) zav))) zB) (@zk _ _ _ _ _ (ya (ym (xR (zq (zU (fu:=fu) T) (hr.mono (by decide)) rfl T.f__law_draw.m T.f__law_draw.F.kp T.f__law_draw.b .nil zG (@za _ _ _ _ _ (pv 0) (@za _ _ _ _ _ (pv 1) (@za _ _ _ _ _ zm (@za _ _ _ _ _ zm zg zi) zi) zf) zf)) zm)) (@zn _ _ _ (zck (yh zeA (yh zeB zm zm) zm) (zew (pv 3) (pv 4) zav))) (@zn _ _ _ (ya (PW.pt (Zd (ym (Wi (zK (yi (K:=K)) rfl T.n_len boot_len (@za _ _ _ _ _ (pv 0) zg zf)) zm)) (wD (ym (xR (zq (zU (fu:=fu) T) (hr.mono (by decide)) rfl T.f__law_draw.m T.f__law_draw.F.kp T.f__law_draw.b .nil zG (@za _ _ _ _ _ (pv 0) (@za _ _ _ _ _ (pv 1) (@za _ _ _ _ _ zm (@za _ _ _ _ _ zm zg zi) zi) zf) zf)) zm))))) (@zn _ _ _ (zck (yh yP zm (yh Wj (@zZ _ _ _ _ _ _ _ (yH (K:=K)) (pv 0) (yh Wj (pv 1) (zK (yi (K:=K)) rfl T.n_len boot_len (@za _ _ _ _ _ (pv 0) zg zf))) (fun _ _=>rfl)) (yh zeA (yh zeB zm zm) zm))) (zew (pv 3) (pv 4) zav))) zB))) (@zn _ _ _ (@zw _ _ _ _ (yU (xK (K:=K)) rfl T.n_tuple boot_tuple (@za _ _ _ _ _ (pv 3) zg zf)))))))),yy (n:=3) (k:=2) (b:=Zo fu) rfl (zo (Xz (xf (cap:=[none,some 0,some 1]) (Tc (zc 2)) zu xc (zr (zb (zc 1) (zb (zp yQ (zc 2) (zc 0)) (zb (zj _) (zb (zj _) zh))))))) (zo (zQ (zr (zb (zc 0) (zb (zc 1) (zb (zj _) (zb (zc 2) zh))))) zu) (zo (yb (yT (xS (yl ze0 (zb (zc 3) zh)) (zj _))) (zQ (zj _) (zaI (zc 3) (zc 4))) zC) (zo (yb (yT (xS (zr (zb (zc 0) (zb (zc 1) (zb (zj _) (zb (zj _) zh))))) (zj _))) (zQ (zp zeX (zp zeY (zj _) (zj _)) (zj _)) (zaI (zc 3) (zc 4))) (yb (Zf (yT (Ws (yl xg (zb (zc 0) zh)) (zj _))) (yT (xS (zr (zb (zc 0) (zb (zc 1) (zb (zj _) (zb (zj _) zh))))) (zj _)))) (zQ (zp yQ (zj _) (zp Wr (zp xy (zc 0) (zp Wr (zc 1) (yl xg (zb (zc 0) zh)))) (zp zeX (zp zeY (zj _) (zj _)) (zj _)))) (zaI (zc 3) (zc 4))) zC)) (zy (yl vY (zb (zc 3) zh))))))) h⟩)
noncomputable def YX (fu:Nat):TwS:=(zH (yD (zv (zJ fu) [(ze 0),(ze 1),(eC (.int 10177)),(eC (.int 8))]) (gN 3)) (zH (sIf (Xw (bE (eOp dLt (ze 3) (eC (.int 5)))) (bE (eOp dGt (eFn wx [(ze 2)]) (eC (.int 0))))) (zH (yD (eOp yE (ze 2) (zv (zJ fu) [(ze 0),(ze 1),(eC (.int 10181)),(eFn wx [(ze 2)])])) (gT 2 (wu (gN 4) (wu (gN 5) Ug)))) (zH (sIf (bE (eOp dLt (ze 3) (eC (.int 3)))) (zY (xj [(eC (.str "set")),(ze 4),(zv (vk fu) [(ze 0),(ze 1),(ze 2)])])) zO) (zY (xj [(eC (.str "draw")),(ze 4),(zv (Zp fu) [(ze 0),(ze 1),(ze 5)])])))) zO) (zH (sIf (bE (eOp ZL (ze 3) (eC (.int 5)))) (zY (xj [(eC (.str "pass"))])) zO) (zH (sIf (bE (eOp ZL (ze 3) (eC (.int 6)))) (zY (xj [(eC (.str "look")),(zv (ZF fu) [(ze 0),(ze 1),(ze 2)])])) zO) (zY (xj [(eC (.str "gain")),(zv (yL fu) [(ze 0),(eOp xX (ze 1) (eC (.int 1))),(ze 2)])]))))))
noncomputable def vT (fu:Nat):TwF:=ye 3 3 (YX fu)
theorem zbK (T:Tx K mg):yB P w K mg base (CXE P w) 4 T.f__law_plain.a T.f__law_plain.fd ["_law_script","_law_k","_law_boxes_here"] (sTw K 3 (vT fu)):=
 T.f__law_plain.F.okE vM (fun vs H Q E h=>h.1) (fun cdv A outer s H vs Q E hr h=>⟨_,(@zk _ _ _ _ _ (@zV _ _ 3 _ _ _ _ vM.nd rfl (Or.inl rfl) (zq (zU (fu:=fu) T) (hr.mono (by decide)) rfl T.f__law_draw.m T.f__law_draw.F.kp T.f__law_draw.b .nil zG (@za _ _ _ _ _ (pv 0) (@za _ _ _ _ _ (pv 1) (@za _ _ _ _ _ zm (@za _ _ _ _ _ zm zg zi) zi) zf) zf)) (by rfl) (by walk_at "q1")) (@zk _ _ _ _ _ (ya (PW.pt (Zd (ym (zfv (pv 3) zm)) (wD (ym (Wi (zK (yi (K:=K)) rfl T.n_len boot_len (@za _ _ _ _ _ (pv 2) zg zf)) zm))))) (@zk _ _ _ _ _ (zck (@zZ _ _ _ _ _ _ _ (zT (K:=K)) (pv 2) (zq (zU (fu:=fu) T) (hr.mono (by decide)) rfl T.f__law_draw.m T.f__law_draw.F.kp T.f__law_draw.b .nil zG (@za _ _ _ _ _ (pv 0) (@za _ _ _ _ _ (pv 1) (@za _ _ _ _ _ zm (@za _ _ _ _ _ (zK (yi (K:=K)) rfl T.n_len boot_len (@za _ _ _ _ _ (pv 2) zg zf)) zg yc) zi) zf) zf)) (fun _ _=>rfl)) (WV (K:=K) (n:=2) rfl (xO (yk (i:=4) vM.nd rfl (Or.inl rfl)) (xO (yk (i:=5) vM.nd rfl (Or.inl rfl)) WQ)))) (@zk _ _ _ _ _ (ya (ym (zfv (pv 3) zm)) (@zn _ _ _ (@zw _ _ _ _ (@yv _ _ _ _ _ (@za _ _ _ _ _ zA (@za _ _ _ _ _ (pv 4) (@za _ _ _ _ _ (zq (UG (fu:=fu) T) (hr.mono (by decide)) rfl T.f__law_reckoning.m T.f__law_reckoning.F.kp T.f__law_reckoning.b .nil zG (@za _ _ _ _ _ (pv 0) (@za _ _ _ _ _ (pv 1) (@za _ _ _ _ _ (pv 2) zg zf) zf) zf)) zg yc) zf) zi)))) zB) (@zn _ _ _ (@zw _ _ _ _ (@yv _ _ _ _ _ (@za _ _ _ _ _ zA (@za _ _ _ _ _ (pv 4) (@za _ _ _ _ _ (zq (zaa (fu:=fu) T) (hr.mono (by decide)) rfl T.f__law_weights.m T.f__law_weights.F.kp T.f__law_weights.b .nil zG (@za _ _ _ _ _ (pv 0) (@za _ _ _ _ _ (pv 1) (@za _ _ _ _ _ (pv 5) zg zf) zf) zf)) zg yc) zf) zi)))))) zB) (@zk _ _ _ _ _ (ya (ym (xR (pv 3) zm)) (@zn _ _ _ (@zw _ _ _ _ (@yv _ _ _ _ _ (@za _ _ _ _ _ zA zg zi)))) zB) (@zk _ _ _ _ _ (ya (ym (xR (pv 3) zm)) (@zn _ _ _ (@zw _ _ _ _ (@yv _ _ _ _ _ (@za _ _ _ _ _ zA (@za _ _ _ _ _ (zq (zc5 (fu:=fu) T) (hr.mono (by decide)) rfl T.f__law_test.m T.f__law_test.F.kp T.f__law_test.b .nil zG (@za _ _ _ _ _ (pv 0) (@za _ _ _ _ _ (pv 1) (@za _ _ _ _ _ (pv 2) zg zf) zf) zf)) zg yc) zi)))) zB) (@zn _ _ _ (@zw _ _ _ _ (@yv _ _ _ _ _ (@za _ _ _ _ _ zA (@za _ _ _ _ _ (zq (xu (fu:=fu) T) (hr.mono (by decide)) rfl T.f__law_operand.m T.f__law_operand.F.kp T.f__law_operand.b .nil zG (@za _ _ _ _ _ (pv 0) (@za _ _ _ _ _ (yh yP (pv 1) zm) (@za _ _ _ _ _ (pv 2) zg zf) yY) zf)) zg yc) zi)))))))),yy (n:=3) (k:=3) (b:=YX fu) rfl (zo (zQ (zr (zb (zc 0) (zb (zc 1) (zb (zj _) (zb (zj _) zh))))) zu) (zo (yb (Zf (yT (zfM (zc 3) (zj _))) (yT (Ws (yl xg (zb (zc 2) zh)) (zj _)))) (zo (zQ (zp yg (zc 2) (zr (zb (zc 0) (zb (zc 1) (zb (zj _) (zb (yl xg (zb (zc 2) zh)) zh)))))) (Ta (xP zu (xP zu WX)))) (zo (yb (yT (zfM (zc 3) (zj _))) (zy (yw (zb (zx _) (zb (zc 4) (zb (zr (zb (zc 0) (zb (zc 1) (zb (zc 2) zh)))) zh))))) zC) (zy (yw (zb (zx _) (zb (zc 4) (zb (zr (zb (zc 0) (zb (zc 1) (zb (zc 5) zh)))) zh))))))) zC) (zo (yb (yT (xS (zc 3) (zj _))) (zy (yw (zb (zx _) zh))) zC) (zo (yb (yT (xS (zc 3) (zj _))) (zy (yw (zb (zx _) (zb (zr (zb (zc 0) (zb (zc 1) (zb (zc 2) zh)))) zh)))) zC) (zy (yw (zb (zx _) (zb (zr (zb (zc 0) (zb (zp yQ (zc 1) (zj _)) (zb (zc 2) zh)))) zh)))))))) h⟩)
noncomputable def YY (fu:Nat):TwS:=(zY (zbu Uv (eC (.str " ")) [(xl [none] (iT (ze 0)) (gN 0) xq (eFn zbv [(ze 0)]))]))
noncomputable def wA (fu:Nat):TwF:=ye 1 0 (YY fu)
theorem Vy (T:Tx K mg):yB P w K mg base (CXE P w) 1 T.f__law_words.a T.f__law_words.fd ["_law_some"] (sTw K 1 (wA fu)):=
 T.f__law_words.F.okE zbB (fun vs H Q E h=>h.1) (fun cdv A outer s H vs Q E hr h=>⟨_,(@zn _ _ _ (@zw _ _ _ _ (vW PySem.F.plainAttrs_str PySem.F.slot_str_join PySem.F.type_str_join zai zA (za (xF (N':=["_law_one"]) rfl (blk (osc:=zt Zx) rfl (by decide+kernel)) (yO xb) (xG (K:=K) (pv 0)) (yn rfl) (fun C s₀ H₀ fp=>yk (i:=0) (show (["_law_one"]:List Str).Nodup from by decide+kernel) rfl (Or.inl rfl)) (fun C s₀ H₀ fp=>xa) (fun C s₀ H₀ fp=>(yU Vf rfl T.n_str PyProof.Rows.Boot.«str» (@za _ _ _ _ _ (pv 0) zg zf)))) zg)))),yy (n:=1) (k:=0) (b:=YY fu) rfl (zy (Tm zaj (zx _) (zb (xf (cap:=[none]) (wv (zc 0)) zu xc (yl zak (zb (zc 0) zh))) zh))) h⟩)
noncomputable def WM (fu:Nat):TwS:=(zH (sIf (bE (eOp (yV false) (eOp yE (ze 0) (eC (.int 0))) (eC (.str "pass")))) (zY (eC (.str "pass"))) zO) (zH (sIf (bE (eOp (yV false) (eOp yE (ze 0) (eC (.int 0))) (eC (.str "gain")))) (zY (eOp ww (eC (.str "gain ")) (eFn zbv [(eOp yE (ze 0) (eC (.int 1)))]))) zO) (zH (sIf (bE (eOp (yV false) (eOp yE (ze 0) (eC (.int 0))) (eC (.str "look")))) (zY (eOp ww (eC (.str "look ")) (zv (wA fu) [(eOp yE (ze 0) (eC (.int 1)))]))) zO) (zY (eOp ww (eOp ww (eOp ww (eOp ww (eOp yE (ze 0) (eC (.int 0))) (eC (.str " "))) (eOp yE (ze 0) (eC (.int 1)))) (eC (.str " "))) (zv (wA fu) [(eOp yE (ze 0) (eC (.int 2)))]))))))
noncomputable def Yv (fu:Nat):TwF:=ye 1 0 (WM fu)
theorem zeb (T:Tx K mg):yB P w K mg base (CXE P w) 2 T.f__law_row.a T.f__law_row.fd ["_law_deed"] (sTw K 1 (Yv fu)):=
 T.f__law_row.F.okE zd8 (fun vs H Q E h=>h.1) (fun cdv A outer s H vs Q E hr h=>⟨_,(@zk _ _ _ _ _ (ya (yf xp (@zZ _ _ _ _ _ _ _ (zT (K:=K)) (pv 0) zm (fun _ _=>rfl)) zA (by rfl)) (@zn _ _ _ (@zw _ _ _ _ zA)) zB) (@zk _ _ _ _ _ (ya (yf xp (@zZ _ _ _ _ _ _ _ (zT (K:=K)) (pv 0) zm (fun _ _=>rfl)) zA (by rfl)) (@zn _ _ _ (@zw _ _ _ _ (yh xk zA (yU Vf rfl T.n_str PyProof.Rows.Boot.«str» (@za _ _ _ _ _ (@zZ _ _ _ _ _ _ _ (zT (K:=K)) (pv 0) zm (fun _ _=>rfl)) zg zF))))) zB) (@zk _ _ _ _ _ (ya (yf xp (@zZ _ _ _ _ _ _ _ (zT (K:=K)) (pv 0) zm (fun _ _=>rfl)) zA (by rfl)) (@zn _ _ _ (@zw _ _ _ _ (yh xk zA (zq (Vy (fu:=fu) T) (hr.mono (by decide)) rfl T.f__law_words.m T.f__law_words.F.kp T.f__law_words.b .nil zG (@za _ _ _ _ _ (@zZ _ _ _ _ _ _ _ (zT (K:=K)) (pv 0) zm (fun _ _=>rfl)) zg zF))))) zB) (@zn _ _ _ (@zw _ _ _ _ (yh xk (yh xk (yh xk (yh xk (@zZ _ _ _ _ _ _ _ (zT (K:=K)) (pv 0) zm (fun _ _=>rfl)) zA) (@zZ _ _ _ _ _ _ _ (zT (K:=K)) (pv 0) zm (fun _ _=>rfl))) zA) (zq (Vy (fu:=fu) T) (hr.mono (by decide)) rfl T.f__law_words.m T.f__law_words.F.kp T.f__law_words.b .nil zG (@za _ _ _ _ _ (@zZ _ _ _ _ _ _ _ (zT (K:=K)) (pv 0) zm (fun _ _=>rfl)) zg zF)))))))),yy (n:=1) (k:=0) (b:=WM fu) rfl (zo (yb (yd (zp yR (zp yg (zc 0) (zj _)) (zx _))) (zy (zx _)) zC) (zo (yb (yd (zp yR (zp yg (zc 0) (zj _)) (zx _))) (zy (zp wW (zx _) (yl zak (zb (zp yg (zc 0) (zj _)) zh)))) zC) (zo (yb (yd (zp yR (zp yg (zc 0) (zj _)) (zx _))) (zy (zp wW (zx _) (zr (zb (zp yg (zc 0) (zj _)) zh)))) zC) (zy (zp wW (zp wW (zp wW (zp wW (zp yg (zc 0) (zj _)) (zx _)) (zp yg (zc 0) (zj _))) (zx _)) (zr (zb (zp yg (zc 0) (zj _)) zh))))))) h⟩)
noncomputable def zfd (fu:Nat):TwS:=(zH (yD (zv (YW fu) [(ze 0),(eOp xX (eC (.int 1)) (zv (zJ fu) [(ze 0),(eC (.int 7)),(eC (.int 10093)),(eC (.int 9))])),(eC (.int 1000))]) (gN 1)) (zH (sIf (bE (eOp ZL (zv (zJ fu) [(ze 0),(eC (.int 8)),(eC (.int 10253)),(eC (.int 4))]) (eC (.int 0)))) (zH (yD (TL [(eC (.str "or")),(eC (.str "end")),(eC (.str "set")),(eC (.str "box")),(eC (.str "if")),(eC (.str "else")),(eC (.str "pass")),(eC (.str "draw")),(eC (.str "times"))]) (gN 2)) (yD (eFn Zg [(xl [none,none,some 2] (zi7 (ze 1)) (gT 2 (wu (gN 0) (wu (gN 1) Ug))) xq (xj [(eOp vp (ze 2) (ze 0)),(eOp yE (ze 1) (eC (.int 1)))]))]) (gN 1))) zO) (zH (yD (xl [none,none] (iT (ze 1)) (gT 2 (wu (gN 0) (wu (gN 1) Ug))) xq (eOp ww (eOp ww (eOp ww (eC (.str "box ")) (ze 0)) (eC (.str " "))) (eFn zbv [(ze 1)]))) (gN 3)) (zH (yD (eFn Zg [(xl [none,some 0,some 1] (zly (eC (.int 0)) (eFn zkZ [(eC (.int 60)),(eFn wx [(ze 0)])]) (eC (.int 5))) (gN 0) xq (zv (vT fu) [(ze 1),(ze 0),(ze 2)]))]) (gN 4)) (zH (yD (eOp zb4 (ze 3) (xl [none] (iT (ze 4)) (gN 0) xq (zv (Yv fu) [(ze 0)]))) (gN 3)) (zH (yD (zbu Uv (eC (.str "\n")) [(ze 3)]) (gN 5)) (zH (yD (zv (zba fu) [(xj [(ze 1),(ze 4)])]) (gN 6)) (zH (sIf (bOr (YB (bE (eUn (zdM "str") (ze 6)))) (bE (eOp (yV true) (ze 6) (ze 5)))) (zY (eC (.bl false))) zO) (zY (eOp (yV false) (eFn VH [(zv (zc3 fu) [(ze 5)])]) (eFn VH [(xj [(ze 1),(ze 4)])])))))))))))
noncomputable def zfe (fu:Nat):TwF:=ye 1 6 (zfd fu)
theorem zjB (T:Tx K mg):yB P w K mg base (CXE P w) 49 T.f_law.a T.f_law.fd ["_law_script"] (sTw K 1 (zfe fu)):=
 T.f_law.F.okE XN (fun vs H Q E h=>h.1) (fun cdv A outer s H vs Q E hr h=>⟨_,(@zk _ _ _ _ _ (@zV _ _ 1 _ _ _ _ XN.nd rfl (Or.inr rfl) (zq (zbJ (fu:=fu) T) (hr.mono (by decide)) rfl T.f__law_boxes.m T.f__law_boxes.F.kp T.f__law_boxes.b .nil zG (@za _ _ _ _ _ (pv 0) (@za _ _ _ _ _ (yh yP zm (zq (zU (fu:=fu) T) (hr.mono (by decide)) rfl T.f__law_draw.m T.f__law_draw.F.kp T.f__law_draw.b .nil zG (@za _ _ _ _ _ (pv 0) (@za _ _ _ _ _ zm (@za _ _ _ _ _ zm (@za _ _ _ _ _ zm zg zi) zi) zi) zf))) (@za _ _ _ _ _ zm zg zi) yY) zf)) (by rfl) (by walk_at "q1")) (@zk _ _ _ _ _ (ya (ym (xR (zq (zU (fu:=fu) T) (hr.mono (by decide)) rfl T.f__law_draw.m T.f__law_draw.F.kp T.f__law_draw.b .nil zG (@za _ _ _ _ _ (pv 0) (@za _ _ _ _ _ zm (@za _ _ _ _ _ zm (@za _ _ _ _ _ zm zg zi) zi) zi) zf)) zm)) (@zk _ _ _ _ _ (@zV _ _ 2 _ _ _ _ XN.nd rfl (Or.inr rfl) (@Yy _ _ _ _ (@za _ _ _ _ _ zA (@za _ _ _ _ _ zA (@za _ _ _ _ _ zA (@za _ _ _ _ _ zA (@za _ _ _ _ _ zA (@za _ _ _ _ _ zA (@za _ _ _ _ _ zA (@za _ _ _ _ _ zA (@za _ _ _ _ _ zA zg zi) zi) zi) zi) zi) zi) zi) zi) zi)) (by rfl) (by walk_at "q1")) (@zn _ _ _ (@zV _ _ 1 _ _ _ _ XN.nd rfl (Or.inr rfl) (yU (xK (K:=K)) rfl T.n_tuple boot_tuple (za (xF (N':=["_law_k","_law_box","_law_names"]) rfl (blk (osc:=zt zaX) rfl (by decide+kernel)) (yO (yO (Ym (i:=2) rfl rfl xb))) (zdF (K:=K) rfl T.n_enumerate (@za _ _ _ _ _ (pv 1) zg zf)) (zaw (vz (yn rfl) (vz (yn rfl) UU vA) vA)) (fun C s₀ H₀ fp=>WV (K:=K) (n:=2) rfl (xO (yk (i:=0) (show (["_law_k","_law_box","_law_names"]:List Str).Nodup from by decide+kernel) rfl (Or.inl rfl)) (xO (yk (i:=1) (show (["_law_k","_law_box","_law_names"]:List Str).Nodup from by decide+kernel) rfl (Or.inl rfl)) WQ))) (fun C s₀ H₀ fp=>xa) (fun C s₀ H₀ fp=>(@yv _ _ _ _ _ (@za _ _ _ _ _ (@zZ _ _ _ _ _ _ _ (yH (K:=K)) (pv 2) (pv 0) (fun _ _=>rfl)) (@za _ _ _ _ _ (@zZ _ _ _ _ _ _ _ (zT (K:=K)) (pv 1) zm (fun _ _=>rfl)) zg zF) zF)))) zg)) (by rfl) (by walk_at "q1")))) zB) (@zk _ _ _ _ _ (Xt (i:=3) (N':=["_law_name_here","_law_size"]) rfl (blk (osc:=zt zaX) rfl (by decide+kernel)) (yO (yO xb)) (xG (K:=K) (pv 1)) (zaw (vz (yn rfl) (vz (yn rfl) UU vA) vA)) (fun C s₀ H₀ fp=>WV (K:=K) (n:=2) rfl (xO (yk (i:=0) (show (["_law_name_here","_law_size"]:List Str).Nodup from by decide+kernel) rfl (Or.inl rfl)) (xO (yk (i:=1) (show (["_law_name_here","_law_size"]:List Str).Nodup from by decide+kernel) rfl (Or.inl rfl)) WQ))) (fun C s₀ H₀ fp=>xa) (fun C s₀ H₀ fp=>(yh xk (yh xk (yh xk zA (pv 0)) zA) (yU Vf rfl T.n_str PyProof.Rows.Boot.«str» (@za _ _ _ _ _ (pv 1) zg zf)))) XN.nd rfl rfl) (@zk _ _ _ _ _ (@zV _ _ 4 _ _ _ _ XN.nd rfl (Or.inl rfl) (yU (xK (K:=K)) rfl T.n_tuple boot_tuple (za (xF (N':=["_law_k","_law_script","_law_boxes_here"]) rfl (blk (osc:=zt zaX) rfl (by decide+kernel)) (yO (Ym (i:=0) rfl rfl (Ym (i:=1) rfl rfl xb))) (zgI rfl T.n_range (@za _ _ _ _ _ zm (@za _ _ _ _ _ (zK (zgl rfl) rfl T.n_min boot_min (@za _ _ _ _ _ zm (@za _ _ _ _ _ (zK (yi (K:=K)) rfl T.n_len boot_len (@za _ _ _ _ _ (pv 0) zg zf)) zg yc) zi)) (@za _ _ _ _ _ zm zg zi) yc) zi)) (yn rfl) (fun C s₀ H₀ fp=>yk (i:=0) (show (["_law_k","_law_script","_law_boxes_here"]:List Str).Nodup from by decide+kernel) rfl (Or.inl rfl)) (fun C s₀ H₀ fp=>xa) (fun C s₀ H₀ fp=>(zq (zbK (fu:=fu) T) (hr.mono (by decide)) rfl T.f__law_plain.m T.f__law_plain.F.kp T.f__law_plain.b .nil Wd (@za _ _ _ _ _ (pv 1) (@za _ _ _ _ _ (pv 0) (@za _ _ _ _ _ (pv 2) zg zf) zf) zf)))) zg)) (by rfl) (by walk_at "q1")) (@zk _ _ _ _ _ (@zV _ _ 3 _ _ _ _ XN.nd rfl (Or.inl rfl) (yh (zfK (K:=K)) (pv 3) (xF (N':=["_law_deed"]) rfl (blk (osc:=zt zaX) rfl (by decide+kernel)) (yO xb) (xG (K:=K) (pv 4)) (yn rfl) (fun C s₀ H₀ fp=>yk (i:=0) (show (["_law_deed"]:List Str).Nodup from by decide+kernel) rfl (Or.inl rfl)) (fun C s₀ H₀ fp=>xa) (fun C s₀ H₀ fp=>(zq (zeb (fu:=fu) T) (hr.mono (by decide)) rfl T.f__law_row.m T.f__law_row.F.kp T.f__law_row.b .nil Wd (@za _ _ _ _ _ (pv 0) zg zf))))) (by rfl) (by walk_at "q1")) (@zk _ _ _ _ _ (@zV _ _ 5 _ _ _ _ XN.nd rfl (Or.inl rfl) (vW PySem.F.plainAttrs_str PySem.F.slot_str_join PySem.F.type_str_join zai zA (@za _ _ _ _ _ (pv 3) zg zf)) (by rfl) (by walk_at "q1")) (@zk _ _ _ _ _ (@zV _ _ 6 _ _ _ _ XN.nd rfl (Or.inl rfl) (zq (zic (fu:=fu) T) (hr.mono (by decide)) rfl T.f_shown.m T.f_shown.F.kp T.f_shown.b .nil zG (@za _ _ _ _ _ (@yv _ _ _ _ _ (@za _ _ _ _ _ (pv 1) (@za _ _ _ _ _ (pv 4) zg zf) zf)) zg Ub)) (by rfl) (by walk_at "q1")) (@zk _ _ _ _ _ (ya (PW.pt (VT (wS (wR (zK (WU (K:=K)) rfl T.n_isinstance boot_isinstance (za (pv 6) (za (zab (v:= .ty "str") rfl T.n_str boot_str rfl) zg))))) (Xn (yf zhe (pv 6) (pv 5) (by rfl))))) (@zn _ _ _ (@zw _ _ _ _ Wc)) zB) (@zn _ _ _ (@zw _ _ _ _ (zac xp (zK (zaW (K:=K) hr) rfl T.n_repr boot_repr (@za _ _ _ _ _ (zq (zjA (fu:=fu) T) (hr.mono (by decide)) rfl T.f_read.m T.f_read.F.kp T.f_read.b .nil zG (@za _ _ _ _ _ (pv 5) zg zf)) zg yc)) (zK (zaW (K:=K) hr) rfl T.n_repr boot_repr (@za _ _ _ _ _ (@yv _ _ _ _ _ (@za _ _ _ _ _ (pv 1) (@za _ _ _ _ _ (pv 4) zg zf) zf)) zg Ub)) (by rfl)))))))))))),yy (n:=1) (k:=6) (b:=zfd fu) rfl (zo (zQ (zr (zb (zc 0) (zb (zp yQ (zj _) (zr (zb (zc 0) (zb (zj _) (zb (zj _) (zb (zj _) zh)))))) (zb (zj _) zh)))) zu) (zo (yb (yT (xS (zr (zb (zc 0) (zb (zj _) (zb (zj _) (zb (zj _) zh))))) (zj _))) (zo (zQ (YC (zb (zx _) (zb (zx _) (zb (zx _) (zb (zx _) (zb (zx _) (zb (zx _) (zb (zx _) (zb (zx _) (zb (zx _) zh)))))))))) zu) (zQ (yl vY (zb (xf (cap:=[none,none,some 2]) (zdO (zc 1)) (Ta (xP zu (xP zu WX))) xc (yw (zb (zp xy (zc 2) (zc 0)) (zb (zp yg (zc 1) (zj _)) zh)))) zh)) zu)) zC) (zo (Xz (xf (cap:=[none,none]) (wv (zc 1)) (Ta (xP zu (xP zu WX))) xc (zp wW (zp wW (zp wW (zx _) (zc 0)) (zx _)) (yl zak (zb (zc 1) zh))))) (zo (zQ (yl vY (zb (xf (cap:=[none,some 0,some 1]) (zfa (zj _) (yl zk0 (zb (zj _) (zb (yl xg (zb (zc 0) zh)) zh))) (zj _)) zu xc (zr (zb (zc 1) (zb (zc 0) (zb (zc 2) zh))))) zh)) zu) (zo (zQ (zp zfO (zc 3) (xf (cap:=[none]) (wv (zc 4)) zu xc (zr (zb (zc 0) zh)))) zu) (zo (zQ (Tm zaj (zx _) (zb (zc 3) zh)) zu) (zo (zQ (zr (zb (yw (zb (zc 1) (zb (zc 4) zh))) zh)) zu) (zo (yb (Ud (wV (yT (zcG zfT (zc 6)))) (yd (zp ze1 (zc 6) (zc 5)))) (zy (We _)) zC) (zy (zp yR (yl zd4 (zb (zr (zb (zc 5) zh)) zh)) (yl zd4 (zb (yw (zb (zc 1) (zb (zc 4) zh))) zh)))))))))))) h⟩)
end

section
open Mth
noncomputable def Big (fu:Nat):Prop:=2^9000≤fu
theorem Big.le {fu:Nat} (h:Big fu):1000000≤fu:=Nat.le_trans (show 1000000≤2^20 by decide) (Nat.le_trans (Nat.pow_le_pow_right (by decide) (by decide)) h)
local macro_rules | `(tactic| walk_at "w1") => `(tactic| first
 | with_reducible apply znh | ((with_reducible apply zk4); exact rfl) | with_reducible apply zk6 | with_reducible apply zk9 | with_reducible apply zI | with_reducible apply zje
 | with_reducible apply zE | ((with_reducible apply zlb); try dsimp only [List.set]) | with_reducible apply zjd | with_reducible apply ZM | with_reducible apply wx_par
 | with_reducible apply zmD | with_reducible apply zmE | with_reducible apply vt | with_reducible apply zmF | with_reducible apply vC
 | with_reducible apply zja | with_reducible apply zk7 | with_reducible apply zk8 | with_reducible apply zmG | with_reducible apply zjb
 | with_reducible apply zhJ | with_reducible apply zmH | with_reducible apply wx_dict0
 | with_reducible apply zlc | with_reducible apply zld | with_reducible apply zle | with_reducible apply zmI | with_reducible apply zmJ | with_reducible apply zmK | with_reducible apply ox_ge | with_reducible apply zlf | with_reducible apply zlg
 | with_reducible apply zlj | with_reducible apply zlk | with_reducible apply zll | with_reducible apply zlm
 | ((with_reducible apply zli); exact ⟨by decide, by decide, by decide⟩)
 | ((with_reducible apply zlh); first | exact .inl (by decide) | exact .inr (by decide))
 | with_reducible refine Exists.intro _ (And.intro rfl ?_))
local macro_rules | `(tactic| walk_at "w") => `(tactic| repeat walk_at "w1")
local macro_rules | `(tactic| walk_at "wr") => `(tactic| (refine VE rfl rfl ?_; dsimp only [List.map, HAppend.hAppend, Append.append, List.append, List.replicate]))
section
variable {fu:Nat} {S S' S2:Sto} {x y:Xv}
theorem xh {c:Prop} [Decidable c] {A B:Prop} (h:c→A) (g:¬c→B):(decide c=true→A)∧(decide c=false→B):=⟨fun e=>h (of_decide_eq_true e),fun e=>g (of_decide_eq_false e)⟩
noncomputable def Kp (w:Nat→Prop) (S S':Sto):Prop:=S.length≤S'.length∧∀(n:Nat) c,S[n]? =some c→¬w n→S'[n]? =some c
theorem Kp.refl (w:Nat→Prop):Kp w S S:=⟨Nat.le_refl _,fun _ _ e _=>e⟩
theorem Kp.trans {w:Nat→Prop} (a:Kp w S S') (b:Kp w S' S2):Kp w S S2:=⟨Nat.le_trans a.1 b.1,fun n c e z=>b.2 n c (a.2 n c e z) z⟩
theorem Kp.pre {w:Nat→Prop} (p:S<+:S'):Kp w S S':=⟨p.length_le,fun n c e _=>by
 obtain ⟨T,rfl⟩:=p
 rw [List.getElem?_append_left (List.getElem?_eq_some_iff.1 e).1]
 exact e⟩
theorem Kp.app {w:Nat→Prop} {T:Sto} (a:Kp w S S'):Kp w S (S'++T):=a.trans (Kp.pre (List.prefix_append _ _))
theorem Kp.set {w:Nat→Prop} {n:Nat} {c:Ce} (a:Kp w S S') (h:w n∨S.length≤n):Kp w S (S'.set n c):=⟨by simpa using a.1,fun m d e z=>by
 rw [List.getElem?_set]
 have hm:=(List.getElem?_eq_some_iff.1 e).1
 rw [if_neg fun q=>by
  subst q
  rcases h with h|h
  ·exact z h
  ·omega]
 exact a.2 m d e z⟩
theorem yJ {c:Ce}:(S++[c])[S.length]? =some c:=by simp
theorem vH {n:Nat} {c c':Ce} (h:S[n]? =some c):(S.set n c')[n]? =some c':=by rw [List.getElem?_set,if_pos rfl,if_pos (List.getElem?_eq_some_iff.1 h).1]
theorem zf6 {n:Nat} (h:n≤100):n<sizeLine:=Nat.lt_of_le_of_lt h (by decide)
noncomputable abbrev Kn (S S':Sto):Prop:=Kp (fun _=>False) S S'
theorem Kn.at {n:Nat} {c:Ce} (k:Kn S S') (h:S[n]? =some c):S'[n]? =some c:=k.2 n c h (fun z=>z)
theorem Kn.lst {n:Nat} {l:List Xv} (k:Kn S S') (h:yx S (.ref n)=some l):yx S' (.ref n)=some l:=by
 unfold yx at h ⊢
 dsimp only at h ⊢
 cases e:S[n]? with
 |none=>rw [e] at h;cases h
 |some c=>rw [e] at h;rw [k.at e];exact h
noncomputable def Sc (ns:List Int) (S:Sto):Prop:=yx S (.ref 0)=some (ns.map Xv.int)
theorem Sc.keep {ns:List Int} (h:Sc ns S) (k:Kn S S'):Sc ns S':=Kn.lst k h
theorem zlB {ns:List Int} {k p m:Int} (hs:Sc ns S) (hk:0≤k∧k≤1000) (hp:0<p) (hm:0<m):W (zJ fu [.ref 0,.int k,.int p,.int m] S) fun v S'=>∃c,v= .int c∧0≤c∧c<m∧c=(((if 0<ns.length then ns.getD (k % ns.length).toNat 0 else 0)+k*k)*48271+11) % p % m∧S=S':=by
 have hb:intBits k+intBits k≤134217728:=by
  have:intBits k≤10:=PySem.intBits_le_iff.mpr (by omega)
  omega
 walk_at "wr";unfold XX;walk_at "w"
 refine Zh (fun ρ S2=>ρ=[some (.ref 0),some (.int k),some (.int p),some (.int m),some (.int (if 0<ns.length then ns.getD (k % ns.length).toNat 0 else 0))]∧S2=S) (zL ?_) ?_
 ·walk_at "w"
  refine xL hs ?_
  walk_at "w"
  rw [List.length_map]
  refine xh (fun h=> ?_) (fun h=> ?_)
  ·have h:0<ns.length:=by omega
   walk_at "w"
   refine xL hs ?_
   walk_at "w"
   rw [List.length_map]
   refine Wu (by omega) ?_
   have h1:=Int.emod_nonneg k (show (ns.length:Int)≠0 by omega)
   have h2:=Int.emod_lt_of_pos k (show (0:Int)<ns.length by omega)
   have h3:(k % (ns.length:Int)).toNat<ns.length:=by omega
   refine xz hs (Zi h1 (by rw [List.getElem?_map,List.getElem?_eq_getElem h3];rfl)) ?_
   walk_at "w"
   refine ⟨?_,rfl⟩
   rw [if_pos h,List.getD_eq_getElem?_getD,List.getElem?_eq_getElem h3]
   rfl
  ·walk_at "w"
   refine ⟨?_,rfl⟩
   rw [if_neg (by omega)]
 ·rintro ρ S2 ⟨rfl,rfl⟩
  walk_at "w"
  refine Va hb ?_
  walk_at "w"
  refine Wu hp ?_
  walk_at "w"
  refine Wu hm ?_
  exact ⟨_,rfl,Int.emod_nonneg _ (by omega),Int.emod_lt_of_pos _ hm,rfl,rfl⟩
end
section
variable {fu:Nat} {S S' S2:Sto} {x y:Xv} {ns:List Int}
noncomputable def vm (ns:List Int) (k p m:Int):Int:=(((if 0<ns.length then ns.getD (k % ns.length).toNat 0 else 0)+k*k)*48271+11) % p % m
theorem wg {k p m:Int} (hs:Sc ns S) (hk:0≤k∧k≤1000) (hp:0<p) (hm:0<m):W (zJ fu [.ref 0,.int k,.int p,.int m] S) fun v S'=>v= .int (vm ns k p m)∧0≤vm ns k p m∧vm ns k p m<m∧S=S':=by
 refine (zlB hs hk hp hm).imp ?_
 rintro _ _ ⟨c,rfl,h1,h2,rfl,rfl⟩
 exact ⟨rfl,h1,h2,rfl⟩
theorem vn {P:Xv→Sto→Prop} {a b:Str} (h:a.length+b.length≤sizeLine) (k:P (.str (a++b)) S):WO (ww (.str a) (.str b) S) P:= .of (by unfold ww;exact if_pos h) k
theorem zlC {P:Xv→Sto→Prop} {a:Str} {lo hi:Option Int} (h:a.length≤sizeLine) (k:P (.str (Txt.slice a lo hi)) S):WO (zdH (.str a) lo hi S) P:= .of (by unfold zdH;exact if_pos h) k
theorem yF {n:Nat} (h:n≤100):n≤sizeLine:=Nat.le_of_lt (zf6 h)
theorem zlD {v:Int} (h0:0≤v) (h1:v<26):zaD (.str "abcdefghijklmnopqrstuvwxyz") (.int v) S=some (.str ⟨#[97+v.toNat]⟩,S):=by
 have all:∀n:Fin 26,(Str.ofString "abcdefghijklmnopqrstuvwxyz").cps.toList[n.1]? =some (97+n.1):=by decide
 obtain ⟨n,rfl⟩:∃n:Nat,v=n:=⟨v.toNat,by omega⟩
 have e:=all ⟨n,by omega⟩
 unfold zaD zkS
 dsimp only
 rw [if_pos (by decide),Zi (by omega) (by rw [Int.toNat_natCast];exact e)]
 rfl
noncomputable def AZ (z:Str):Prop:=∀c∈z.cps.toList,97≤c∧c≤122
theorem zc6 (a b:Str):(a++b).cps.toList=a.cps.toList++b.cps.toList:=by
 show (a.cps++b.cps).toList=_
 simp
theorem AZ.app {a b:Str} (h:AZ a) (g:AZ b):AZ (a++b):=fun c hc=>by
 rw [zc6,List.mem_append] at hc
 exact hc.elim (h c) (g c)
theorem AZ.one {n:Nat} (h:n<26):AZ ⟨#[97+n]⟩:=fun c hc=>by
 have:c=97+n:=by simpa using hc
 omega
theorem vo (z:Str):z.cps.toList.length=z.length:=by simp [Str.length]
noncomputable def sg (z:Str) (n:Nat):Option Nat:=z.cps.toList[n]?
theorem zkf {a b:Str} {n:Nat} (h:n<a.length):sg (a++b) n=sg a n:=by
 unfold sg
 rw [zc6,List.getElem?_append_left (by rw [vo];exact h)]
theorem zlE {a:Str} {c:Nat}:sg (a++⟨#[c]⟩) a.length=some c:=by
 unfold sg
 rw [zc6,List.getElem?_append_right (by rw [vo];exact Nat.le_refl _),vo,Nat.sub_self]
 rfl
noncomputable def ltr (ns:List Int) (k:Int):Nat:=97+((k+vm ns 4 10069 26) % 26).toNat
structure Nm (ns:List Int) (k:Int) (a:Nat) (z:Str):Prop where
 le:z.length≤8
 lt:a<z.length
 az:AZ z
 at_:sg z a=some (ltr ns k)
theorem zlF {k:Int} {a:Nat} (hs:Sc ns S) (hk:0≤k∧k<10) (ha:a<8):W (XZ fu [.ref 0,.int k,.int (a:Int)] S) fun v S'=>∃z,v= .str z∧Nm ns k a z∧S=S':=by
 walk_at "wr";unfold XY;walk_at "w"
 refine Zh (fun ρ S2=>∃n:Nat,ρ=[some (.ref 0),some (.int k),some (.int (a:Int)),some (.str "abcdefghijklmnopqrstuvwxyz"),some (.int (n:Int)),none,none,none]∧a<n∧n≤8∧S2=S) (zL ?_) ?_
 ·walk_at "w"
  refine (wg hs (by decide) (by decide) (by decide)).imp ?_
  rintro _ _ ⟨rfl,_,_,rfl⟩
  walk_at "w"
  refine xh (fun h=> ?_) (fun h=> ?_)
  ·walk_at "w"
   refine (wg hs ⟨by omega,by omega⟩ (by decide) (by omega)).imp ?_
   rintro _ _ ⟨rfl,h0,h1,rfl⟩
   walk_at "w"
   obtain ⟨c,hc⟩:∃c:Nat,vm ns (20+k) 10037 (8-(a:Int))=c:=⟨(vm ns (20+k) 10037 (8-(a:Int))).toNat,by omega⟩
   rw [hc] at h0 h1 ⊢
   exact ⟨a+1+c,by rw [show ((a+1+c:Nat):Int)=(a:Int)+1+c by omega],by omega,by omega,rfl⟩
  ·walk_at "w"
   exact ⟨Nat.lt_succ_self a,ha,rfl⟩
 ·rintro ρ S2 ⟨n,rfl,h1,h8,rfl⟩
  walk_at "w"
  refine Th (ze3 ?_)
  walk_at "w"
  refine ⟨⟨by omega,by omega⟩,_,rfl,?_⟩
  refine WZ (fun i ρ S3=>∃(z:Str) (a6 a7:Option Xv),ρ=[some (.ref 0),some (.int k),some (.int (a:Int)),some (.str "abcdefghijklmnopqrstuvwxyz"),some (.int (n:Int)),some (.str z),a6,a7]∧z.length=i∧AZ z∧(a<i→sg z a=some (ltr ns k))∧S3=S2) (fun _ _ _ _ _=>rfl) ?_ ?_ ?_
  ·rintro i w ρ S3 hw ⟨z,a6,a7,rfl,hz,az,hat,rfl⟩
   obtain ⟨hi,rfl⟩:=Ti hw
   rw [Int.zero_add]
   refine .of rfl ?_
   dsimp only [List.set]
   have hii:(i:Int)<8:=by omega
   walk_at "w"
   refine Va (by have:intBits (i:Int)≤10:=PySem.intBits_le_iff.mpr (by omega);omega) ?_
   walk_at "w"
   refine (wg hs (by decide) (by decide) (by decide)).imp ?_
   rintro _ _ ⟨rfl,_,_,rfl⟩
   walk_at "w"
   refine Zh (fun ρ S4=>∃c:Int,ρ=[some (.ref 0),some (.int k),some (.int (a:Int)),some (.str "abcdefghijklmnopqrstuvwxyz"),some (.int (n:Int)),some (.str z),some (.int (i:Int)),some (.int c)]∧S4=S3) (zL ?_) ?_
   ·walk_at "w"
    refine (wg hs (by decide) (by decide) (by decide)).imp ?_
    rintro _ _ ⟨rfl,_,_,rfl⟩
    walk_at "w"
    refine xh (fun h=> ?_) (fun h=> ?_)
    ·walk_at "w"
     refine (wg hs ⟨by omega,by omega⟩ (by decide) (by decide)).imp ?_
     rintro _ _ ⟨rfl,_,_,rfl⟩
     walk_at "w"
     exact rfl
    ·walk_at "w"
     exact rfl
   ·rintro ρ S4 ⟨c,rfl,rfl⟩
    walk_at "w"
    refine Zh (fun ρ S5=>∃c:Int,ρ=[some (.ref 0),some (.int k),some (.int (a:Int)),some (.str "abcdefghijklmnopqrstuvwxyz"),some (.int (n:Int)),some (.str z),some (.int (i:Int)),some (.int c)]∧(i=a→c=k+vm ns 4 10069 26)∧S5=S4) (zL ?_) ?_
    ·walk_at "w"
     refine xh (fun h=> ?_) (fun h=> ?_)
     ·walk_at "w"
      refine (wg hs (by decide) (by decide) (by decide)).imp ?_
      rintro _ _ ⟨rfl,_,_,rfl⟩
      walk_at "w"
      exact ⟨fun _=>rfl,rfl⟩
     ·walk_at "w"
      exact ⟨fun z=>absurd (by rw [z]) h,rfl⟩
    ·rintro ρ S5 ⟨c2,rfl,hc2,rfl⟩
     walk_at "w"
     refine Wu (by decide) ?_
     have e0:=Int.emod_nonneg c2 (show (26:Int)≠0 by decide)
     have e1:=Int.emod_lt_of_pos c2 (show (0:Int)<26 by decide)
     refine WO.of (zlD (S:=S5) e0 e1) ?_
     have hc:(⟨#[97+(c2 % 26).toNat]⟩:Str).length=1:=rfl
     refine vn (yF (by omega)) ?_
     walk_at "w"
     refine ⟨_,_,_,rfl,by rw [Str.length_append];omega,az.app (AZ.one (by omega)),fun h=> ?_,rfl⟩
     by_cases hia:a<i
     ·rw [zkf (by omega)]
      exact hat hia
     ·obtain rfl:i=a:=by omega
      rw [hc2 rfl]
      have:=zlE (a:=z) (c:=ltr ns k)
      rw [hz] at this
      exact this
  ·exact ⟨_,none,none,rfl,rfl,(fun c hc=>by cases hc),(fun h=>by omega),rfl⟩
  ·rintro ρ S3 ⟨z,a6,a7,rfl,hz,az,hat,rfl⟩
   rw [XA,Int.toNat_natCast] at hz hat
   walk_at "w"
   exact ⟨⟨by omega,by omega,az,hat h1⟩,rfl⟩
end
section
variable {fu:Nat} {S S' S2:Sto} {x y:Xv} {ns:List Int}
noncomputable def xB (b:Str×Int):Xv:= .tup [.str b.1,.int b.2]
noncomputable def xD:List (Str×Int)→Int
 |[]=>1
 |b::r=>b.2*xD r
theorem Yf (b:Str×Int):∀l:List (Str×Int),xD (l++[b])=xD l*b.2
 |[]=>by simp [xD]
 |c::r=>by
  show c.2*xD (r++[b])=c.2*xD r*b.2
  rw [Yf b r,Int.mul_assoc]
structure Nm1 (ns:List Int) (a:Nat) (z0 z:Str):Prop where
 le:z.length≤8
 pos:1≤z.length
 az:AZ z
 ne:z.length≠z0.length
 at_:a<z.length→sg z a=some (ltr ns 0)
noncomputable def NmB (ns:List Int) (a:Nat) (bs:List (Str×Int)) (m:Nat) (z:Str):Prop:=Nm ns m a z∨(m=1∧∃b0,bs[0]? =some b0∧Nm1 ns a b0.1 z)
theorem zid {i j:Nat} (hi:i<10) (hj:j<10) (h:ltr ns i=ltr ns j):i=j:=by
 unfold ltr at h
 have h1:=Int.emod_nonneg ((i:Int)+vm ns 4 10069 26) (show (26:Int)≠0 by decide)
 have h2:=Int.emod_nonneg ((j:Int)+vm ns 4 10069 26) (show (26:Int)≠0 by decide)
 omega
theorem NmB.ok {a m:Nat} {bs:List (Str×Int)} {z:Str} (h:NmB ns a bs m z):1≤z.length∧z.length≤8∧AZ z:=by
 rcases h with h|⟨_,_,_,h⟩
 ·exact ⟨by have:=h.lt;omega,h.le,h.az⟩
 ·exact ⟨h.pos,h.le,h.az⟩
theorem zlG {a:Nat} {bs:List (Str×Int)} (h:∀(m:Nat) b,bs[m]? =some b→NmB ns a bs m b.1) (hl:bs.length≤10) {i j:Nat} {b c:Str×Int} (hi:bs[i]? =some b) (hj:bs[j]? =some c) (hlt:i<j):b.1≠c.1:=by
 have li:=(List.getElem?_eq_some_iff.1 hi).1
 have lj:=(List.getElem?_eq_some_iff.1 hj).1
 intro e
 have nb:=h i b hi
 have nc:=h j c hj
 rw [e] at nb
 rcases nc with nc|⟨rfl,b0,h0,nc⟩
 ·rcases nb with nb|⟨rfl,b0,h0,nb⟩
  ·have:=nb.at_.symm.trans nc.at_
   have:=zid (by omega) (by omega) (Option.some.inj this)
   omega
  ·have:=(nb.at_ nc.lt).symm.trans nc.at_
   have:=zid (i:=0) (j:=j) (by omega) (by omega) (Option.some.inj this)
   omega
 ·obtain rfl:i=0:=by omega
  rw [h0] at hi
  cases hi
  exact nc.ne (by rw [e])
structure xN (most:Int) (bs:List (Str×Int)):Prop where
 len:bs.length≤10
 nm:∀b∈bs,1≤b.1.length∧b.1.length≤8∧AZ b.1
 sz:∀b∈bs,1≤b.2∧b.2≤9
 nd:(bs.map (·.1)).Nodup
 pr:xD bs≤most
 p0:1≤xD bs
theorem zc7 {P:Xv→Sto→Prop} {u:Str} (h:u.length≤sizeLine) (k:P (.int u.length) S):WO (zaM [.str u] S) P:= .of (by unfold zaM;exact if_pos h) k
theorem UH {p:Int} (h:0≤p) (h1:p≤100000):intBits p≤20:=PySem.intBits_le_iff.mpr (by omega)
theorem vI {P:Xv→Sto→Prop} {n:Nat} {l:List Xv} (h:S[n]? =some (.lst l)) (k:P (.tup l) S):WO (Zg [.ref n] S) P:= .of (by unfold Zg;dsimp only;rw [zR h];rfl) k
theorem zjC {cnt most:Int} (hs:Sc ns S) (hc:0≤cnt∧cnt≤10) (hm:1≤most∧most≤1000):W (YW fu [.ref 0,.int cnt,.int most] S) fun v S'=>∃bs,v= .tup (bs.map xB)∧xN most bs∧(bs.length:Int)=cnt∧Kn S S':=by
 walk_at "wr";unfold YV;walk_at "w"
 refine (wg hs (by decide) (by decide) (by decide)).imp ?_
 rintro _ _ ⟨rfl,a0,a1,rfl⟩
 obtain ⟨a,ha⟩:∃a:Nat,vm ns 5 10079 8=a:=⟨(vm ns 5 10079 8).toNat,by omega⟩
 rw [ha] at a0 a1 ⊢
 walk_at "w"
 refine Th (ze3 ?_)
 walk_at "w"
 refine ⟨⟨by omega,by omega⟩,_,rfl,?_⟩
 refine WZ (fun i ρ S3=>∃(bs:List (Str×Int)) (a6 a7 a8:Option Xv),ρ=[some (.ref 0),some (.int cnt),some (.int most),some (.int (a:Int)),some (.ref S.length),some (.int (xD bs)),a6,a7,a8]∧bs.length=i∧xD bs≤most∧1≤xD bs∧(∀b∈bs,1≤b.2∧b.2≤9)∧(∀(m:Nat) b,bs[m]? =some b→NmB ns a bs m b.1)∧S3[S.length]? =some (.lst (bs.map xB))∧Kn S S3) (fun _ _ _ _ _=>rfl) ?_ ?_ ?_
 ·rintro i w ρ S3 hw ⟨bs,a6,a7,a8,rfl,hbl,hp,hp0,hsz,hnm,hat,kn⟩
  obtain ⟨hi,rfl⟩:=Ti hw
  rw [Int.zero_add]
  have hs3:=hs.keep kn
  refine .of rfl ?_
  dsimp only [List.set]
  walk_at "w"
  refine (wg hs3 ⟨by omega,by omega⟩ (by decide) (by decide)).imp ?_
  rintro _ _ ⟨rfl,d0,d1,rfl⟩
  walk_at "w"
  generalize vm ns (6+(i:Int)) 10091 9=sz at d0 d1
  refine Zh (fun ρ S4=>∃s:Int,ρ=[some (.ref 0),some (.int cnt),some (.int most),some (.int (a:Int)),some (.ref S.length),some (.int (xD bs)),some (.int (i:Int)),some (.int s),a8]∧1≤s∧s≤9∧xD bs*s≤most∧S4=S3) (zL ?_) ?_
  ·walk_at "w"
   refine Va (by have:=UH (p:=xD bs) (by omega) (by omega);have:=UH (p:=1+sz) (by omega) (by omega);omega) ?_
   walk_at "w"
   refine xh (fun h=> ?_) (fun h=> ?_)
   ·walk_at "w"
    exact ⟨by omega,by omega,by omega,rfl⟩
   ·walk_at "w"
    exact ⟨by omega,by omega,by omega,rfl⟩
  rintro ρ S4 ⟨s,rfl,s1,s9,hps,rfl⟩
  have hps0:1≤xD bs*s:=by
   have:=Int.mul_le_mul hp0 s1 (by omega) (by omega)
   omega
  walk_at "w"
  refine Va (by have:=UH (p:=xD bs) (by omega) (by omega);have:=UH (p:=s) (by omega) (by omega);omega) ?_
  walk_at "w"
  refine (zlF hs3 ⟨by omega,by omega⟩ (by omega)).imp ?_
  rintro _ _ ⟨z,rfl,hz,rfl⟩
  walk_at "w"
  refine Zh (fun ρ S5=>∃z:Str,ρ=[some (.ref 0),some (.int cnt),some (.int most),some (.int (a:Int)),some (.ref S.length),some (.int (xD bs*s)),some (.int (i:Int)),some (.int s),some (.str z)]∧NmB ns a bs i z∧S5=S4) (zL (xr ?_)) ?_
  ·walk_at "w"
   refine xh (fun h=> ?_) (fun h=> ?_)
   ·obtain rfl:i=1:=by omega
    walk_at "w"
    refine (wg hs3 (by decide) (by decide) (by decide)).imp ?_
    rintro _ _ ⟨rfl,_,_,rfl⟩
    walk_at "w"
    refine xh (fun h=> ?_) (fun h=> ?_)
    ·match bs,hbl with
     |[(z0,s0)],_=>
      have n0:Nm ns 0 a z0:=by
       rcases hnm 0 (z0,s0) rfl with n0|⟨e,_⟩
       ·exact n0
       ·cases e
      have l0:=n0.le
      have lt0:=n0.lt
      walk_at "w"
      refine xz (zR hat) (z:=xB (z0,s0)) rfl ?_
      unfold xB
      walk_at "w"
      show WO (zdH (.str z0) none (some (-1)) _) _
      refine zlC (yF (by omega)) ?_
      have hsl:(Txt.slice z0 none (some (-1))).length=z0.length-1:=by
       rw [←vo,UX (by omega),List.length_take,vo]
       omega
      walk_at "w"
      refine zL ?_
      walk_at "w"
      refine zc7 (by rw [hsl];exact yF (by omega)) ?_
      walk_at "w"
      rw [hsl]
      refine xh (fun h=> ?_) (fun h=> ?_)
      ·walk_at "w"
       refine xz (zR hat) (z:=xB (z0,s0)) rfl ?_
       unfold xB
       walk_at "w"
       have h1:(("e":Str)).length=1:=rfl
       show WO (ww (.str z0) (.str "e") _) _
       refine vn (yF (by omega)) ?_
       walk_at "w"
       refine ⟨.inr ⟨rfl,_,rfl,⟨by rw [Str.length_append];omega,by rw [Str.length_append];omega,n0.az.app (AZ.one (n:=4) (by decide)),by rw [Str.length_append];show z0.length+1≠z0.length;omega,fun _=>by rw [zkf lt0];exact n0.at_⟩⟩,rfl⟩
      ·walk_at "w"
       refine ⟨.inr ⟨rfl,_,rfl,⟨by omega,by omega,fun c hc=> ?_,by show _≠z0.length;omega,fun hh=> ?_⟩⟩,rfl⟩
       ·rw [UX (by omega)] at hc
        exact n0.az c (List.mem_of_mem_take hc)
       ·have:=n0.at_
        unfold sg at this ⊢
        rw [UX (by omega),List.getElem?_take,if_pos (by omega)]
        exact this
    ·walk_at "w"
     exact ⟨.inl hz,rfl⟩
   ·refine ⟨(fun z=>by cases z),fun _=> ?_⟩
    walk_at "w"
    exact ⟨.inl hz,rfl⟩
  rintro ρ S5 ⟨z,rfl,hz,rfl⟩
  walk_at "w"
  refine zb7 ?_
  walk_at "w"
  refine ⟨⟨_,zR hat⟩,?_⟩
  walk_at "w"
  refine Vb (wF hat) (by rw [List.length_map];exact zf6 (by omega)) ?_
  walk_at "w"
  refine ⟨bs++[(z,s)],some (.int (i:Int)),some (.int s),some (.str z),?_,by rw [List.length_append,hbl];rfl,by rw [Yf];exact hps,by rw [Yf];exact hps0,?_,?_,?_,kn.set (.inr (Nat.le_refl _))⟩
  ·rw [Yf]
  ·intro b hb
   rw [List.mem_append,List.mem_singleton] at hb
   rcases hb with hb|rfl
   ·exact hsz b hb
   ·exact ⟨s1,s9⟩
  ·intro m b hb
   have up:∀{m' z'},NmB ns a bs m' z'→NmB ns a (bs++[(z,s)]) m' z':=by
    rintro m' z' (h|⟨e,b0,e0,h⟩)
    ·exact .inl h
    ·exact .inr ⟨e,b0,by rw [List.getElem?_append_left (List.getElem?_eq_some_iff.1 e0).1];exact e0,h⟩
   by_cases hmi:m<bs.length
   ·rw [List.getElem?_append_left hmi] at hb
    exact up (hnm m b hb)
   ·have hm2:=(List.getElem?_eq_some_iff.1 hb).1
    rw [List.length_append,List.length_singleton] at hm2
    obtain rfl:m=bs.length:=by omega
    rw [List.getElem?_append_right (Nat.le_refl _),Nat.sub_self] at hb
    cases hb
    rw [hbl]
    exact up hz
  ·rw [vH hat,List.map_append]
   rfl
 ·exact ⟨[],none,none,none,rfl,rfl,hm.1,by decide,(fun b hb=>by cases hb),(fun m b hb=>by simp at hb),yJ,Kp.app (Kp.refl _)⟩
 ·rintro ρ S3 ⟨bs,a6,a7,a8,rfl,hbl,hp,hp0,hsz,hnm,hat,kn⟩
  rw [XA] at hbl
  walk_at "w"
  refine vI hat ?_
  refine ⟨bs,rfl,⟨by omega,fun b hb=> ?_,hsz,?_,hp,hp0⟩,by omega,kn⟩
  ·obtain ⟨m,hm',rfl⟩:=List.mem_iff_getElem.1 hb
   exact (hnm m _ (List.getElem?_eq_getElem hm')).ok
  ·rw [List.nodup_iff_pairwise_ne,List.pairwise_iff_getElem]
   intro i j hi hj hij
   rw [List.length_map] at hi hj
   rw [List.getElem_map,List.getElem_map]
   exact zlG hnm (by omega) (List.getElem?_eq_getElem hi) (List.getElem?_eq_getElem hj) hij
end
section
variable {fu:Nat} {S S' S2:Sto} {x y:Xv} {ns:List Int}
theorem Kn.refl:Kn S S:=Kp.refl _
theorem Kn.app {T:Sto} (k:Kn S S'):Kn S (S'++T):=Kp.app k
theorem Yg {P:Xv→Sto→Prop} {ρ:Rho} {cap:List (Option Nat)} {n:TwI} {e:TwE} {xs:List Xv} {f:Nat→Xv} (hl:xs.length≤sizeLine) (hn:W (n ρ S) fun get S1=>(∀S',Kn S1 S'→get S'=some xs)∧Kn S S1)
  (he:∀(i:Nat) (x:Xv) S2,xs[i]? =some x→Kn S S2→W (e ((zcC cap ρ).set 0 (some x)) S2) fun v S3=>v=f i∧Kn S2 S3)
  (k:∀S',Kn S S'→P (.ref S'.length) (S'++[.lst ((List.range xs.length).map f)])):W (xl cap n (gN 0) xq e ρ S) P:=by
 refine Uk (hn.imp ?_)
 rintro get S1 ⟨hg,k1⟩
 refine ⟨xs,hg S1 Kn.refl,?_⟩
 refine Wt hl (fun i es S2=>Kn S1 S2∧es=(List.range i).map f) (fun _ _ _ _ h=>hg _ h.1) ?_ ⟨Kn.refl,rfl⟩ ?_
 ·rintro i w es S2 hw hel ⟨k2,rfl⟩
  refine .of rfl ?_
  walk_at "w"
  refine ⟨rfl,?_⟩
  refine (he i w S2 hw (k1.trans k2)).imp ?_
  rintro _ S3 ⟨rfl,k3⟩
  exact ⟨k2.trans k3,by rw [List.range_succ,List.map_append];rfl⟩
 ·rintro es S2 _ ⟨k2,rfl⟩
  exact k S2 (k1.trans k2)
theorem zec:∀bs:List Bool,Ui (bs.map Xv.bl)=some bs
 |[]=>rfl
 |b::r=>by rw [List.map_cons];simp [Ui,zec r]
theorem Yh:∀bs:List Int,Xf (bs.map Xv.int)=some bs
 |[]=>rfl
 |b::r=>by rw [List.map_cons];simp [Xf,Yh r]
theorem zlH {P:Xv→Sto→Prop} {l:List Xv} {bs:List Bool} (h:yx S x=some l) (h2:Ui l=some bs) (k:P (.bl (bs.all id)) S):WO (zaN [x] S) P:= .of (by unfold zaN;dsimp only;rw [h,Option.bind_some,h2];rfl) k
theorem zff {P:Xv→Sto→Prop} {l:List Xv} {bs:List Int} (h:yx S x=some l) (h2:Xf l=some bs) (k:P (.int bs.sum) S):WO (zeZ [x] S) P:= .of (by unfold zeZ;dsimp only;rw [h,Option.bind_some,h2];rfl) k
theorem zjD {P:Xv→Sto→Prop} {bs:List Int} (k:P (.int bs.sum) S):WO (zdJ [.tup (bs.map Xv.int)] S) P:= .of (by unfold zdJ;dsimp only [Xv.tupOf];rw [Option.bind_some,Yh];rfl) k
theorem Vg {P:Xv→Sto→Prop} {l:List Xv} (k:P (.int l.length) S):WO (wx [.tup l] S) P:= .of rfl k
theorem Vz {ρ:Rho} {m:TwE} {xs:List Xv} (h:W (m ρ S) fun v S1=>v= .tup xs∧Kn S S1):W (iT m ρ S) fun get S1=>(∀S',Kn S1 S'→get S'=some xs)∧Kn S S1:=by
 refine zdQ (h.imp ?_)
 rintro _ S1 ⟨rfl,k⟩
 exact ⟨xs,rfl,fun _ _=>rfl,k⟩
theorem zie {ρ:Rho} {m:TwE} {xs:List Xv} {n:Nat} (h:W (m ρ S) fun v S1=>v= .ref n∧yx S1 (.ref n)=some xs∧Kn S S1):W (iL m ρ S) fun get S1=>(∀S',Kn S1 S'→get S'=some xs)∧Kn S S1:=by
 refine zj6 (h.imp ?_)
 rintro _ S1 ⟨rfl,e,k⟩
 exact ⟨xs,e,fun S' k'=>Kn.lst k' e,k⟩
theorem Xj {P:Xv→Sto→Prop} {ρ:Rho} {cap:List (Option Nat)} {n:TwI} {e:TwE} {xs:List Xv} {p:Nat→Bool} (hl:xs.length≤sizeLine) (hn:W (n ρ S) fun get S1=>(∀S',Kn S1 S'→get S'=some xs)∧Kn S S1)
  (he:∀(i:Nat) (x:Xv) S2,xs[i]? =some x→Kn S S2→W (e ((zcC cap ρ).set 0 (some x)) S2) fun v S3=>v= .bl (p i)∧Kn S2 S3)
  (k:∀S',Kn S S'→P (.bl (((List.range xs.length).map p).all id)) S'):W (eFn zaN [xl cap n (gN 0) xq e] ρ S) P:=by
 walk_at "w"
 refine Yg (f:=fun i=> .bl (p i)) hl hn he fun S' kn=> ?_
 walk_at "w"
 refine zlH (zR yJ) (bs:=(List.range xs.length).map p) ?_ (k _ kn.app)
 rw [←zec,List.map_map]
 rfl
theorem zjE {i:Int}:W (WH fu [.int i] S) fun v S'=>v= .bl true∧S=S':=by
 walk_at "wr";unfold WG
 refine ZM (zah ?_)
 walk_at "w"
 refine zaQ (v:=true) rfl ?_
 refine ⟨_,rfl,fun _=> ?_,fun z=>(by cases z)⟩
 walk_at "w"
 refine zaQ (v:=false) rfl ?_
 exact ⟨_,rfl,rfl,rfl⟩
theorem UI {v lo hi:Int}:W (xA fu [.int v,.int lo,.int hi] S) fun r S'=>r= .bl (decide (lo≤v∧v≤hi))∧S=S':=by
 walk_at "wr";unfold YL
 refine ZM (zah ?_)
 walk_at "w"
 refine zjE.imp ?_
 rintro _ _ ⟨rfl,rfl⟩
 refine ⟨_,rfl,fun _=> ?_,fun z=>(by cases z)⟩
 refine Uo ?_
 walk_at "w"
 refine ⟨fun h=> ?_,fun h=> ?_⟩
 ·walk_at "w"
  have h:lo≤v:=of_decide_eq_true h
  refine ⟨?_,rfl⟩
  by_cases h2:v≤hi
  ·rw [decide_eq_true h2,decide_eq_true ⟨h,h2⟩]
  ·rw [decide_eq_false h2,decide_eq_false fun z=>h2 z.2]
 ·have h:¬lo≤v:=of_decide_eq_false h
  exact ⟨by rw [decide_eq_false fun z=>h z.1],rfl⟩
noncomputable def szX (bs:List (Str×Int)):List (Key×Xv):=bs.map fun b=>(.inr b.1,.int b.2)
noncomputable def Wh (bs:List (Str×Int)) (n:Str):Option Int:=(bs.find? fun b=>decide (b.1=n)).map (·.2)
theorem Tu (n:Str):∀bs:List (Str×Int),Xg (szX bs) (.inr n)=(Wh bs n).map Xv.int
 |[]=>rfl
 |b::r=>by
  have ih:=Tu n r
  unfold szX Wh at ih ⊢
  rw [List.map_cons,List.find?_cons]
  unfold Xg at ih ⊢
  rw [List.find?_cons]
  by_cases h:b.1=n
  ·subst h
   simp
  ·have h1:decide ((Sum.inr b.1:Key)=Sum.inr n)=false:=decide_eq_false fun z=>h (Sum.inr.inj z)
   rw [h1,decide_eq_false h]
   exact ih
noncomputable def UJ (x:Xv):Prop:=(∃n,x= .str n)∨∃v:Int,x= .int v
noncomputable def opF (bs:List (Str×Int)):Xv→Bool
 | .str n=>(Wh bs n).isSome
 | .int v=>decide (0≤v∧v≤999999999)
 |_=>false
theorem zif {bs:List (Str×Int)} {d:Nat} (hd:S[d]? =some (.dk (szX bs))) (ho:UJ x):W (wK fu [.ref d,x] S) fun r S'=>r= .bl (opF bs x)∧S=S':=by
 walk_at "wr";unfold Zk
 refine zE (zL ?_)
 rcases ho with ⟨n,rfl⟩|⟨v,rfl⟩
 ·walk_at "w"
  refine zaQ (v:=true) rfl ?_
  refine ⟨_,rfl,fun _=> ?_,(fun z=>by cases z)⟩
  refine ZM (zcJ ?_)
  walk_at "w"
  refine ⟨d,szX bs,.inr n,Ul hd,rfl,?_,rfl⟩
  rw [Tu]
  show Xv.bl (false !=((Wh bs n).map Xv.int).isSome)=Xv.bl (Wh bs n).isSome
  cases Wh bs n<;>rfl
 ·walk_at "w"
  refine zaQ (v:=false) rfl ?_
  refine ⟨_,rfl,(fun z=>by cases z),fun _=>zI ?_⟩
  walk_at "w"
  exact UI
end
section
variable {fu:Nat} {S S' S2:Sto} {x y:Xv} {ns:List Int} {bs:List (Str×Int)}
noncomputable def wOk (ws:List Int) (s:Int):Bool:=decide ((ws.length:Int)=s)&&(ws.all (fun w=>decide (0≤w∧w≤999999999))&&decide (0<ws.sum))
theorem wQ {α:Type} {l:List α} {q:α→Bool} {p:Nat→Bool} (h:∀(i:Nat) a,l[i]? =some a→p i=q a):((List.range l.length).map p).all id=l.all q:=by
 have:(List.range l.length).map p=l.map q:=by
  refine List.ext_getElem? fun i=> ?_
  by_cases hi:i<l.length
  ·rw [List.getElem?_map,List.getElem?_range hi,List.getElem?_map,List.getElem?_eq_getElem hi]
   exact congrArg some (h i _ (List.getElem?_eq_getElem hi))
  ·rw [List.getElem?_eq_none (by simp;omega),List.getElem?_eq_none (by simp;omega)]
 rw [this,List.all_map]
 rfl
theorem zbL {ws:List Int} {s:Int} (hl:ws.length≤100):W (vf fu [.tup (ws.map Xv.int),.int s] S) fun r S'=>r= .bl (wOk ws s)∧Kn S S':=by
 walk_at "wr";unfold ZU
 refine zE (zL (Xh ?_))
 walk_at "w"
 refine Vg ?_
 walk_at "w"
 rw [List.length_map]
 refine ⟨fun h=> ?_,fun h=> ?_⟩
 ·have h:(ws.length:Int)≠s:=by simpa using h
  refine ⟨fun _=> ?_,(fun z=>by cases z)⟩
  walk_at "w"
  refine ⟨?_,Kn.refl⟩
  unfold wOk
  rw [decide_eq_false h]
  rfl
 ·have h:(ws.length:Int)=s:=by simpa using h
  refine vC (vt ?_)
  refine Xj (xs:=ws.map Xv.int) (p:=fun i=>decide (0≤ws.getD i 0∧ws.getD i 0≤999999999)) (by rw [List.length_map];exact yF (by omega)) (Vz (by walk_at "w";exact ⟨rfl,Kn.refl⟩)) ?_ ?_
  ·intro i x S2 hx k2
   rw [List.getElem?_map,Option.map_eq_some_iff] at hx
   obtain ⟨w,e,rfl⟩:=hx
   walk_at "w"
   refine UI.imp ?_
   rintro _ _ ⟨rfl,rfl⟩
   rw [List.getD_eq_getElem?_getD,e]
   exact ⟨rfl,Kn.refl⟩
  ·intro S2 k2
   rw [List.length_map,wQ (q:=fun w=>decide (0≤w∧w≤999999999)) (fun i a e=>by rw [List.getD_eq_getElem?_getD,e];rfl)]
   refine ⟨_,rfl,fun h2=> ?_,fun h2=> ?_⟩
   ·walk_at "w"
    refine ⟨?_,k2⟩
    unfold wOk
    rw [show (ws.all fun w=>decide (0≤w∧w≤999999999))=false by simpa using h2]
    simp
   ·refine zI ?_
    walk_at "w"
    refine zjD ?_
    walk_at "w"
    refine ⟨?_,k2⟩
    unfold wOk
    rw [show (ws.all fun w=>decide (0≤w∧w≤999999999))=true by simpa using h2,decide_eq_true h]
    rfl
inductive Own (bs:List (Str×Int)):Xv→Bool→Prop where
 |pass:Own bs (.tup [.str "pass"]) true
 |gain {x:Xv}:UJ x→Own bs (.tup [.str "gain",x]) (opF bs x)
 |look {x y:Xv} {s:Str}:UJ x→UJ y→Own bs (.tup [.str "look",.tup [x,.str s,y]]) (opF bs x&&opF bs y)
 |cond {x y u w:Xv} {s:Str}:UJ x→UJ y→Own bs (.tup [.str "if",.tup [x,.str s,y],u,w]) (opF bs x&&opF bs y)
 |whil {x y u:Xv} {s:Str}:UJ x→UJ y→Own bs (.tup [.str "while",.tup [x,.str s,y],u]) (opF bs x&&opF bs y)
 |times {k:Int} {u:Xv}:Own bs (.tup [.str "times",.int k,u]) (decide (0≤k∧k≤60))
 |hand {us:List Xv}:us.length≤100→Own bs (.tup [.str "hand",.tup us]) (decide (2≤us.length∧us.length≤8))
 |set1 {n:Str} {x:Xv}:UJ x→Own bs (.tup [.str "set",.str n,.tup [x]]) ((Wh bs n).isSome&&opF bs x)
 |set3 {n s:Str} {x y:Xv}:UJ x→UJ y→Own bs (.tup [.str "set",.str n,.tup [x,.str s,y]]) ((Wh bs n).isSome&&(opF bs x&&opF bs y))
 |draw {n:Str} {ws:List Int}:ws.length≤100→Own bs (.tup [.str "draw",.str n,.tup (ws.map Xv.int)]) ((Wh bs n).elim false fun s=>wOk ws s)
theorem zc8 {P:Xv→Sto→Prop} {a b:Str} (k:P (.bl (decide (a=b))) S):WO (yV false (.str a) (.str b) S) P:= .of (by unfold yV;simp) k
theorem xi {a b:Str} (h:a≠b) {P:Xv→Sto→Prop} (k:P (.bl false) S):WO (yV false (.str a) (.str b) S) P:=zc8 (by rw [decide_eq_false h];exact k)
theorem yN {a:Str} {P:Xv→Sto→Prop} (k:P (.bl true) S):WO (yV false (.str a) (.str a) S) P:=zc8 (by rw [decide_eq_true rfl];exact k)
inductive Ops:Xv→List Xv→Prop where
 |gain {x:Xv}:Ops (.tup [.str "gain",x]) [x]
 |set {n z:Xv} {xs:List Xv}:xs.length=1∨xs.length=3→Ops (.tup [.str "set",n,.tup xs]) (xY xs)
 |test {w:Str} {xs r:List Xv}:w="look"∨w="if"∨w="while"→xs.length=1∨xs.length=3→Ops (.tup (.str w:: .tup xs::r)) (xY xs)
 |none {w:Str} {r:List Xv}:w≠"set"→w≠"look"→w≠"if"→w≠"while"→w≠"gain"→Ops (.tup (.str w::r)) []
theorem in3 {w:Str} {P:Xv→Sto→Prop} (k:P (.bl (decide (w="look"∨w="if"∨w="while"))) S):WO (dIn false (.str w) (.tup [.str "look",.str "if",.str "while"]) S) P:=by
 refine TD rfl rfl ?_
 have e:(false !=List.any [Xv.str "look",Xv.str "if",Xv.str "while"] fun z=>zcF z (.str w))=decide (w="look"∨w="if"∨w="while"):=by
  show (false !=(decide (Str.ofString "look"=w)||(decide (Str.ofString "if"=w)||(decide (Str.ofString "while"=w)||false))))=_
  by_cases h1:w="look"
  ·subst h1;simp
  ·by_cases h2:w="if"
   ·subst h2;simp
   ·by_cases h3:w="while"
    ·subst h3;simp
    ·simp [h1,h2,h3,Ne.symm h1,Ne.symm h2,Ne.symm h3]
 rw [e]
 exact k
end
section
variable {fu:Nat} {S S' S2:Sto} {x y:Xv} {ns:List Int} {bs:List (Str×Int)}
theorem zfg {l:List Xv} (h:Ops x l):W (ve fu [x] S) fun r S'=>r= .tup l∧S=S':=by
 walk_at "wr";unfold ZT
 cases h with
 |gain=>
  refine zE (zL ?_)
  walk_at "w"
  refine xi (by decide) ⟨_,rfl,(fun z=>by cases z),fun _=>zI ?_⟩
  refine zE (zL ?_)
  walk_at "w"
  refine in3 ⟨_,rfl,(fun z=>by cases z),fun _=>zI ?_⟩
  refine zE (zL ?_)
  walk_at "w"
  refine yN ⟨_,rfl,fun _=> ?_,(fun z=>by cases z)⟩
  walk_at "w"
  exact ⟨rfl,rfl⟩
 | @set n z xs hl=>
  refine zE (zL ?_)
  walk_at "w"
  refine yN ⟨_,rfl,fun _=> ?_,(fun z=>by cases z)⟩
  walk_at "w"
  refine wX rfl (z:= .tup xs) rfl ?_
  walk_at "w"
  exact zh3 rfl hl ⟨rfl,rfl⟩
 | @test w xs r hw hl=>
  refine zE (zL ?_)
  walk_at "w"
  refine xi (by rcases hw with rfl|rfl|rfl<;>decide) ⟨_,rfl,(fun z=>by cases z),fun _=>zI ?_⟩
  refine zE (zL ?_)
  walk_at "w"
  refine in3 ⟨_,rfl,fun _=> ?_,(fun z=>absurd hw (of_decide_eq_false z))⟩
  walk_at "w"
  exact zh3 rfl hl ⟨rfl,rfl⟩
 | @none w r h1 h2 h3 h4 h5=>
  refine zE (zL ?_)
  walk_at "w"
  refine xi h1 ⟨_,rfl,(fun z=>by cases z),fun _=>zI ?_⟩
  refine zE (zL ?_)
  walk_at "w"
  refine in3 ⟨_,rfl,(fun z=>by
   have z:=of_decide_eq_true z
   rcases z with z|z|z
   ·exact absurd z h2
   ·exact absurd z h3
   ·exact absurd z h4),fun _=>zI ?_⟩
  refine zE (zL ?_)
  walk_at "w"
  refine xi h5 ⟨_,rfl,(fun z=>by cases z),fun _=>zI ?_⟩
  walk_at "w"
  exact ⟨rfl,rfl⟩
theorem in2 {w:Str} {P:Xv→Sto→Prop} (k:P (.bl (decide (w="set"∨w="draw"))) S):WO (dIn false (.str w) (.tup [.str "set",.str "draw"]) S) P:=by
 refine TD rfl rfl ?_
 have e:(false !=List.any [Xv.str "set",Xv.str "draw"] fun z=>zcF z (.str w))=decide (w="set"∨w="draw"):=by
  show (false !=(decide (Str.ofString "set"=w)||(decide (Str.ofString "draw"=w)||false)))=_
  by_cases h1:w="set"
  ·subst h1;simp
  ·by_cases h2:w="draw"
   ·subst h2;simp
   ·simp [h1,h2,Ne.symm h1,Ne.symm h2]
 rw [e]
 exact k
noncomputable def zed (fu:Nat):TwS:=(zY (eFn zaN [(xl [none,some 0] (iT (zv (ve fu) [(ze 1)])) (gN 0) xq (zv (wK fu) [(ze 1),(ze 0)]))]))
theorem ZG {N:Rho→Sto→Prop} {R:Xv→Sto→Prop} {d:Nat} {a2:Option Xv} {l:List Xv} (hd:S[d]? =some (.dk (szX bs))) (ho:Ops x l) (hl:l.length≤3) (hi:∀o∈l,UJ o) (k:∀S',Kn S S'→R (.bl (l.all (opF bs))) S'):WS (zed fu [some (.ref d),some x,a2] S) N R:=by
 unfold zed
 refine ZM ?_
 refine Xj (xs:=l) (p:=fun i=>opF bs (l.getD i .non)) (yF (by omega)) (Vz ?_) ?_ ?_
 ·walk_at "w"
  refine (zfg ho).imp ?_
  rintro _ _ ⟨rfl,rfl⟩
  exact ⟨rfl,Kn.refl⟩
 ·intro i o S2 ho k2
  walk_at "w"
  refine (zif (k2.at hd) (hi o (List.mem_of_getElem? ho))).imp ?_
  rintro _ _ ⟨rfl,rfl⟩
  rw [List.getD_eq_getElem?_getD,ho]
  exact ⟨rfl,Kn.refl⟩
 ·intro S2 k2
  rw [wQ (q:=opF bs) (fun i a e=>by rw [List.getD_eq_getElem?_getD,e];rfl)]
  exact k S2 k2
noncomputable def zee (fu:Nat):TwS:=(zH (sIf (Xw (bE (eOp (yV false) (ze 2) (eC (.str "hand")))) (YB (bE (VF (fun i j=>decide (i≤j)) (fun i j=>decide (i≤j)) (eC (.int 2)) (eFn wx [(eOp yE (ze 1) (eC (.int 1)))]) (eC (.int 8)))))) (zY (eC (.bl false))) zO) (zed fu))
noncomputable def zef (fu:Nat):TwS:=(zH (sIf (Xw (bE (eOp (yV false) (ze 2) (eC (.str "times")))) (YB (bE (zv (xA fu) [(eOp yE (ze 1) (eC (.int 1))),(eC (.int 0)),(eC (.int 60))])))) (zY (eC (.bl false))) zO) (zee fu))
noncomputable def zf7 (fu:Nat):TwS:=(zH (sIf (Xw (bE (eOp (yV false) (ze 2) (eC (.str "draw")))) (YB (bE (zv (vf fu) [(eOp yE (ze 1) (eC (.int 2))),(zdP (ze 0) (eOp yE (ze 1) (eC (.int 1))))])))) (zY (eC (.bl false))) zO) (zef fu))
theorem Vh:XT fu=(zH (yD (eOp yE (ze 1) (eC (.int 0))) (gN 2)) (zH (sIf (Xw (bE (eOp (dIn false) (ze 2) (xj [(eC (.str "set")),(eC (.str "draw"))]))) (bE (zgG true (eOp yE (ze 1) (eC (.int 1))) (ze 0)))) (zY (eC (.bl false))) zO) (zf7 fu))):=rfl
section
variable {N:Rho→Sto→Prop} {R:Xv→Sto→Prop} {d:Nat} {w:Str} {r:List Xv}
theorem noD (h:w≠"draw") (k:WS (zef fu [some (.ref d),some (.tup (.str w::r)),some (.str w)] S) N R):WS (zf7 fu [some (.ref d),some (.tup (.str w::r)),some (.str w)] S) N R:=by
 unfold zf7
 refine zE (zL (xr ?_))
 walk_at "w"
 exact xi h ⟨_,rfl,(fun z=>by cases z),fun _=>⟨(fun z=>by cases z),fun _=>zI k⟩⟩
theorem noT (h:w≠"times") (k:WS (zee fu [some (.ref d),some (.tup (.str w::r)),some (.str w)] S) N R):WS (zef fu [some (.ref d),some (.tup (.str w::r)),some (.str w)] S) N R:=by
 unfold zef
 refine zE (zL (xr ?_))
 walk_at "w"
 exact xi h ⟨_,rfl,(fun z=>by cases z),fun _=>⟨(fun z=>by cases z),fun _=>zI k⟩⟩
theorem noH (h:w≠"hand") (k:WS (zed fu [some (.ref d),some (.tup (.str w::r)),some (.str w)] S) N R):WS (zee fu [some (.ref d),some (.tup (.str w::r)),some (.str w)] S) N R:=by
 unfold zee
 refine zE (zL (xr ?_))
 walk_at "w"
 exact xi h ⟨_,rfl,(fun z=>by cases z),fun _=>⟨(fun z=>by cases z),fun _=>zI k⟩⟩
end
theorem zfh {d:Nat} {b:Bool} (hd:S[d]? =some (.dk (szX bs))) (ho:Own bs x b):W (vg fu [.ref d,x] S) fun v S'=>v= .bl b∧Kn S S':=by
 have plain:∀{w:Str} {r l:List Xv} {b:Bool},x= .tup (.str w::r)→w≠"set"→w≠"draw"→w≠"times"→w≠"hand"→Ops x l→l.length≤3→(∀o∈l,UJ o)→l.all (opF bs)=b→W (vg fu [.ref d,x] S) fun v S'=>v= .bl b∧Kn S S':=by
  rintro w r l b rfl n1 n2 n3 n4 hop hl hi rfl
  refine VE rfl rfl ?_
  dsimp only [List.map,HAppend.hAppend,Append.append,List.append,List.replicate]
  rw [Vh]
  walk_at "w"
  refine zL (xr ?_)
  walk_at "w"
  refine in2 ⟨_,rfl,(fun z=>by
   rcases of_decide_eq_true z with z|z
   ·exact absurd z n1
   ·exact absurd z n2),fun _=>⟨(fun z=>by cases z),fun _=>zI ?_⟩⟩
  exact noD n2 (noT n3 (noH n4 (ZG hd hop hl hi fun S' k=>⟨rfl,k⟩)))
 cases ho with
 |pass=>exact plain rfl (by decide) (by decide) (by decide) (by decide) (.none (by decide) (by decide) (by decide) (by decide) (by decide)) (Nat.zero_le _) (fun o h=>by cases h) rfl
 |gain h=>exact plain rfl (by decide) (by decide) (by decide) (by decide) .gain (by simp) (fun o z=>by rw [List.mem_singleton] at z;subst z;exact h) (by simp)
 |look h g=>exact plain rfl (by decide) (by decide) (by decide) (by decide) (.test (.inl rfl) (.inr rfl)) (by simp [xY]) (fun o z=>by rcases (by simpa [xY] using z) with rfl|rfl<;>assumption) (by simp [xY])
 |cond h g=>exact plain rfl (by decide) (by decide) (by decide) (by decide) (.test (.inr (.inl rfl)) (.inr rfl)) (by simp [xY]) (fun o z=>by rcases (by simpa [xY] using z) with rfl|rfl<;>assumption) (by simp [xY])
 |whil h g=>exact plain rfl (by decide) (by decide) (by decide) (by decide) (.test (.inr (.inr rfl)) (.inr rfl)) (by simp [xY]) (fun o z=>by rcases (by simpa [xY] using z) with rfl|rfl<;>assumption) (by simp [xY])
 | @times k u=>
  refine VE rfl rfl ?_
  dsimp only [List.map,HAppend.hAppend,Append.append,List.append,List.replicate]
  rw [Vh]
  walk_at "w"
  refine zL (xr ?_)
  walk_at "w"
  refine in2 ⟨_,rfl,(fun z=>by cases z),fun _=>⟨(fun z=>by cases z),fun _=>zI ?_⟩⟩
  refine noD (by decide) ?_
  unfold zef
  refine zE (zL (xr ?_))
  walk_at "w"
  refine yN ⟨_,rfl,fun _=> ?_,(fun z=>by cases z)⟩
  walk_at "w"
  refine UI.imp ?_
  rintro _ _ ⟨rfl,rfl⟩
  refine ⟨_,rfl,fun h=> ?_,fun h=> ?_⟩
  ·walk_at "w"
   exact ⟨by rw [show decide (0≤k∧k≤60)=false by cases hh:decide (0≤k∧k≤60) with
    |false=>rfl
    |true=>rw [hh] at h;cases h],Kn.refl⟩
  ·refine zI ?_
   rw [show decide (0≤k∧k≤60)=true by simpa using h]
   exact noH (by decide) (ZG hd (.none (by decide) (by decide) (by decide) (by decide) (by decide)) (Nat.zero_le _) (fun o h=>by cases h) fun S' k=>⟨rfl,k⟩)
 | @hand us hl=>
  refine VE rfl rfl ?_
  dsimp only [List.map,HAppend.hAppend,Append.append,List.append,List.replicate]
  rw [Vh]
  walk_at "w"
  refine zL (xr ?_)
  walk_at "w"
  refine in2 ⟨_,rfl,(fun z=>by cases z),fun _=>⟨(fun z=>by cases z),fun _=>zI ?_⟩⟩
  refine noD (by decide) (noT (by decide) ?_)
  unfold zee
  refine zE (zL (xr ?_))
  walk_at "w"
  refine yN ⟨_,rfl,fun _=> ?_,(fun z=>by cases z)⟩
  refine vC (vt (Uo ?_))
  walk_at "w"
  refine Vg ?_
  walk_at "w"
  have go:∀{S'':Sto},S''=S→decide (2≤us.length∧us.length≤8)=true→WS (zed fu [some (.ref d),some (.tup [.str "hand",.tup us]),some (.str "hand")] S'') (fun x S1=>Xv.non= .bl (decide (2≤us.length∧us.length≤8))∧Kn S S1) (fun v S'=>v= .bl (decide (2≤us.length∧us.length≤8))∧Kn S S'):=by
   rintro S'' rfl e
   exact ZG hd (.none (by decide) (by decide) (by decide) (by decide) (by decide)) (Nat.zero_le _) (fun o h=>by cases h) fun S' k=>⟨by rw [e];rfl,k⟩
  refine ⟨fun h=> ?_,fun h=> ?_⟩
  ·have h:(2:Int)≤us.length:=of_decide_eq_true h
   walk_at "w"
   refine ⟨fun h2=> ?_,fun h2=> ?_⟩
   ·have h2:¬(us.length:Int)≤8:=by simpa using h2
    walk_at "w"
    exact ⟨by rw [decide_eq_false (by omega)],Kn.refl⟩
   ·have h2:(us.length:Int)≤8:=by simpa using h2
    exact zI (go rfl (decide_eq_true ⟨by omega,by omega⟩))
  ·have h:¬(2:Int)≤us.length:=of_decide_eq_false h
   refine ⟨_,rfl,fun _=> ?_,(fun z=>by cases z)⟩
   walk_at "w"
   exact ⟨by rw [decide_eq_false (by omega)],Kn.refl⟩
 | @set1 n x h=>
  refine VE rfl rfl ?_
  dsimp only [List.map,HAppend.hAppend,Append.append,List.append,List.replicate]
  rw [Vh]
  walk_at "w"
  refine zL (xr ?_)
  walk_at "w"
  refine in2 ⟨_,rfl,fun _=> ?_,(fun z=>by cases z)⟩
  refine vt (zcJ ?_)
  walk_at "w"
  refine ⟨d,szX bs,.inr n,Ul hd,rfl,_,rfl,?_⟩
  rw [Tu]
  cases e:Wh bs n with
  |none=>
   refine ⟨fun _=> ?_,(fun z=>by cases z)⟩
   walk_at "w"
   exact ⟨rfl,Kn.refl⟩
  |some s=>
   refine ⟨(fun z=>by cases z),fun _=>zI ?_⟩
   exact noD (by decide) (noT (by decide) (noH (by decide) (ZG hd (.set (z:= .non) (.inl rfl)) (by simp [xY]) (fun o z=>by rw [show o=x by simpa [xY] using z];exact h) fun S' k=>⟨by simp [xY],k⟩)))
 | @set3 n s x y h g=>
  refine VE rfl rfl ?_
  dsimp only [List.map,HAppend.hAppend,Append.append,List.append,List.replicate]
  rw [Vh]
  walk_at "w"
  refine zL (xr ?_)
  walk_at "w"
  refine in2 ⟨_,rfl,fun _=> ?_,(fun z=>by cases z)⟩
  refine vt (zcJ ?_)
  walk_at "w"
  refine ⟨d,szX bs,.inr n,Ul hd,rfl,_,rfl,?_⟩
  rw [Tu]
  cases e:Wh bs n with
  |none=>
   refine ⟨fun _=> ?_,(fun z=>by cases z)⟩
   walk_at "w"
   exact ⟨rfl,Kn.refl⟩
  |some s=>
   refine ⟨(fun z=>by cases z),fun _=>zI ?_⟩
   exact noD (by decide) (noT (by decide) (noH (by decide) (ZG hd (.set (z:= .non) (.inr rfl)) (by simp [xY]) (fun o z=>by rcases (by simpa [xY] using z) with rfl|rfl<;>assumption) fun S' k=>⟨by simp [xY],k⟩)))
 | @draw n ws hl=>
  refine VE rfl rfl ?_
  dsimp only [List.map,HAppend.hAppend,Append.append,List.append,List.replicate]
  rw [Vh]
  walk_at "w"
  refine zL (xr ?_)
  walk_at "w"
  refine in2 ⟨_,rfl,fun _=> ?_,(fun z=>by cases z)⟩
  refine vt (zcJ ?_)
  walk_at "w"
  refine ⟨d,szX bs,.inr n,Ul hd,rfl,_,rfl,?_⟩
  rw [Tu]
  cases e:Wh bs n with
  |none=>
   refine ⟨fun _=> ?_,(fun z=>by cases z)⟩
   walk_at "w"
   exact ⟨rfl,Kn.refl⟩
  |some s=>
   refine ⟨(fun z=>by cases z),fun _=>zI ?_⟩
   unfold zf7
   refine zE (zL (xr ?_))
   walk_at "w"
   refine yN ⟨_,rfl,fun _=> ?_,(fun z=>by cases z)⟩
   walk_at "w"
   refine wX rfl (z:= .tup (ws.map Xv.int)) rfl ?_
   walk_at "w"
   refine zjc ?_
   walk_at "w"
   refine ⟨d,szX bs,.inr n,.int s,Ul hd,rfl,by rw [Tu,e];rfl,?_⟩
   walk_at "w"
   refine (zbL hl).imp ?_
   rintro _ S2 ⟨rfl,k2⟩
   refine ⟨_,rfl,fun h=> ?_,fun h=> ?_⟩
   ·walk_at "w"
    exact ⟨by show Xv.bl false=Xv.bl (wOk ws s);rw [show wOk ws s=false by simpa using h],k2⟩
   ·refine zI ?_
    exact noT (by decide) (noH (by decide) (ZG (k2.at hd) (.none (by decide) (by decide) (by decide) (by decide) (by decide)) (Nat.zero_le _) (fun o h=>by cases h) fun S' k=>⟨by show Xv.bl true=Xv.bl (wOk ws s);rw [show wOk ws s=true by simpa using h],k2.trans k⟩))
end
section
variable {fu:Nat} {S S' S2:Sto} {x y:Xv} {ns:List Int} {bs:List (Str×Int)}
inductive Nd:Xv→List (List Xv)→Option Int→Bool→Prop where
 |plain {w:Str} {r:List Xv}:w≠"if"→w≠"while"→w≠"times"→w≠"hand"→Nd (.tup (.str w::r)) [] none false
 |cond {t:Xv} {u w:List Xv}:Nd (.tup [.str "if",t,.tup u,.tup w]) [u,w] none true
 |whil {t:Xv} {u:List Xv}:Nd (.tup [.str "while",t,.tup u]) [u] none true
 |times {k:Int} {u:List Xv}:Nd (.tup [.str "times",.int k,.tup u]) [u] (some k) true
 |hand {us:List (List Xv)}:Nd (.tup [.str "hand",.tup (us.map Xv.tup)]) us none true
inductive Kd where
 |d (x:Xv)|b (l:List Xv)|s (l:List (List Xv))
noncomputable def zmW:Option Int→Int→Int
 |none,m=>m
 |some k,m=>(if 1<k then k else 1)*(1+m)
inductive Tr (bs:List (Str×Int)):Kd→Int→Nat→Bool→Nat→Prop where
 |deed {x:Xv} {us:List (List Xv)} {tk:Option Int} {bk b g:Bool} {m:Int} {p c:Nat}:Nd x us tk bk→Own bs x b→Tr bs (.s us) m p g c→Tr bs (.d x) (1+zmW tk m) (if bk=true then 1+p else 0) (b&&g) (c+1)
 |nil:Tr bs (.b []) 0 0 true 1
 |cons {x:Xv} {r:List Xv} {n m:Int} {q p c e:Nat} {g h:Bool}:Tr bs (.d x) n q g c→Tr bs (.b r) m p h e→Tr bs (.b (x::r)) (n+m) (max q p) (g&&h) (c+e)
 |nils:Tr bs (.s []) 0 0 true 0
 |conss {u:List Xv} {r:List (List Xv)} {n m:Int} {q p c e:Nat} {g h:Bool}:Tr bs (.b u) n q g c→Tr bs (.s r) m p h e→Tr bs (.s (u::r)) (n+m) (max q p) (g&&h) (c+e)
theorem zbb {us:List (List Xv)} {tk:Option Int} {bk:Bool} (h:Nd x us tk bk):W (xM fu [x] S) fun v S'=>v= .tup (us.map Xv.tup)∧S=S':=by
 walk_at "wr";unfold XQ
 have no:∀{w v:Str} {r:List Xv} {a:TwS} {N:Rho→Sto→Prop} {R:Xv→Sto→Prop},w≠v→N [some (.tup (.str w::r))] S→WS (sIf (bE (eOp (yV false) (eOp yE (ze 0) (eC (.int 0))) (eC (.str v)))) a zO [some (.tup (.str w::r))] S) N R:=by
  intro w v r a N R h k
  refine zL ?_
  walk_at "w"
  exact xi h ⟨_,rfl,(fun z=>by cases z),fun _=>zI k⟩
 have no2:∀{w:Str} {r:List Xv} {a:TwS} {N:Rho→Sto→Prop} {R:Xv→Sto→Prop},w≠"while"→w≠"times"→N [some (.tup (.str w::r))] S→WS (sIf (bOr (bE (eOp (yV false) (eOp yE (ze 0) (eC (.int 0))) (eC (.str "while")))) (bE (eOp (yV false) (eOp yE (ze 0) (eC (.int 0))) (eC (.str "times"))))) a zO [some (.tup (.str w::r))] S) N R:=by
  intro w r a N R h h2 k
  refine zL (Xh ?_)
  walk_at "w"
  refine xi h ⟨_,rfl,(fun z=>by cases z),fun _=> ?_⟩
  walk_at "w"
  exact xi h2 ⟨_,rfl,(fun z=>by cases z),fun _=>zI k⟩
 cases h with
 |plain h1 h2 h3 h4=>
  refine zE (no h1 (zE (no2 h2 h3 (zE (no h4 ?_)))))
  walk_at "w"
  exact ⟨rfl,rfl⟩
 |cond=>
  refine zE (zL ?_)
  walk_at "w"
  refine yN ⟨_,rfl,fun _=> ?_,(fun z=>by cases z)⟩
  walk_at "w"
  refine wX rfl rfl ?_
  walk_at "w"
  refine wX rfl rfl ?_
  walk_at "w"
  exact ⟨rfl,rfl⟩
 |whil=>
  refine zE (no (by decide) (zE (zL (Xh ?_))))
  walk_at "w"
  refine yN ⟨_,rfl,fun _=>⟨fun _=> ?_,(fun z=>by cases z)⟩,(fun z=>by cases z)⟩
  walk_at "w"
  refine wX rfl rfl ?_
  walk_at "w"
  exact ⟨rfl,rfl⟩
 |times=>
  refine zE (no (by decide) (zE (zL (Xh ?_))))
  walk_at "w"
  refine xi (by decide) ⟨_,rfl,(fun z=>by cases z),fun _=> ?_⟩
  walk_at "w"
  refine yN ⟨_,rfl,fun _=> ?_,(fun z=>by cases z)⟩
  walk_at "w"
  refine wX rfl rfl ?_
  walk_at "w"
  exact ⟨rfl,rfl⟩
 |hand=>
  refine zE (no (by decide) (zE (no2 (by decide) (by decide) (zE (zL ?_)))))
  walk_at "w"
  refine yN ⟨_,rfl,fun _=> ?_,(fun z=>by cases z)⟩
  walk_at "w"
  exact ⟨rfl,rfl⟩
theorem Tr.bd {kd:Kd} {n:Int} {q c:Nat} {g:Bool} (h:Tr bs kd n q g c):g=true→0≤n∧n≤(c:Int)*122^q:=by
 induction h with
 | @deed x us tk bk b g m p c nd ow h ih=>
  intro e
  rw [Bool.and_eq_true] at e
  obtain ⟨i1,i2⟩:=ih e.2
  have h1:(1:Int)≤122^p:=by exact_mod_cast Nat.one_le_pow p 122 (by decide)
  have h2:(122:Int)^(1+p)=122*122^p:=by rw [Nat.add_comm,Int.pow_succ,Int.mul_comm]
  have h3:0≤(c:Int)*122^p:=Int.mul_nonneg (by omega) (by omega)
  have key:∀k:Int,1≤k→k≤60→0≤1+k*(1+m)∧1+k*(1+m)≤((c+1:Nat):Int)*122^(1+p):=by
   intro k k1 k60
   have a1:0≤k*(1+m):=Int.mul_nonneg (by omega) (by omega)
   have a2:k*(1+m)≤60*(1+m):=Int.mul_le_mul_of_nonneg_right k60 (by omega)
   rw [h2,Int.natCast_add,Int.add_mul]
   have a3:(c:Int)*(122*122^p)=122*((c:Int)*122^p):=by rw [←Int.mul_assoc,Int.mul_comm (c:Int) 122,Int.mul_assoc]
   rw [a3]
   constructor<;>omega
  have kinds:bk=true→0≤1+m∧1+m≤((c+1:Nat):Int)*122^(1+p):=by
   intro _
   have:=key 1 (by omega) (by omega)
   rw [Int.one_mul] at this
   rw [h2,Int.natCast_add,Int.add_mul] at*
   omega
  cases nd with
  |plain=>
   cases h
   exact ⟨by decide,by decide⟩
  |cond=>exact kinds rfl
  |whil=>exact kinds rfl
  |hand=>exact kinds rfl
  | @times k u=>
   have hk:0≤k∧k≤60:=by
    have:=e.1
    cases ow
    exact of_decide_eq_true this
   show 0≤1+(if 1<k then k else 1)*(1+m)∧1+(if 1<k then k else 1)*(1+m)≤((c+1:Nat):Int)*122^(1+p)
   split
   ·exact key k (by omega) hk.2
   ·exact key 1 (by omega) (by omega)
 |nil=>exact fun _=>⟨by decide,by decide⟩
 |nils=>exact fun _=>⟨by decide,by decide⟩
 | @cons x r n m q p c e g h _ _ ih1 ih2=>
  intro z
  rw [Bool.and_eq_true] at z
  obtain ⟨a1,a2⟩:=ih1 z.1
  obtain ⟨b1,b2⟩:=ih2 z.2
  refine ⟨by omega,?_⟩
  have m1:(c:Int)*122^q≤c*122^(max q p):=Int.mul_le_mul_of_nonneg_left (by exact_mod_cast Nat.pow_le_pow_right (by decide) (Nat.le_max_left _ _)) (by omega)
  have m2:(e:Int)*122^p≤e*122^(max q p):=Int.mul_le_mul_of_nonneg_left (by exact_mod_cast Nat.pow_le_pow_right (by decide) (Nat.le_max_right _ _)) (by omega)
  rw [Int.natCast_add,Int.add_mul]
  omega
 | @conss x r n m q p c e g h _ _ ih1 ih2=>
  intro z
  rw [Bool.and_eq_true] at z
  obtain ⟨a1,a2⟩:=ih1 z.1
  obtain ⟨b1,b2⟩:=ih2 z.2
  refine ⟨by omega,?_⟩
  have m1:(c:Int)*122^q≤c*122^(max q p):=Int.mul_le_mul_of_nonneg_left (by exact_mod_cast Nat.pow_le_pow_right (by decide) (Nat.le_max_left _ _)) (by omega)
  have m2:(e:Int)*122^p≤e*122^(max q p):=Int.mul_le_mul_of_nonneg_left (by exact_mod_cast Nat.pow_le_pow_right (by decide) (Nat.le_max_right _ _)) (by omega)
  rw [Int.natCast_add,Int.add_mul]
  omega
noncomputable def zmX:Kd→Nat→Prop
 | .d _,c=>1≤c
 | .b l,c=>l.length+1≤c
 | .s l,c=>l.length≤c
theorem Tr.cnt {kd:Kd} {n:Int} {q c:Nat} {g:Bool} (h:Tr bs kd n q g c):zmX kd c:=by
 induction h with
 |deed=>exact Nat.le_add_left _ _
 |nil=>exact Nat.le_refl _
 |nils=>exact Nat.le_refl _
 | @cons x r n m q p c e g h _ _ ih1 ih2=>
  have ih1:1≤c:=ih1
  have ih2:r.length+1≤e:=ih2
  show (x::r).length+1≤c+e
  rw [List.length_cons]
  omega
 | @conss u r n m q p c e g h _ _ ih1 ih2=>
  have ih1:u.length+1≤c:=ih1
  have ih2:r.length≤e:=ih2
  show (u::r).length≤c+e
  rw [List.length_cons]
  omega
end
section
variable {fu:Nat} {S S' S2:Sto} {x y:Xv} {ns:List Int} {bs:List (Str×Int)}
noncomputable def Tv (f:TwF) (x:Xv) (m:Int):Prop:=∀S,W (f [x] S) fun v S'=>v= .int m∧Kn S S'
structure zbc (f:TwF) (l:List Xv) (ms:List Int):Prop where
 len:ms.length=l.length
 at_:∀(i:Nat) x m,l[i]? =some x→ms[i]? =some m→Tv f x m
theorem zbc.nil {f:TwF}:zbc f [] []:=⟨rfl,fun i x m e=>by simp at e⟩
theorem zbc.cons {f:TwF} {l:List Xv} {ms:List Int} {x:Xv} {m:Int} (h:Tv f x m) (g:zbc f l ms):zbc f (x::l) (m::ms):=⟨by rw [List.length_cons,List.length_cons,g.len],fun i y k e1 e2=>by
 cases i with
 |zero=>cases e1;cases e2;exact h
 |succ i=>exact g.at_ i y k (by simpa using e1) (by simpa using e2)⟩
theorem zfi {ms:List Int} {n:Nat} (h:ms.length=n):(List.range n).map (fun i=>Xv.int (ms.getD i 0))=ms.map Xv.int:=by
 refine List.ext_getElem? fun i=> ?_
 by_cases hi:i<n
 ·rw [List.getElem?_map,List.getElem?_range hi,List.getElem?_map,List.getElem?_eq_getElem (by omega)]
  show some (Xv.int (ms.getD i 0))=some (Xv.int ms[i])
  rw [List.getD_eq_getElem?_getD,List.getElem?_eq_getElem (by omega)]
  rfl
 ·rw [List.getElem?_eq_none (by simp;omega),List.getElem?_eq_none (by simp;omega)]
theorem UK {P:Xv→Sto→Prop} {ρ:Rho} {n:TwI} {f:TwF} {xs:List Xv} {ms:List Int} (hl:xs.length≤1000) (hn:W (n ρ S) fun get S1=>(∀S',Kn S1 S'→get S'=some xs)∧Kn S S1) (hp:zbc f xs ms)
  (k:∀S',Kn S S'→P (.ref S'.length) (S'++[.lst (ms.map Xv.int)])):W (xl [none] n (gN 0) xq (zv f [(ze 0)]) ρ S) P:=by
 refine Yg (xs:=xs) (f:=fun i=> .int (ms.getD i 0)) (Nat.le_of_lt (Nat.lt_of_le_of_lt hl (by decide))) hn ?_ ?_
 ·intro i x S2 hx k2
  have hi:=(List.getElem?_eq_some_iff.1 hx).1
  have hm:ms[i]? =some (ms.getD i 0):=by
   rw [List.getD_eq_getElem?_getD,List.getElem?_eq_getElem (by rw [hp.len];exact hi)]
   rfl
  show W (zv f [(ze 0)] [some x] S2) _
  walk_at "w"
  exact (hp.at_ i x _ hx hm) S2
 ·intro S2 k2
  rw [zfi hp.len]
  exact k S2 k2
noncomputable def zmY (fu:Nat):Kd→Int→Nat→Prop
 | .d x,n,q=>∀f,2*q+1≤f→Tv (yo fu f) x n
 | .b l,n,q=>∃ms:List Int,ms.sum=n∧∀f,2*q+1≤f→zbc (yo fu f) l ms
 | .s us,n,q=>∃ms:List Int,ms.sum=n∧∀f,2*q+2≤f→zbc (yj fu f) (us.map Xv.tup) ms
theorem zkg {l:List Xv} {n:Int} {q:Nat} (hl:l.length≤1000) (h:zmY fu (.b l) n q):∀f,2*q+2≤f→Tv (yj fu f) (.tup l) n:=by
 obtain ⟨ms,rfl,h⟩:=h
 intro f hf S
 obtain ⟨f,rfl⟩:∃e,f=e+1:=⟨f-1,by omega⟩
 rw [Yr]
 walk_at "wr";unfold ZB
 walk_at "w"
 refine UK hl (Vz (by walk_at "w";exact ⟨rfl,Kn.refl⟩)) (h f (by omega)) fun S' k=> ?_
 walk_at "w"
 exact zff (zR yJ) (Yh _) ⟨rfl,k.app⟩
theorem zmZ {q:Nat} (h:q≤13):(122:Int)^q≤2^100:=by
 have:(122:Nat)^q≤2^100:=Nat.le_trans (Nat.pow_le_pow_right (by decide) h) (by decide)
 exact_mod_cast this
theorem Tr.small {kd:Kd} {n:Int} {q c:Nat} {g:Bool} (h:Tr bs kd n q g c) (hg:g=true) (hc:c≤1000) (hq:q≤13):0≤n∧n<2^120:=by
 obtain ⟨h1,h2⟩:=h.bd hg
 have h3:=zmZ hq
 have h4:(c:Int)*122^q≤1000*2^100:=Int.mul_le_mul (by omega) h3 (by exact_mod_cast Nat.zero_le _) (by decide)
 exact ⟨h1,by omega⟩
theorem Tr.lenM {kd:Kd} {n:Int} {q c:Nat} {g:Bool} (h:Tr bs kd n q g c):g=true→c≤1000→q≤13→zmY fu kd n q:=by
 induction h with
 |nil=>exact fun _ _ _=>⟨[],rfl,fun _ _=> .nil⟩
 |nils=>exact fun _ _ _=>⟨[],rfl,fun _ _=> .nil⟩
 | @cons x r n m q p c e g h t1 t2 ih1 ih2=>
  intro z hc hq
  rw [Bool.and_eq_true] at z
  have i1:=ih1 z.1 (by omega) (by omega)
  obtain ⟨ms,rfl,i2⟩:=ih2 z.2 (by omega) (by omega)
  exact ⟨n::ms,rfl,fun f hf=> .cons (i1 f (by omega)) (i2 f (by omega))⟩
 | @conss u r n m q p c e g h t1 t2 ih1 ih2=>
  intro z hc hq
  rw [Bool.and_eq_true] at z
  have hl:u.length+1≤c:=t1.cnt
  have i1:=zkg (by omega) (ih1 z.1 (by omega) (by omega))
  obtain ⟨ms,rfl,i2⟩:=ih2 z.2 (by omega) (by omega)
  exact ⟨n::ms,rfl,fun f hf=> .cons (i1 f (by omega)) (i2 f (by omega))⟩
 | @deed x us tk bk b g m p c nd ow t ih=>
  intro z hc hq
  rw [Bool.and_eq_true] at z
  have hp:p≤13:=by
   cases nd with
   |plain=>cases t;decide
   |cond=>exact Nat.le_of_succ_le (by simpa [Nat.add_comm] using hq)
   |whil=>exact Nat.le_of_succ_le (by simpa [Nat.add_comm] using hq)
   |times=>exact Nat.le_of_succ_le (by simpa [Nat.add_comm] using hq)
   |hand=>exact Nat.le_of_succ_le (by simpa [Nat.add_comm] using hq)
  obtain ⟨ms,hms,i2⟩:=ih z.2 (by omega) hp
  obtain ⟨m0,m1⟩:=t.small z.2 (by omega) hp
  have hus:us.length≤c:=t.cnt
  intro f hf S
  obtain ⟨f,rfl⟩:∃e,f=e+1:=⟨f-1,by omega⟩
  have pts:zbc (yj fu f) (us.map Xv.tup) ms:=by
   cases nd with
   |plain=>
    have:=(i2 (2*p+2) (Nat.le_refl _)).len
    obtain rfl:ms=[]:=List.length_eq_zero_iff.1 this
    exact .nil
   |cond=>exact i2 f (by simp at hf;omega)
   |whil=>exact i2 f (by simp at hf;omega)
   |times=>exact i2 f (by simp at hf;omega)
   |hand=>exact i2 f (by simp at hf;omega)
  rw [Zs]
  walk_at "wr";unfold vc
  walk_at "w"
  refine UK (by rw [List.length_map];omega) (Vz ?_) pts fun S' k=> ?_
  ·walk_at "w"
   refine (zbb nd).imp ?_
   rintro _ _ ⟨rfl,rfl⟩
   exact ⟨rfl,Kn.refl⟩
  walk_at "w"
  refine zff (zR yJ) (Yh _) ?_
  rw [hms]
  walk_at "w"
  have no:∀{w:Str} {r:List Xv} {S2:Sto},w≠"times"→Kn S S2→WS (sIf (bE (eOp (yV false) (eOp yE (ze 0) (eC (.int 0))) (eC (.str "times")))) (zY (eOp xX (eC (.int 1)) (eOp Vr (eFn zi3 [(eOp yE (ze 0) (eC (.int 1))),(eC (.int 1))]) (eOp xX (eC (.int 1)) (ze 1))))) zO [some (.tup (.str w::r)),some (.int m)] S2) (fun ρ S3=>WS (zY (eOp xX (eC (.int 1)) (ze 1)) ρ S3) (fun x S1=>Xv.non= .int (1+m)∧Kn S S1) (fun v S'=>v= .int (1+m)∧Kn S S')) (fun v S'=>v= .int (1+m)∧Kn S S'):=by
   intro w r S2 hw k2
   refine zL ?_
   walk_at "w"
   refine xi hw ⟨_,rfl,(fun z=>by cases z),fun _=>zI ?_⟩
   walk_at "w"
   exact ⟨rfl,k2⟩
  cases nd with
  |plain h1 h2 h3 h4=>exact no h3 k.app
  |cond=>exact no (by decide) k.app
  |whil=>exact no (by decide) k.app
  |hand=>exact no (by decide) k.app
  | @times j u=>
   have hj:0≤j∧j≤60:=by
    have:=z.1
    cases ow
    exact of_decide_eq_true this
   refine zL ?_
   walk_at "w"
   refine yN ⟨_,rfl,fun _=> ?_,(fun z=>by cases z)⟩
   walk_at "w"
   have b1:intBits (if 1>j then 1 else j)≤10:=PySem.intBits_le_iff.mpr (by split<;>omega)
   have b2:intBits (1+m)≤200:=PySem.intBits_le_iff.mpr (by
    have:(1+m).natAbs≤2^120:=by omega
    exact Nat.lt_of_le_of_lt this (by decide))
   refine Va (by omega) ?_
   walk_at "w"
   refine ⟨?_,k.app⟩
   show Xv.int (1+_*(1+m))=Xv.int (1+(if 1<j then j else 1)*(1+m))
   by_cases h:1<j
   ·rw [if_pos h,if_neg (by omega)]
   ·rw [if_neg h]
    by_cases h2:1>j
    ·rw [if_pos h2]
    ·rw [if_neg h2,show j=1 by omega]
theorem zig {l:List Xv} {n:Int} {q c:Nat} (h:Tr bs (.b l) n q true c) (hc:c≤1000) (hq:q≤13):W (yj fu 40 [.tup l] S) fun v S'=>v= .int n∧Kn S S':=by
 have hl:l.length+1≤c:=h.cnt
 exact zkg (by omega) (h.lenM rfl hc hq) 40 (by omega) S
end
section
variable {fu:Nat} {S S' S2:Sto} {x y:Xv} {ns:List Int} {bs:List (Str×Int)}
noncomputable abbrev nI (qs:List Nat):List Int:=qs.map fun (q:Nat)=>(q:Int)
theorem zbd:∀(qs:List Nat) (a:Nat),(nI qs).foldl (fun a b=>if b>a then b else a) (a:Int)=((max a (qs.foldr max 0):Nat):Int)
 |[],a=>by simp [nI]
 |q::r,a=>by
  rw [nI,List.map_cons,List.foldl_cons,List.foldr_cons]
  by_cases h:(q:Int)>a
  ·rw [if_pos h]
   have:=zbd r q
   rw [nI] at this
   rw [this]
   congr 1
   omega
  ·rw [if_neg h]
   have:=zbd r a
   rw [nI] at this
   rw [this]
   congr 1
   omega
theorem zeg (qs:List Nat):zcM 0 (nI qs)=((qs.foldr max 0:Nat):Int):=by
 unfold zcM
 cases qs with
 |nil=>rfl
 |cons q r=>
  rw [if_neg (by simp [nI])]
  unfold zmQ
  have:=zbd (q::r) q
  rw [show (nI (q::r)).headD 0=(q:Int) from rfl,this,List.foldr_cons]
  congr 1
  omega
noncomputable def zm0 (fu:Nat):Kd→Nat→Prop
 | .d x,q=>∀f,2*q+1≤f→Tv (yz fu f) x q
 | .b l,q=>∃qs:List Nat,qs.foldr max 0=q∧∀f,2*q+1≤f→zbc (yz fu f) l (nI qs)
 | .s us,q=>∃qs:List Nat,qs.foldr max 0=q∧∀f,2*q+2≤f→zbc (yt fu f) (us.map Xv.tup) (nI qs)
theorem zkh {l:List Xv} {q:Nat} (hl:l.length≤1000) (h:zm0 fu (.b l) q):∀f,2*q+2≤f→Tv (yt fu f) (.tup l) q:=by
 obtain ⟨ms,rfl,h⟩:=h
 intro f hf S
 obtain ⟨f,rfl⟩:∃e,f=e+1:=⟨f-1,by omega⟩
 rw [Xi]
 walk_at "wr";unfold Ys
 walk_at "w"
 refine UK hl (Vz (by walk_at "w";exact ⟨rfl,Kn.refl⟩)) (h f (by omega)) fun S' k=> ?_
 walk_at "w"
 refine zf0 (zR yJ) (Yh _) ?_
 rw [zeg]
 exact ⟨rfl,k.app⟩
theorem in4 {w:Str} {P:Xv→Sto→Prop} (k:P (.bl (!decide (w="if"∨w="while"∨w="times"∨w="hand"))) S):WO (dIn true (.str w) (.ct [.str "if",.str "while",.str "times",.str "hand"]) S) P:=by
 refine TD rfl rfl ?_
 have e:(true !=List.any [Xv.str "if",Xv.str "while",Xv.str "times",Xv.str "hand"] fun z=>zcF z (.str w))= !decide (w="if"∨w="while"∨w="times"∨w="hand"):=by
  show (true !=(decide (Str.ofString "if"=w)||(decide (Str.ofString "while"=w)||(decide (Str.ofString "times"=w)||(decide (Str.ofString "hand"=w)||false)))))=_
  by_cases h1:w="if"
  ·subst h1;simp
  ·by_cases h2:w="while"
   ·subst h2;simp
   ·by_cases h3:w="times"
    ·subst h3;simp
    ·by_cases h4:w="hand"
     ·subst h4;simp
     ·simp [h1,h2,h3,h4,Ne.symm h1,Ne.symm h2,Ne.symm h3,Ne.symm h4]
 rw [e]
 exact k
theorem Tr.depM {kd:Kd} {n:Int} {q c:Nat} {g:Bool} (h:Tr bs kd n q g c):c≤1000→zm0 fu kd q:=by
 induction h with
 |nil=>exact fun _=>⟨[],rfl,fun _ _=> .nil⟩
 |nils=>exact fun _=>⟨[],rfl,fun _ _=> .nil⟩
 | @cons x r n m q p c e g h t1 t2 ih1 ih2=>
  intro hc
  have i1:=ih1 (by omega)
  obtain ⟨ms,rfl,i2⟩:=ih2 (by omega)
  exact ⟨q::ms,rfl,fun f hf=> .cons (i1 f (by omega)) (i2 f (by omega))⟩
 | @conss u r n m q p c e g h t1 t2 ih1 ih2=>
  intro hc
  have hl:u.length+1≤c:=t1.cnt
  have i1:=zkh (by omega) (ih1 (by omega))
  obtain ⟨ms,rfl,i2⟩:=ih2 (by omega)
  exact ⟨q::ms,rfl,fun f hf=> .cons (i1 f (by omega)) (i2 f (by omega))⟩
 | @deed x us tk bk b g m p c nd ow t ih=>
  intro hc
  obtain ⟨ms,hms,i2⟩:=ih (by omega)
  have hus:us.length≤c:=t.cnt
  intro f hf S
  obtain ⟨f,rfl⟩:∃e,f=e+1:=⟨f-1,by omega⟩
  rw [ZV]
  walk_at "wr";unfold vQ
  have yes:∀{w:Str} {r:List Xv},x= .tup (.str w::r)→(w="if"∨w="while"∨w="times"∨w="hand")→bk=true→WS (zH (sIf (bE (eOp (dIn true) (eOp yE (ze 0) (eC (.int 0))) (eC (.ct [.str "if",.str "while",.str "times",.str "hand"])))) (zY (eC (.int 0))) zO) (zY (eOp xX (eC (.int 1)) (eUn (zaS 0) (xl [none] (iT (zv (xM fu) [(ze 0)])) (gN 0) xq (zv (yt fu f) [(ze 0)]))))) [some x] S) (fun x S1=>Xv.non= .int ((if bk=true then 1+p else 0:Nat):Int)∧Kn S S1) (fun v S'=>v= .int ((if bk=true then 1+p else 0:Nat):Int)∧Kn S S'):=by
   rintro w r rfl hw rfl
   refine zE (zL ?_)
   walk_at "w"
   refine in4 ⟨_,rfl,(fun z=>by rw [decide_eq_true hw] at z;cases z),fun _=>zI ?_⟩
   walk_at "w"
   refine UK (by rw [List.length_map];omega) (Vz ?_) (i2 f (by simp at hf;omega)) fun S' k=> ?_
   ·walk_at "w"
    refine (zbb nd).imp ?_
    rintro _ _ ⟨rfl,rfl⟩
    exact ⟨rfl,Kn.refl⟩
   walk_at "w"
   refine zf0 (zR yJ) (Yh _) ?_
   rw [zeg,hms]
   walk_at "w"
   exact ⟨by rw [if_pos rfl,Int.natCast_add];rfl,k.app⟩
  cases nd with
  | @plain w r h1 h2 h3 h4=>
   refine zE (zL ?_)
   walk_at "w"
   refine in4 ⟨_,rfl,fun _=> ?_,(fun z=>by
    rw [decide_eq_false (fun q=>by rcases q with q|q|q|q<;>contradiction)] at z
    cases z)⟩
   walk_at "w"
   exact ⟨rfl,Kn.refl⟩
  |cond=>exact yes rfl (.inl rfl) rfl
  |whil=>exact yes rfl (.inr (.inl rfl)) rfl
  |times=>exact yes rfl (.inr (.inr (.inl rfl))) rfl
  |hand=>exact yes rfl (.inr (.inr (.inr rfl))) rfl
theorem zjF {l:List Xv} {n:Int} {q c:Nat} {g:Bool} (h:Tr bs (.b l) n q g c) (hc:c≤1000) (hq:q≤15):W (yt fu 40 [.tup l] S) fun v S'=>v= .int q∧Kn S S':=by
 have hl:l.length+1≤c:=h.cnt
 exact zkh (by omega) (h.depM hc) 40 (by omega) S
end
section
variable {fu:Nat} {S S' S2:Sto} {x y:Xv} {ns:List Int} {bs:List (Str×Int)}
noncomputable abbrev Fl2:=List (Xv×Bool)
noncomputable def dwT (f:TwF) (u:List Xv) (fl:Fl2):Prop:=∀S,W (f [.tup u] S) fun v S'=>∃n,v= .ref n∧S'[n]? =some (.lst (fl.map (·.1)))∧S.length≤n∧Kn S S'
inductive zfj (f:TwF):List (List Xv)→Fl2→Prop where
 |nil:zfj f [] []
 |cons {u:List Xv} {r:List (List Xv)} {a b:Fl2}:dwT f u a→zfj f r b→zfj f (u::r) (a++b)
inductive DwL (f:TwF):List Xv→Fl2→Prop where
 |nil:DwL f [] []
 |cons {x:Xv} {r:List Xv} {us:List (List Xv)} {tk:Option Int} {bk b:Bool} {a c:Fl2}:Nd x us tk bk→zfj f us a→DwL f r c→us.length≤1000→DwL f (x::r) ((x,b)::(a++c))
structure zjG (bs:List (Str×Int)) (fl:Fl2) (g:Bool) (c:Nat):Prop where
 own:∀p∈fl,Own bs p.1 p.2
 all:fl.all (·.2)=g
 len:fl.length≤c
theorem zgU {zs:List Xv} (h:yx S y=some zs):Wf S y=some zs:=by
 cases y with
 |ref n=>exact h
 |_=>cases h
theorem zcf {P:Xv→Sto→Prop} {n:Nat} {l zs:List Xv} (h:Ue S x=some (n,l)) (h2:yx S y=some zs) (hl:l.length+zs.length≤sizeLine) (k:P .non (S.set n (.lst (l++zs)))):WO (Xy x [y] S) P:= .of (by
 unfold Xy
 rw [h]
 dsimp only
 rw [show Wf S y=some zs from zgU h2,Option.bind_some,if_pos hl]) k
theorem zm1 {f:Nat} {l:List Xv} {fl:Fl2} (hl:fl.length≤1000) (h:DwL (zW fu f) l fl):dwT (zW fu (f+1)) l fl:=by
 intro S
 rw [Zc]
 walk_at "wr";unfold wJ
 walk_at "w"
 refine Th (zdQ ?_)
 walk_at "w"
 refine WZ (fun i ρ S3=>∃(d r:Fl2) (a2 a3:Option Xv),ρ=[some (.tup l),some (.ref S.length),a2,a3]∧d++r=fl∧DwL (zW fu f) (l.drop i) r∧S3[S.length]? =some (.lst (d.map (·.1)))∧Kn S S3) (fun _ _ _ _ _=>rfl) ?_ ?_ ?_
 ·rintro i w ρ S3 hw ⟨d,r,a2,a3,rfl,hdr,hD,hat,kn⟩
  have hi:=(List.getElem?_eq_some_iff.1 hw).1
  have hd:l.drop i=w::l.drop (i+1):=by
   rw [List.drop_eq_getElem_cons hi,(List.getElem?_eq_some_iff.1 hw).2]
  rw [hd] at hD
  cases hD with
  | @cons _ _ us tk bk b a c nd hP hr hus=>
   have hlen:d.length+(1+(a.length+c.length))≤1000:=by
    have:=congrArg List.length hdr
    rw [List.length_append,List.length_cons,List.length_append] at this
    omega
   refine .of rfl ?_
   dsimp only [List.set]
   walk_at "w"
   refine zb7 ?_
   walk_at "w"
   refine ⟨⟨_,zR hat⟩,?_⟩
   walk_at "w"
   refine Vb (wF hat) (by rw [List.length_map];exact Nat.lt_of_le_of_lt (show _≤1000 by omega) (by decide)) ?_
   walk_at "w"
   refine Th (zdQ ?_)
   walk_at "w"
   refine (zbb nd).imp ?_
   rintro _ _ ⟨rfl,rfl⟩
   refine ⟨_,rfl,_,rfl,?_⟩
   refine WZ (fun j ρ S4=>∃(d2 r2:Fl2) (a3:Option Xv),ρ=[some (.tup l),some (.ref S.length),some w,a3]∧d2++r2=a∧zfj (zW fu f) (us.drop j) r2∧S4[S.length]? =some (.lst ((d++(w,b)::d2).map (·.1)))∧Kn S S4) (fun _ _ _ _ _=>rfl) ?_ ?_ ?_
   ·rintro j z ρ S4 hz ⟨d2,r2,a3,rfl,hdr2,hP2,hat2,kn2⟩
    rw [List.getElem?_map,Option.map_eq_some_iff] at hz
    obtain ⟨u,hz,rfl⟩:=hz
    have hj:=(List.getElem?_eq_some_iff.1 hz).1
    have hd2:us.drop j=u::us.drop (j+1):=by
     rw [List.drop_eq_getElem_cons hj,(List.getElem?_eq_some_iff.1 hz).2]
    rw [hd2] at hP2
    cases hP2 with
    | @cons _ _ e e2 hu hr2=>
     have hlen2:d2.length+(e.length+e2.length)=a.length:=by
      have:=congrArg List.length hdr2
      rw [List.length_append,List.length_append] at this
      omega
     refine .of rfl ?_
     dsimp only [List.set]
     walk_at "w"
     refine zb7 ?_
     walk_at "w"
     refine ⟨⟨_,zR hat2⟩,?_⟩
     walk_at "w"
     refine (hu S4).imp ?_
     rintro _ S5 ⟨n,rfl,hn,hge,kn5⟩
     walk_at "w"
     refine zcf (wF (kn5.at hat2)) (zR hn) (by rw [List.length_map,List.length_map,List.length_append,List.length_cons];exact Nat.le_of_lt (Nat.lt_of_le_of_lt (show _≤1000 by omega) (by decide))) ?_
     walk_at "w"
     refine ⟨d2++e,e2,_,rfl,by rw [List.append_assoc];exact hdr2,hr2,?_,(kn2.trans kn5).set (.inr (Nat.le_refl _))⟩
     rw [vH (kn5.at hat2)]
     congr 2
     simp
   ·exact ⟨[],a,_,rfl,rfl,hP,by rw [vH hat];simp,kn.set (.inr (Nat.le_refl _))⟩
   ·rintro ρ S4 ⟨d2,r2,a3,rfl,hdr2,hP2,hat2,kn2⟩
    rw [List.length_map,List.drop_length] at hP2
    cases hP2
    rw [List.append_nil] at hdr2
    subst hdr2
    exact ⟨d++(w,b)::d2,c,_,_,rfl,by rw [List.append_assoc];exact hdr,hr,hat2,kn2⟩
 ·exact ⟨[],fl,none,none,rfl,rfl,h,yJ,Kn.refl.app⟩
 ·rintro ρ S3 ⟨d,r,a2,a3,rfl,hdr,hD,hat,kn⟩
  rw [List.drop_length] at hD
  cases hD
  rw [List.append_nil] at hdr
  subst hdr
  walk_at "w"
  exact ⟨hat,Nat.le_refl _,kn⟩
noncomputable def Mdw (fu:Nat) (bs:List (Str×Int)):Kd→Nat→Bool→Nat→Prop
 | .d x,q,g,c=>∃(us:List (List Xv)) (tk:Option Int) (bk b:Bool) (a:Fl2),Nd x us tk bk∧us.length≤1000∧zjG bs ((x,b)::a) g c∧∀f,q≤f→zfj (zW fu f) us a
 | .b l,q,g,c=>∃fl,zjG bs fl g c∧∀f,q≤f→DwL (zW fu f) l fl
 | .s us,q,g,c=>∃fl,zjG bs fl g c∧∀f,q+1≤f→zfj (zW fu f) us fl
theorem Tr.dwM {kd:Kd} {n:Int} {q c:Nat} {g:Bool} (h:Tr bs kd n q g c):c≤1000→Mdw fu bs kd q g c:=by
 induction h with
 |nil=>exact fun _=>⟨[],⟨(fun p hp=>by cases hp),rfl,Nat.zero_le _⟩,fun _ _=> .nil⟩
 |nils=>exact fun _=>⟨[],⟨(fun p hp=>by cases hp),rfl,Nat.zero_le _⟩,fun _ _=> .nil⟩
 | @cons x r n m q p c e g h t1 t2 ih1 ih2=>
  intro hc
  obtain ⟨us,tk,bk,b,a,nd,hus,ok,i1⟩:=ih1 (by omega)
  obtain ⟨fl,ok2,i2⟩:=ih2 (by omega)
  refine ⟨(x,b)::(a++fl),⟨fun z hz=> ?_,?_,?_⟩,fun f hf=> .cons nd (i1 f (by omega)) (i2 f (by omega)) hus⟩
  ·rw [←List.cons_append,List.mem_append] at hz
   exact hz.elim (ok.own z) (ok2.own z)
  ·rw [←List.cons_append,List.all_append,ok.all,ok2.all]
  ·have:=ok.len
   have:=ok2.len
   rw [←List.cons_append,List.length_append]
   omega
 | @conss u r n m q p c e g h t1 t2 ih1 ih2=>
  intro hc
  obtain ⟨a,ok,i1⟩:=ih1 (by omega)
  obtain ⟨fl,ok2,i2⟩:=ih2 (by omega)
  refine ⟨a++fl,⟨fun z hz=> ?_,?_,?_⟩,fun f hf=> ?_⟩
  ·rw [List.mem_append] at hz
   exact hz.elim (ok.own z) (ok2.own z)
  ·rw [List.all_append,ok.all,ok2.all]
  ·have:=ok.len
   have:=ok2.len
   rw [List.length_append]
   omega
  ·obtain ⟨f,rfl⟩:∃e,f=e+1:=⟨f-1,by omega⟩
   exact .cons (zm1 (by have:=ok.len;omega) (i1 f (by omega))) (i2 _ (by omega))
 | @deed x us tk bk b g m p c nd ow t ih=>
  intro hc
  obtain ⟨fl,ok,i⟩:=ih (by omega)
  have hus:us.length≤c:=t.cnt
  refine ⟨us,tk,bk,b,fl,nd,by omega,⟨fun z hz=> ?_,?_,?_⟩,fun f hf=> ?_⟩
  ·rw [List.mem_cons] at hz
   rcases hz with rfl|hz
   ·exact ow
   ·exact ok.own z hz
  ·rw [List.all_cons,ok.all]
  ·have:=ok.len
   rw [List.length_cons]
   omega
  ·cases nd with
   |plain=>
    cases i (p+1) (Nat.le_refl _)
    exact .nil
   |cond=>exact i f (by simp at hf;omega)
   |whil=>exact i f (by simp at hf;omega)
   |times=>exact i f (by simp at hf;omega)
   |hand=>exact i f (by simp at hf;omega)
theorem zih {l:List Xv} {n:Int} {q c:Nat} {g:Bool} (h:Tr bs (.b l) n q g c) (hc:c≤1000) (hq:q≤15):∃fl,zjG bs fl g c∧∀S,W (zW fu 20 [.tup l] S) fun v S'=>∃n,v= .ref n∧S'[n]? =some (.lst (fl.map (·.1)))∧S.length≤n∧Kn S S':=by
 obtain ⟨fl,ok,i⟩:=h.dwM (fu:=fu) hc
 exact ⟨fl,ok,zm1 (f:=19) (by have:=ok.len;omega) (i 19 (by omega))⟩
end
section
variable {fu:Nat} {S S' S2:Sto} {x y:Xv} {ns:List Int} {bs:List (Str×Int)}
noncomputable def ABC:Str:="abcdefghijklmnopqrstuvwxyz"
noncomputable def nmF (z:Str):Bool:=decide (1≤z.length∧z.length≤8)&&z.cps.toList.all fun c=>inS ⟨#[c]⟩ ABC
noncomputable def asc (z:Str):Prop:=z.cps.all (· <128)=true
theorem zlI:∀n:Fin 26,inS ⟨#[97+n.1]⟩ ABC=true:=by decide+kernel
theorem AZ.asc {z:Str} (h:AZ z):asc z:=by
 unfold Prf.asc
 rw [Array.all_eq_true_iff_forall_mem]
 intro c hc
 have:=h c (by simpa using hc)
 simp
 omega
theorem AZ.nm {z:Str} (h:AZ z) (h1:1≤z.length) (h8:z.length≤8):nmF z=true:=by
 unfold nmF
 rw [decide_eq_true ⟨h1,h8⟩,Bool.true_and,List.all_eq_true]
 intro c hc
 obtain ⟨a,b⟩:=h c hc
 obtain ⟨n,rfl⟩:∃n,c=97+n:=⟨c-97,by omega⟩
 exact zlI ⟨n,by omega⟩
theorem zeh {z:Str} (ha:asc z) (hl:z.length≤100):W (ZS fu [.str z] S) fun v S'=>v= .bl (nmF z)∧Kn S S':=by
 walk_at "wr";unfold VN
 refine ZM (zah ?_)
 refine Uo ?_
 walk_at "w"
 refine zc7 (yF hl) ?_
 walk_at "w"
 refine ⟨fun h=> ?_,fun h=> ?_⟩
 ·have h:(1:Int)≤z.length:=of_decide_eq_true h
  walk_at "w"
  refine ⟨fun h2=> ?_,fun h2=> ?_⟩
  ·have h2:(z.length:Int)≤8:=of_decide_eq_true h2
   walk_at "w"
   walk_at "wr";unfold vN
   refine ZM ?_
   refine Xj (xs:=wM z) (p:=fun i=>inS ⟨#[z.cps.toList.getD i 0]⟩ ABC) ?_ ?_ ?_ ?_
   ·unfold wM
    rw [List.length_map,vo]
    exact yF hl
   ·refine zkc ?_
    walk_at "w"
    exact ⟨ha,fun _ _=>rfl,Kn.refl⟩
   ·intro i w S2 hw k2
    unfold wM at hw
    rw [List.getElem?_map,Option.map_eq_some_iff] at hw
    obtain ⟨c,e,rfl⟩:=hw
    show W (eOp zgP (ze 0) (ze 1) [some (.str ⟨#[c]⟩),some (.str ABC)] S2) _
    walk_at "w"
    refine zh0 ?_
    rw [List.getD_eq_getElem?_getD,e]
    exact ⟨rfl,Kn.refl⟩
   ·intro S2 k2
    have e:(wM z).length=z.cps.toList.length:=by unfold wM;rw [List.length_map]
    rw [e,wQ (q:=fun c=>inS ⟨#[c]⟩ ABC) (fun i a h=>by rw [List.getD_eq_getElem?_getD,h];rfl)]
    refine ⟨?_,k2⟩
    unfold nmF
    rw [decide_eq_true (show 1≤z.length∧z.length≤8 from ⟨by omega,by omega⟩),Bool.true_and]
  ·have h2:¬(z.length:Int)≤8:=of_decide_eq_false h2
   refine ⟨?_,Kn.refl⟩
   unfold nmF
   rw [decide_eq_false (by omega),Bool.false_and]
 ·have h:¬(1:Int)≤z.length:=of_decide_eq_false h
  refine ⟨_,rfl,(fun z=>by cases z),fun _=>⟨?_,Kn.refl⟩⟩
  unfold nmF
  rw [decide_eq_false (by omega),Bool.false_and]
theorem zei:∀(xs acc:List Str),(Za acc xs).length=acc.length+xs.length↔xs.Nodup∧∀x∈xs,x∉acc
 |[],acc=>by simp [Za]
 |x::r,acc=>by
  show (Za (if x∈acc then acc else acc++[x]) r).length=acc.length+(r.length+1)↔_
  by_cases h:x∈acc
  ·rw [if_pos h]
   have:=zaR r acc
   constructor
   ·intro e;omega
   ·intro e;exact absurd h (e.2 x (List.mem_cons_self ..))
  ·rw [if_neg h]
   have ih:=zei r (acc++[x])
   rw [List.length_append,List.length_singleton] at ih
   rw [show acc.length+(r.length+1)=acc.length+1+r.length by omega,ih,List.nodup_cons]
   constructor
   ·rintro ⟨h1,h2⟩
    refine ⟨⟨fun hx=>(h2 x hx) (by simp),h1⟩,fun y hy=> ?_⟩
    rcases List.mem_cons.1 hy with rfl|hy
    ·exact h
    ·exact fun z=>h2 y hy (by simp [z])
   ·rintro ⟨⟨h1,h2⟩,h3⟩
    refine ⟨h2,fun y hy z=> ?_⟩
    rcases List.mem_append.1 z with z|z
    ·exact h3 y (List.mem_cons_of_mem _ hy) z
    ·rw [List.mem_singleton] at z
     subst z
     exact h1 hy
theorem WN:∀xs:List Str,L2.Ut (xs.map Xv.str)=some xs
 |[]=>rfl
 |b::r=>by rw [List.map_cons];simp [L2.Ut,WN r]
noncomputable def szF (bs:List (Str×Int)):Bool:=bs.all fun b=>decide (1≤b.2∧b.2≤9)
noncomputable def bxF (bs:List (Str×Int)):Bool:=decide (bs.length≤9∧(bs.map (·.1)).Nodup)&&((bs.all fun b=>nmF b.1)&&(szF bs&&decide (xD bs≤1000)))
theorem zf8:∀{l:List (Str×Int)},szF l=true→1≤xD l∧xD l≤9^l.length
 |[],_=>⟨by decide,by decide⟩
 |b::r,h=>by
  unfold szF at h
  rw [List.all_cons,Bool.and_eq_true] at h
  obtain ⟨a1,a2⟩:=zf8 (l:=r) h.2
  have hb:=of_decide_eq_true h.1
  have e:(9:Int)^(b::r).length=9*9^r.length:=by rw [List.length_cons,Int.pow_succ,Int.mul_comm]
  show 1≤b.2*xD r∧b.2*xD r≤_
  rw [e]
  exact ⟨by have:=Int.mul_le_mul hb.1 a1 (by omega) (by omega);omega,Int.mul_le_mul hb.2 a2 (by omega) (by omega)⟩
theorem zfk (hl:bs.length≤20) (ha:∀b∈bs,asc b.1∧b.1.length≤100):W (XS fu [.tup (bs.map xB)] S) fun v S'=>v= .bl (bxF bs)∧Kn S S':=by
 walk_at "wr";unfold XR
 walk_at "w"
 refine Yg (xs:=bs.map xB) (f:=fun i=> .str ((bs.getD i ("",0)).1)) (by rw [List.length_map];exact yF (by omega)) (Vz (by walk_at "w";exact ⟨rfl,Kn.refl⟩)) ?_ ?_
 ·intro i w S2 hw k2
  rw [List.getElem?_map,Option.map_eq_some_iff] at hw
  obtain ⟨b,e,rfl⟩:=hw
  unfold xB
  walk_at "w"
  rw [List.getD_eq_getElem?_getD,e]
  exact ⟨rfl,Kn.refl⟩
 intro S2 k2
 have enm:(List.range (bs.map xB).length).map (fun i=>Xv.str ((bs.getD i ("",0)).1))=(bs.map (·.1)).map Xv.str:=by
  refine List.ext_getElem? fun i=> ?_
  by_cases hi:i<bs.length
  ·rw [List.getElem?_map,List.getElem?_range (by rw [List.length_map];exact hi),List.getElem?_map,List.getElem?_map,List.getElem?_eq_getElem hi]
   show some (Xv.str _)=some (Xv.str _)
   rw [List.getD_eq_getElem?_getD,List.getElem?_eq_getElem hi]
   rfl
  ·rw [List.getElem?_eq_none (by simp;omega),List.getElem?_eq_none (by simp;omega)]
 rw [enm]
 have hat:(S2++[Ce.lst ((bs.map (·.1)).map Xv.str)])[S2.length]? =some (.lst ((bs.map (·.1)).map Xv.str)):=yJ
 generalize hS3:S2++[Ce.lst ((bs.map (·.1)).map Xv.str)]=S3 at hat ⊢
 have k3:Kn S S3:=by rw [←hS3];exact k2.app
 walk_at "w"
 have len1:((bs.map (·.1)).map Xv.str).length=bs.length:=by rw [List.length_map,List.length_map]
 refine zL (Xh ?_)
 walk_at "w"
 refine xL (zR hat) ?_
 walk_at "w"
 rw [len1]
 refine ⟨fun h=> ?_,fun h=> ?_⟩
 ·have h:¬bs.length≤9:=by
   have:(bs.length:Int)>9:=of_decide_eq_true h
   omega
  refine ⟨fun _=> ?_,(fun z=>by cases z)⟩
  walk_at "w"
  refine ⟨?_,k3⟩
  unfold bxF
  rw [decide_eq_false (fun z=>h z.1),Bool.false_and]
 have h9:bs.length≤9:=by
  have:¬(bs.length:Int)>9:=of_decide_eq_false h
  omega
 walk_at "w"
 refine zgS (zR hat) (WN _) (by rw [List.length_map];omega) ?_
 walk_at "w"
 refine xL (zR hat) ?_
 walk_at "w"
 rw [len1]
 have hiff:=zei (bs.map (·.1)) []
 rw [List.length_map,List.length_nil,Nat.zero_add] at hiff
 refine ⟨fun h2=> ?_,fun h2=> ?_⟩
 ·have h2:(Za [] (bs.map (·.1))).length≠bs.length:=by
   intro z
   rw [z] at h2
   simp at h2
  walk_at "w"
  refine ⟨?_,k3⟩
  unfold bxF
  rw [decide_eq_false (fun z=>h2 (hiff.2 ⟨z.2,fun x _=>by simp⟩)),Bool.false_and]
 have hnd:(bs.map (·.1)).Nodup:=by
  refine (hiff.1 ?_).1
  have:((Za [] (bs.map (·.1))).length:Int)=bs.length:=by simpa using h2
  omega
 have e1:decide (bs.length≤9∧(bs.map (·.1)).Nodup)=true:=decide_eq_true ⟨h9,hnd⟩
 refine zI ?_
 refine zE (zL (vC (vt ?_)))
 refine Xj (xs:=(bs.map (·.1)).map Xv.str) (p:=fun i=>nmF (bs.getD i ("",0)).1) (by rw [len1];exact yF (by omega)) (zie (n:=S2.length) (by walk_at "w";exact ⟨rfl,zR hat,Kn.refl⟩)) ?_ ?_
 ·intro i w S4 hw k4
  rw [List.getElem?_map,List.getElem?_map,Option.map_map,Option.map_eq_some_iff] at hw
  obtain ⟨b,e,rfl⟩:=hw
  obtain ⟨b1,b2⟩:=ha b (List.mem_of_getElem? e)
  show W (zv (ZS fu) [(ze 0)] [some (.str b.1)] S4) _
  walk_at "w"
  refine (zeh b1 b2).imp ?_
  rintro _ S5 ⟨rfl,k5⟩
  rw [List.getD_eq_getElem?_getD,e]
  exact ⟨rfl,k5⟩
 intro S4 k4
 rw [len1,wQ (q:=fun b=>nmF b.1) (fun i a h=>by rw [List.getD_eq_getElem?_getD,h];rfl)]
 refine ⟨_,rfl,fun h3=> ?_,fun h3=> ?_⟩
 ·walk_at "w"
  refine ⟨?_,k3.trans k4⟩
  unfold bxF
  rw [e1,show (bs.all fun b=>nmF b.1)=false by simpa using h3]
  rfl
 have e2:(bs.all fun b=>nmF b.1)=true:=by simpa using h3
 refine zI ?_
 walk_at "w"
 refine Th (zdQ ?_)
 walk_at "w"
 refine WZ (fun i ρ S5=>∃a3 a4:Option Xv,ρ=[some (.tup (bs.map xB)),some (.ref S2.length),some (.int (xD (bs.take i))),a3,a4]∧szF (bs.take i)=true∧S5=S4) (fun _ _ _ _ _=>rfl) ?_ ?_ ?_
 ·rintro i w ρ S5 hw ⟨a3,a4,rfl,hz,rfl⟩
  rw [List.getElem?_map,Option.map_eq_some_iff] at hw
  obtain ⟨b,e,rfl⟩:=hw
  have hi:=(List.getElem?_eq_some_iff.1 e).1
  have htk:bs.take (i+1)=bs.take i++[b]:=by
   rw [List.take_succ_eq_append_getElem hi,(List.getElem?_eq_some_iff.1 e).2]
  refine .of rfl ?_
  dsimp only [List.set]
  walk_at "w"
  refine zL (vC (vt ?_))
  walk_at "w"
  refine UI.imp ?_
  rintro _ _ ⟨rfl,rfl⟩
  refine ⟨_,rfl,fun h4=> ?_,fun h4=> ?_⟩
  ·walk_at "w"
   refine ⟨?_,k3.trans k4⟩
   have h4:decide (1≤b.2∧b.2≤9)=false:=by
    cases hh:decide (1≤b.2∧b.2≤9) with
    |false=>rfl
    |true=>rw [hh] at h4;cases h4
   have:szF bs=false:=by
    unfold szF
    rw [List.all_eq_false]
    exact ⟨b,List.mem_of_getElem? e,by rw [h4];decide⟩
   unfold bxF
   rw [e1,e2,this]
   rfl
  ·have h4:decide (1≤b.2∧b.2≤9)=true:=by simpa using h4
   have hb:=of_decide_eq_true h4
   obtain ⟨p1,p2⟩:=zf8 hz
   have hl3:(bs.take i).length≤9:=by rw [List.length_take];omega
   have p3:(9:Int)^(bs.take i).length≤9^9:=by exact_mod_cast Nat.pow_le_pow_right (by decide) hl3
   refine zI ?_
   walk_at "w"
   refine Va (by
    have:intBits (xD (bs.take i))≤40:=PySem.intBits_le_iff.mpr (by omega)
    have:intBits b.2≤40:=PySem.intBits_le_iff.mpr (by omega)
    omega) ?_
   walk_at "w"
   refine ⟨some (.str b.1),some (.int b.2),?_,?_,rfl⟩
   ·rw [htk,Yf]
   ·unfold szF at hz ⊢
    rw [htk,List.all_append,hz,Bool.true_and,List.all_cons,h4]
    rfl
 ·exact ⟨none,none,rfl,rfl,rfl⟩
 ·rintro ρ S5 ⟨a3,a4,rfl,hz,rfl⟩
  rw [List.length_map,List.take_length] at hz ⊢
  walk_at "w"
  refine ⟨?_,k3.trans k4⟩
  unfold bxF
  rw [e1,e2,hz]
  rfl
end
section
variable {fu:Nat} {S S' S2:Sto} {x y:Xv} {ns:List Int} {bs:List (Str×Int)}
theorem zf9:∀bs:List (Str×Int),zdX (bs.map xB)=some (szX bs)
 |[]=>rfl
 |b::r=>by
  rw [List.map_cons]
  show (zdX (r.map xB)).map _=_
  rw [zf9 r]
  rfl
theorem zii {l:List Xv} {n:Int} {q c:Nat} {g:Bool} (hl:bs.length≤20) (ha:∀b∈bs,asc b.1∧b.1.length≤100) (hb:bxF bs=true) (h:Tr bs (.b l) n q g c) (hc:c≤1000) (hq:q≤15):
  W (YN fu [.tup [.tup (bs.map xB),.tup l]] S) fun v S'=>v= .bl (g&&(decide (q≤12)&&decide (n≤100)))∧Kn S S':=by
 have hnd:(bs.map (·.1)).Nodup:=by
  unfold bxF at hb
  rw [Bool.and_eq_true] at hb
  exact (of_decide_eq_true hb.1).2
 walk_at "wr";unfold YM
 walk_at "w"
 refine zL (vC (vt ?_))
 walk_at "w"
 refine (zfk hl ha).imp ?_
 rintro _ S2 ⟨rfl,k2⟩
 rw [hb]
 refine ⟨_,rfl,(fun z=>by cases z),fun _=>zI ?_⟩
 walk_at "w"
 refine zh4 (zf9 bs) ?_ ?_
 ·unfold szX
  rw [List.map_map]
  have:(bs.map ((fun x=>x.1) ∘ fun b=>((Sum.inr b.1:Key),Xv.int b.2)))=(bs.map (·.1)).map Sum.inr:=by rw [List.map_map];rfl
  rw [this]
  exact List.Pairwise.map Sum.inr (fun a b e z=>e (Sum.inr.inj z)) hnd
 have hd:(S2++[Ce.dk (szX bs)])[S2.length]? =some (.dk (szX bs)):=yJ
 generalize hS3:S2++[Ce.dk (szX bs)]=S3 at hd ⊢
 have k3:Kn S S3:=by rw [←hS3];exact k2.app
 walk_at "w"
 obtain ⟨fl,ok,hw⟩:=zih (fu:=fu) h hc hq
 refine zL (vC (vt ?_))
 have hsrc:W (iL (zv (zW fu 20) [(ze 2)]) [some (.tup [.tup (bs.map xB),.tup l]),some (.tup (bs.map xB)),some (.tup l),some (.ref S2.length)] S3) fun get S1=>(∀S',Kn S1 S'→get S'=some (fl.map (·.1)))∧Kn S3 S1:=by
  refine zj6 ?_
  walk_at "w"
  refine (hw S3).imp ?_
  rintro _ S4 ⟨m,rfl,hm,_,k4⟩
  exact ⟨_,zR hm,fun S' k'=>Kn.lst k' (zR hm),k4⟩
 refine Xj (xs:=fl.map (·.1)) (p:=fun i=>(fl.getD i (.non,false)).2) (by rw [List.length_map];have:=ok.len;exact Nat.le_of_lt (Nat.lt_of_le_of_lt (show _≤1000 by omega) (by decide))) hsrc ?_ ?_
 ·intro i w S4 hw k4
  rw [List.getElem?_map,Option.map_eq_some_iff] at hw
  obtain ⟨p,e,rfl⟩:=hw
  show W (zv (vg fu) [(ze 1),(ze 0)] [some p.1,some (.ref S2.length)] S4) _
  walk_at "w"
  refine (zfh (k4.at hd) (ok.own p (List.mem_of_getElem? e))).imp ?_
  rintro _ S5 ⟨rfl,k5⟩
  rw [List.getD_eq_getElem?_getD,e]
  exact ⟨rfl,k5⟩
 intro S4 k4
 rw [List.length_map,wQ (q:=fun p=>p.2) (fun i a h=>by rw [List.getD_eq_getElem?_getD,h];rfl),ok.all]
 refine ⟨_,rfl,fun h3=> ?_,fun h3=> ?_⟩
 ·walk_at "w"
  exact ⟨by rw [show g=false by simpa using h3];rfl,k3.trans k4⟩
 have hg:g=true:=by simpa using h3
 subst hg
 refine zI ?_
 refine ZM (zah ?_)
 walk_at "w"
 refine (zjF h hc hq).imp ?_
 rintro _ S5 ⟨rfl,k5⟩
 walk_at "w"
 refine ⟨fun h4=> ?_,fun h4=> ?_⟩
 ·have h4:q≤12:=by
   have:(q:Int)≤12:=of_decide_eq_true h4
   omega
  walk_at "w"
  refine (zig h hc (by omega)).imp ?_
  rintro _ S6 ⟨rfl,k6⟩
  walk_at "w"
  exact ⟨by rw [decide_eq_true h4];rfl,(k3.trans k4).trans (k5.trans k6)⟩
 ·have h4:¬q≤12:=by
   have:¬(q:Int)≤12:=of_decide_eq_false h4
   omega
  exact ⟨by rw [decide_eq_false h4];rfl,(k3.trans k4).trans k5⟩
end
section
variable {fu:Nat} {S S' S2:Sto} {x y:Xv} {ns:List Int} {bs:List (Str×Int)}
noncomputable def GOp (bs:List (Str×Int)) (x:Xv):Prop:=UJ x∧opF bs x=true
theorem zfl {b:Str×Int} (h:b∈bs):(Wh bs b.1).isSome=true:=by
 unfold Wh
 rw [Option.isSome_map,List.find?_isSome]
 exact ⟨b,h,decide_eq_true rfl⟩
theorem zm2 {b:Str×Int} (nd:(bs.map (·.1)).Nodup) (h:b∈bs):Wh bs b.1=some b.2:=by
 induction bs with
 |nil=>cases h
 |cons c r ih=>
  rw [List.map_cons,List.nodup_cons] at nd
  unfold Wh
  rw [List.find?_cons]
  rcases List.mem_cons.1 h with rfl|h
  ·rw [decide_eq_true rfl]
   rfl
  ·have:c.1≠b.1:=fun e=>nd.1 (by rw [e];exact List.mem_map_of_mem h)
   rw [decide_eq_false this]
   exact ih nd.2 h
theorem GOp.nm {b:Str×Int} (h:b∈bs):GOp bs (.str b.1):=⟨.inl ⟨_,rfl⟩,zfl h⟩
theorem GOp.num {v:Int} (h0:0≤v) (h1:v≤999999999):GOp bs (.int v):=⟨.inr ⟨_,rfl⟩,decide_eq_true ⟨h0,h1⟩⟩
theorem zij {i:Int} (h0:0≤i) (h1:i<bs.length):∃b∈bs,atI (bs.map xB) i=some (xB b):=by
 have hi:i.toNat<bs.length:=by omega
 exact ⟨bs[i.toNat],List.getElem_mem hi,Zi h0 (by rw [List.getElem?_map,List.getElem?_eq_getElem hi];rfl)⟩
theorem ZH {k:Int} (hs:Sc ns S) (hk:0≤k∧k≤1000):W (yL fu [.ref 0,.int k,.tup (bs.map xB)] S) fun v S'=>GOp bs v∧S=S':=by
 walk_at "wr";unfold Zn;walk_at "w"
 refine Zh (fun ρ S2=>∃c:Int,ρ=[some (.ref 0),some (.int k),some (.tup (bs.map xB)),some (.int c),none]∧S2=S) (zL ?_) ?_
 ·walk_at "w"
  refine xL hs ?_
  walk_at "w"
  rw [List.length_map]
  refine xh (fun h=> ?_) (fun h=> ?_)
  ·have h:0<ns.length:=by omega
   walk_at "w"
   refine xL hs ?_
   walk_at "w"
   rw [List.length_map]
   refine Wu (by omega) ?_
   have h1:=Int.emod_nonneg k (show (ns.length:Int)≠0 by omega)
   have h2:=Int.emod_lt_of_pos k (show (0:Int)<ns.length by omega)
   have h3:(k % (ns.length:Int)).toNat<ns.length:=by omega
   refine xz hs (Zi h1 (by rw [List.getElem?_map,List.getElem?_eq_getElem h3];rfl)) ?_
   walk_at "w"
   exact rfl
  ·walk_at "w"
   exact rfl
 ·rintro ρ S2 ⟨c,rfl,rfl⟩
  walk_at "w"
  refine (wg hs hk (by decide) (by decide)).imp ?_
  rintro _ _ ⟨rfl,_,_,rfl⟩
  walk_at "w"
  refine zL (xr ?_)
  walk_at "w"
  have rest:WS ((zH (sIf (bE (eOp ZL (ze 4) (eC (.int 2)))) (zY (eOp TQ (ze 3) (eOp zeW (eC (.int 10)) (eC (.int 9))))) zO) (zY (zv (zJ fu) [(ze 0),(ze 1),(eC (.int 10133)),(eC (.int 10))]))) [some (.ref 0),some (.int k),some (.tup (bs.map xB)),some (.int c),some (.int (vm ns k 10103 4))] S2) (fun x S1=>GOp bs .non∧S2=S1) (fun v S'=>GOp bs v∧S2=S'):=by
   refine zE (zL ?_)
   walk_at "w"
   refine xh (fun h=> ?_) (fun h=> ?_)
   ·walk_at "w"
    refine Wu (by decide) ?_
    have e:((10:Int)^(9:Int).toNat)=1000000000:=by decide
    rw [e]
    have h1:=Int.emod_nonneg c (show (1000000000:Int)≠0 by decide)
    have h2:=Int.emod_lt_of_pos c (show (0:Int)<1000000000 by decide)
    exact ⟨.num h1 (by omega),rfl⟩
   ·walk_at "w"
    refine (wg hs hk (by decide) (by decide)).imp ?_
    rintro _ _ ⟨rfl,h1,h2,rfl⟩
    exact ⟨.num h1 (by omega),rfl⟩
  refine xh (fun h=> ?_) (fun h=> ?_)
  ·walk_at "w"
   refine Vg ?_
   walk_at "w"
   rw [List.length_map]
   refine xh (fun h=> ?_) (fun h=> ?_)
   ·walk_at "w"
    refine Vg ?_
    walk_at "w"
    rw [List.length_map]
    refine (wg hs hk (by decide) (by omega)).imp ?_
    rintro _ _ ⟨rfl,h1,h2,rfl⟩
    walk_at "w"
    obtain ⟨b,hb,e⟩:=zij h1 h2
    refine wX rfl e ?_
    unfold xB
    walk_at "w"
    exact ⟨.nm hb,rfl⟩
   ·exact zI rest
  ·exact ⟨(fun z=>by cases z),fun _=>zI rest⟩
noncomputable def TS:List Str:=["=","<","#"]
noncomputable def RS:List Str:=["+","-","*"]
theorem zm3 {v:Int} (h0:0≤v) (h1:v<3):∃s:Str,s∈TS∧zaD (.str "=<#") (.int v) S=some (.str s,S):=by
 rcases (show v=0∨v=1∨v=2 by omega) with rfl|rfl|rfl
 ·exact ⟨"=",by decide,rfl⟩
 ·exact ⟨"<",by decide,rfl⟩
 ·exact ⟨"#",by decide,rfl⟩
theorem zm4 {v:Int} (h0:0≤v) (h1:v<3):∃s:Str,s∈RS∧zaD (.str "+-*") (.int v) S=some (.str s,S):=by
 rcases (show v=0∨v=1∨v=2 by omega) with rfl|rfl|rfl
 ·exact ⟨"+",by decide,rfl⟩
 ·exact ⟨"-",by decide,rfl⟩
 ·exact ⟨"*",by decide,rfl⟩
theorem zlJ {k:Int} (hs:Sc ns S) (hk:0≤k∧k≤900):W (ZF fu [.ref 0,.int k,.tup (bs.map xB)] S) fun v S'=>(∃x y s,v= .tup [x,.str s,y]∧s∈TS∧GOp bs x∧GOp bs y)∧S=S':=by
 walk_at "wr";unfold Wa;walk_at "w"
 refine (wg hs ⟨hk.1,by omega⟩ (by decide) (by decide)).imp ?_
 rintro _ _ ⟨rfl,h0,h1,rfl⟩
 obtain ⟨s,hsg,hs3⟩:=zm3 (S:=S) h0 h1
 refine WO.of hs3 ?_
 walk_at "w"
 refine (ZH (bs:=bs) hs ⟨by omega,by omega⟩).imp ?_
 rintro a _ ⟨ha,rfl⟩
 walk_at "w"
 refine (ZH (bs:=bs) hs ⟨by omega,by omega⟩).imp ?_
 rintro b _ ⟨hb,rfl⟩
 walk_at "w"
 exact ⟨⟨a,b,s,rfl,hsg,ha,hb⟩,rfl⟩
theorem zej {k:Int} (hs:Sc ns S) (hk:0≤k∧k≤900):W (vk fu [.ref 0,.int k,.tup (bs.map xB)] S) fun v S'=>((∃x,v= .tup [x]∧GOp bs x)∨∃x y s,v= .tup [x,.str s,y]∧s∈RS∧GOp bs x∧GOp bs y)∧S=S':=by
 walk_at "wr";unfold vj
 refine zE (zL ?_)
 walk_at "w"
 refine (wg hs ⟨hk.1,by omega⟩ (by decide) (by decide)).imp ?_
 rintro _ _ ⟨rfl,_,_,rfl⟩
 walk_at "w"
 refine xh (fun h=> ?_) (fun h=>zI ?_)
 ·walk_at "w"
  refine (ZH (bs:=bs) hs ⟨by omega,by omega⟩).imp ?_
  rintro a _ ⟨ha,rfl⟩
  walk_at "w"
  exact ⟨.inl ⟨a,rfl,ha⟩,rfl⟩
 walk_at "w"
 refine (wg hs ⟨hk.1,by omega⟩ (by decide) (by decide)).imp ?_
 rintro _ _ ⟨rfl,h0,h1,rfl⟩
 obtain ⟨s,hsg,hs3⟩:=zm4 (S:=S) h0 h1
 refine WO.of hs3 ?_
 walk_at "w"
 refine (ZH (bs:=bs) hs ⟨by omega,by omega⟩).imp ?_
 rintro a _ ⟨ha,rfl⟩
 walk_at "w"
 refine (ZH (bs:=bs) hs ⟨by omega,by omega⟩).imp ?_
 rintro b _ ⟨hb,rfl⟩
 walk_at "w"
 exact ⟨.inr ⟨a,b,s,rfl,hsg,ha,hb⟩,rfl⟩
theorem zik {n i:Nat} (h:i<n):ixN n (i:Int)=some i:=by
 unfold ixN
 rw [if_pos (by omega),if_pos (by omega),Int.toNat_natCast]
theorem zfm {n:Nat} {i:Int} (h0:0≤i) (h1:i<n):ixN n i=some i.toNat:=by
 obtain ⟨m,rfl⟩:∃m:Nat,i=m:=⟨i.toNat,by omega⟩
 exact zik (by omega)
theorem Vi {ws:List Int} {i:Nat} {v:Int} {p:Int→Bool} (h:ws.all p=true) (hv:p v=true):(ws.set i v).all p=true:=by
 rw [List.all_eq_true] at h ⊢
 intro w hw
 rcases List.mem_or_eq_of_mem_set hw with hw|rfl
 ·exact h w hw
 ·exact hv
theorem zbe:∀{ws:List Int},(∀w∈ws,0≤w)→0≤ws.sum∧∀w∈ws,w≤ws.sum
 |[],_=>⟨by decide,fun w h=>by cases h⟩
 |a::r,h=>by
  obtain ⟨h1,h2⟩:=zbe (ws:=r) fun w hw=>h w (List.mem_cons_of_mem _ hw)
  have ha:=h a (List.mem_cons_self ..)
  rw [List.sum_cons]
  refine ⟨by omega,fun w hw=> ?_⟩
  rcases List.mem_cons.1 hw with rfl|hw
  ·omega
  ·have:=h2 w hw
   omega
theorem zgV {k:Int} {s:Nat} (hs:Sc ns S) (hk:0≤k∧k≤900) (h1:1≤s) (h9:s≤9):W (Zp fu [.ref 0,.int k,.int (s:Int)] S) fun v S'=>∃ws:List Int,v= .tup (ws.map Xv.int)∧ws.length=s∧wOk ws s=true∧Kn S S':=by
 walk_at "wr";unfold Zo;walk_at "w"
 have okw:∀ws:List Int,ws.length=s→ws.all (fun w=>decide (0≤w∧w≤999999999))=true→0<ws.sum→wOk ws s=true:=by
  intro ws hl ha hp
  unfold wOk
  rw [decide_eq_true (by omega:(ws.length:Int)=s),ha,decide_eq_true hp]
  rfl
 refine Yg (xs:=ZK 0 s) (f:=fun i=> .int (vm ns (k+i) 10159 4)) (by rw [XA];exact yF (by omega)) ?_ ?_ ?_
 ·refine ze3 ?_
  walk_at "w"
  exact ⟨⟨by omega,by omega⟩,fun _ _=>by rw [Int.toNat_natCast],Kn.refl⟩
 ·intro i w S2 hw k2
  obtain ⟨hi,rfl⟩:=Ti hw
  show W (zv (zJ fu) [(ze 1),(eOp xX (ze 2) (ze 0)),(eC (.int 10159)),(eC (.int 4))] [some (.int (0+(i:Int))),some (.ref 0),some (.int k)] S2) _
  walk_at "w"
  rw [Int.zero_add]
  refine (wg (hs.keep k2) ⟨by omega,by omega⟩ (by decide) (by decide)).imp ?_
  rintro _ _ ⟨rfl,_,_,rfl⟩
  exact ⟨rfl,Kn.refl⟩
 intro S2 k2
 obtain ⟨ws,hws,hwl,hwa⟩:∃ws:List Int,(List.range (ZK 0 s).length).map (fun (i:Nat)=>Xv.int (vm ns (k+(i:Int)) 10159 4))=ws.map Xv.int∧ws.length=s∧ws.all (fun w=>decide (0≤w∧w≤999999999))=true:=by
  refine ⟨(List.range s).map fun (i:Nat)=>vm ns (k+i) 10159 4,by rw [XA,List.map_map];rfl,by rw [List.length_map,List.length_range],?_⟩
  rw [List.all_eq_true]
  intro w hw
  obtain ⟨i,_,rfl⟩:=List.mem_map.1 hw
  unfold vm
  have a1:=Int.emod_nonneg ((((if 0<ns.length then ns.getD ((k+(i:Int)) % ns.length).toNat 0 else 0)+(k+i)*(k+i))*48271+11) % 10159) (show (4:Int)≠0 by decide)
  have a2:=Int.emod_lt_of_pos ((((if 0<ns.length then ns.getD ((k+(i:Int)) % ns.length).toNat 0 else 0)+(k+i)*(k+i))*48271+11) % 10159) (show (0:Int)<4 by decide)
  exact decide_eq_true ⟨a1,by omega⟩
 rw [hws]
 have hat:(S2++[Ce.lst (ws.map Xv.int)])[S2.length]? =some (.lst (ws.map Xv.int)):=yJ
 generalize hS3:S2++[Ce.lst (ws.map Xv.int)]=S3 at hat ⊢
 have k3:Kn S S3:=by rw [←hS3];exact k2.app
 have hge:S.length≤S2.length:=k2.1
 walk_at "w"
 refine (wg (hs.keep k3) ⟨hk.1,by omega⟩ (by decide) (by omega)).imp ?_
 rintro _ _ ⟨rfl,a0,a1,rfl⟩
 walk_at "w"
 generalize vm ns k 10163 s=at_ at a0 a1
 have hai:at_.toNat<ws.length:=by omega
 refine Zh (fun ρ S4=>∃ws:List Int,ρ=[some (.ref 0),some (.int k),some (.int (s:Int)),some (.ref S2.length),some (.int at_)]∧ws.length=s∧ws.all (fun w=>decide (0≤w∧w≤999999999))=true∧0<ws.sum∧S4[S2.length]? =some (.lst (ws.map Xv.int))∧Kn S S4) (zL ?_) ?_
 ·walk_at "w"
  refine zff (zR hat) (Yh ws) ?_
  walk_at "w"
  have nn:∀w∈ws,0≤w:=fun w hw=>(of_decide_eq_true (List.all_eq_true.1 hwa w hw)).1
  refine xh (fun h=> ?_) (fun h=> ?_)
  ·refine zaP ?_
   walk_at "w"
   refine ⟨S2.length,ws.map Xv.int,at_,at_.toNat,wF hat,rfl,zfm a0 (by rw [List.length_map];omega),?_⟩
   refine ⟨ws.set at_.toNat 1,rfl,by rw [List.length_set];exact hwl,Vi hwa (by decide),?_,?_,k3.set (.inr hge)⟩
   ·have h1:(1:Int)∈ws.set at_.toNat 1:=List.mem_set hai 1
    have:=(zbe (ws:=ws.set at_.toNat 1) fun w hw=>(of_decide_eq_true (List.all_eq_true.1 (Vi hwa (by decide) (i:=at_.toNat) (v:=1)) w hw)).1).2 1 h1
    omega
   ·rw [vH hat,List.map_set]
  ·walk_at "w"
   exact ⟨ws,rfl,hwl,hwa,by have:=(zbe nn).1;omega,hat,k3⟩
 ·rintro ρ S4 ⟨ws,rfl,hwl,hwa,hpos,hat,k4⟩
  walk_at "w"
  refine Zh (fun ρ S5=>∃ws:List Int,ρ=[some (.ref 0),some (.int k),some (.int (s:Int)),some (.ref S2.length),some (.int at_)]∧ws.length=s∧ws.all (fun w=>decide (0≤w∧w≤999999999))=true∧0<ws.sum∧S5[S2.length]? =some (.lst (ws.map Xv.int))∧Kn S S5) (zL ?_) ?_
  ·walk_at "w"
   refine (wg (hs.keep k4) ⟨hk.1,by omega⟩ (by decide) (by decide)).imp ?_
   rintro _ _ ⟨rfl,_,_,rfl⟩
   walk_at "w"
   refine xh (fun h=> ?_) (fun h=> ?_)
   ·refine zaP ?_
    walk_at "w"
    have e:((10:Int)^(9:Int).toNat-1)=999999999:=by decide
    rw [e]
    have hai:at_.toNat<ws.length:=by omega
    refine ⟨S2.length,ws.map Xv.int,at_,at_.toNat,wF hat,rfl,zfm a0 (by rw [List.length_map];omega),?_⟩
    refine ⟨ws.set at_.toNat 999999999,rfl,by rw [List.length_set];exact hwl,Vi hwa (by decide),?_,?_,k4.set (.inr hge)⟩
    ·have h1:(999999999:Int)∈ws.set at_.toNat 999999999:=List.mem_set hai 999999999
     have:=(zbe (ws:=ws.set at_.toNat 999999999) fun w hw=>(of_decide_eq_true (List.all_eq_true.1 (Vi hwa (by decide) (i:=at_.toNat) (v:=999999999)) w hw)).1).2 999999999 h1
     omega
    ·rw [vH hat,List.map_set]
   ·refine zL (xr ?_)
    walk_at "w"
    refine xL (hs.keep k4) ?_
    walk_at "w"
    rw [List.length_map]
    refine xh (fun h3=> ?_) (fun h3=>⟨(fun z=>by cases z),fun _=>zI ⟨ws,rfl,hwl,hwa,hpos,hat,k4⟩⟩)
    have hn0:0<ns.length:=by omega
    walk_at "w"
    refine (wg (hs.keep k4) ⟨hk.1,by omega⟩ (by decide) (by decide)).imp ?_
    rintro _ _ ⟨rfl,_,_,rfl⟩
    walk_at "w"
    refine xh (fun h4=> ?_) (fun h4=>zI ⟨ws,rfl,hwl,hwa,hpos,hat,k4⟩)
    refine zaP ?_
    walk_at "w"
    refine xL (hs.keep k4) ?_
    walk_at "w"
    rw [List.length_map]
    refine Wu (by omega) ?_
    have m1:=Int.emod_nonneg k (show (ns.length:Int)≠0 by omega)
    have m2:=Int.emod_lt_of_pos k (show (0:Int)<ns.length by omega)
    have m3:(k % (ns.length:Int)).toNat<ns.length:=by omega
    refine xz (hs.keep k4) (Zi m1 (by rw [List.getElem?_map,List.getElem?_eq_getElem m3];rfl)) ?_
    walk_at "w"
    have e:((10:Int)^(9:Int).toNat-1)=999999999:=by decide
    rw [e]
    refine Wu (by decide) ?_
    walk_at "w"
    generalize ns[(k % (ns.length:Int)).toNat]=cl
    have c1:=Int.emod_nonneg cl (show (999999999:Int)≠0 by decide)
    have c2:=Int.emod_lt_of_pos cl (show (0:Int)<999999999 by decide)
    have hai:at_.toNat<ws.length:=by omega
    have hv:decide (0≤1+cl % 999999999∧1+cl % 999999999≤999999999)=true:=decide_eq_true ⟨by omega,by omega⟩
    refine ⟨S2.length,ws.map Xv.int,at_,at_.toNat,wF hat,rfl,zfm a0 (by rw [List.length_map];omega),?_⟩
    refine ⟨ws.set at_.toNat (1+cl % 999999999),rfl,by rw [List.length_set];exact hwl,Vi hwa hv,?_,?_,k4.set (.inr hge)⟩
    ·have h1:(1+cl % 999999999)∈ws.set at_.toNat (1+cl % 999999999):=List.mem_set hai _
     have:=(zbe (ws:=ws.set at_.toNat (1+cl % 999999999)) fun w hw=>(of_decide_eq_true (List.all_eq_true.1 (Vi hwa hv (i:=at_.toNat) (v:=1+cl % 999999999)) w hw)).1).2 _ h1
     omega
    ·rw [vH hat,List.map_set]
  ·rintro ρ S5 ⟨ws,rfl,hwl,hwa,hpos,hat,k5⟩
   walk_at "w"
   refine vI hat ?_
   exact ⟨ws,rfl,hwl,okw ws hwl hwa hpos,k5⟩
theorem Tr.pl {w:Str} {r:List Xv} (h1:w≠"if") (h2:w≠"while") (h3:w≠"times") (h4:w≠"hand") (ow:Own bs (.tup (.str w::r)) true):Tr bs (.d (.tup (.str w::r))) 1 0 true 1:=Tr.deed (.plain h1 h2 h3 h4) ow .nils
inductive Pw (bs:List (Str×Int)):Xv→List Xv→Prop where
 |pass:Pw bs (.tup [.str "pass"]) [.str "pass"]
 |gain {a:Xv}:GOp bs a→Pw bs (.tup [.str "gain",a]) [.str "gain",a]
 |look {a b:Xv} {s:Str}:s∈TS→GOp bs a→GOp bs b→Pw bs (.tup [.str "look",.tup [a,.str s,b]]) [.str "look",a,.str s,b]
 |set1 {n:Str×Int} {a:Xv}:n∈bs→GOp bs a→Pw bs (.tup [.str "set",.str n.1,.tup [a]]) [.str "set",.str n.1,a]
 |set3 {n:Str×Int} {a b:Xv} {s:Str}:n∈bs→s∈RS→GOp bs a→GOp bs b→Pw bs (.tup [.str "set",.str n.1,.tup [a,.str s,b]]) [.str "set",.str n.1,a,.str s,b]
 |draw {n:Str×Int} {ws:List Int}:n∈bs→ws.length≤9→1≤ws.length→(∀w∈ws,0≤w∧w≤999999999)→Pw bs (.tup [.str "draw",.str n.1,.tup (ws.map Xv.int)]) (.str "draw":: .str n.1::ws.map Xv.int)
noncomputable def PW (bs:List (Str×Int)) (x:Xv):Prop:=(∃ps,Pw bs x ps)∧Tr bs (.d x) 1 0 true 1
theorem zjH {k:Int} (hs:Sc ns S) (hk:0≤k∧k≤900) (hb:xN 1000 bs):W (vT fu [.ref 0,.int k,.tup (bs.map xB)] S) fun v S'=>PW bs v∧Kn S S':=by
 walk_at "wr";unfold YX;walk_at "w"
 refine (wg hs ⟨hk.1,by omega⟩ (by decide) (by decide)).imp ?_
 rintro _ _ ⟨rfl,w0,w1,rfl⟩
 generalize vm ns k 10177 8=w at w0 w1
 walk_at "w"
 have rest:WS ((zH (sIf (bE (eOp ZL (ze 3) (eC (.int 5)))) (zY (xj [(eC (.str "pass"))])) zO) (zH (sIf (bE (eOp ZL (ze 3) (eC (.int 6)))) (zY (xj [(eC (.str "look")),(zv (ZF fu) [(ze 0),(ze 1),(ze 2)])])) zO) (zY (xj [(eC (.str "gain")),(zv (yL fu) [(ze 0),(eOp xX (ze 1) (eC (.int 1))),(ze 2)])])))) [some (.ref 0),some (.int k),some (.tup (bs.map xB)),some (.int w),none,none] S) (fun x S1=>PW bs .non∧Kn S S1) (fun v S'=>PW bs v∧Kn S S'):=by
  refine zE (zL ?_)
  walk_at "w"
  refine xh (fun h=> ?_) (fun h=>zI ?_)
  ·walk_at "w"
   exact ⟨⟨⟨_,.pass⟩,.pl (by decide) (by decide) (by decide) (by decide) .pass⟩,Kn.refl⟩
  refine zE (zL ?_)
  walk_at "w"
  refine xh (fun h=> ?_) (fun h=>zI ?_)
  ·walk_at "w"
   refine (zlJ (bs:=bs) hs hk).imp ?_
   rintro _ _ ⟨⟨a,b,s,rfl,hsg,ha,hb⟩,rfl⟩
   walk_at "w"
   have ow:=Own.look (s:=s) ha.1 hb.1 (bs:=bs)
   rw [ha.2,hb.2] at ow
   exact ⟨⟨⟨_,.look hsg ha hb⟩,.pl (by decide) (by decide) (by decide) (by decide) ow⟩,Kn.refl⟩
  ·walk_at "w"
   refine (ZH (bs:=bs) hs ⟨by omega,by omega⟩).imp ?_
   rintro a _ ⟨ha,rfl⟩
   walk_at "w"
   have ow:=Own.gain ha.1 (bs:=bs)
   rw [ha.2] at ow
   exact ⟨⟨⟨_,.gain ha⟩,.pl (by decide) (by decide) (by decide) (by decide) ow⟩,Kn.refl⟩
 refine zL (xr ?_)
 walk_at "w"
 refine xh (fun h=> ?_) (fun h=>⟨(fun z=>by cases z),fun _=>zI rest⟩)
 walk_at "w"
 refine Vg ?_
 walk_at "w"
 rw [List.length_map]
 refine xh (fun h=> ?_) (fun h=>zI rest)
 refine zE (zla ?_)
 walk_at "w"
 refine Vg ?_
 walk_at "w"
 rw [List.length_map]
 refine (wg hs ⟨hk.1,by omega⟩ (by decide) (by omega)).imp ?_
 rintro _ _ ⟨rfl,h1,h2,rfl⟩
 walk_at "w"
 obtain ⟨b,hb2,e⟩:=zij h1 h2
 refine wX rfl e ?_
 unfold xB
 refine .of rfl ?_
 dsimp only [List.set]
 obtain ⟨s1,s9⟩:=hb.sz b hb2
 refine zE (zL ?_)
 walk_at "w"
 refine xh (fun h=> ?_) (fun h=>zI ?_)
 ·walk_at "w"
  refine (zej (bs:=bs) hs hk).imp ?_
  rintro _ _ ⟨⟨a,rfl,ha⟩|⟨a,c,s,rfl,hsg,ha,hc⟩,rfl⟩
  ·walk_at "w"
   have ow:=Own.set1 (n:=b.1) ha.1 (bs:=bs)
   rw [ha.2,zfl hb2] at ow
   exact ⟨⟨⟨_,.set1 hb2 ha⟩,.pl (by decide) (by decide) (by decide) (by decide) ow⟩,Kn.refl⟩
  ·walk_at "w"
   have ow:=Own.set3 (n:=b.1) (s:=s) ha.1 hc.1 (bs:=bs)
   rw [ha.2,hc.2,zfl hb2] at ow
   exact ⟨⟨⟨_,.set3 hb2 hsg ha hc⟩,.pl (by decide) (by decide) (by decide) (by decide) ow⟩,Kn.refl⟩
 ·walk_at "w"
  obtain ⟨s,hs2⟩:∃s:Nat,b.2=s:=⟨b.2.toNat,by omega⟩
  rw [hs2]
  refine (zgV hs hk (by omega) (by omega)).imp ?_
  rintro _ S2 ⟨ws,rfl,hwl,hwo,k2⟩
  walk_at "w"
  have ow:=Own.draw (n:=b.1) (ws:=ws) (by omega) (bs:=bs)
  rw [zm2 hb.nd hb2,hs2] at ow
  have ow:Own bs _ (wOk ws s):=ow
  rw [hwo] at ow
  have hall:∀w∈ws,0≤w∧w≤999999999:=by
   unfold wOk at hwo
   rw [Bool.and_eq_true,Bool.and_eq_true] at hwo
   exact fun w hw=>of_decide_eq_true (List.all_eq_true.1 hwo.2.1 w hw)
  exact ⟨⟨⟨_,.draw hb2 (by omega) (by omega) hall⟩,.pl (by decide) (by decide) (by decide) (by decide) ow⟩,k2⟩
end
section
theorem zek {c:Nat}:∀{x y A B:List Nat},c∉x→c∉y→x++c::A=y++c::B→x=y∧A=B
 |[],[],A,B,_,_,h=>⟨rfl,(List.cons.inj h).2⟩
 |[],b::y,A,B,_,h2,h=>by
  have:=(List.cons.inj h).1
  exact absurd (by rw [this];exact List.mem_cons_self ..) h2
 |a::x,[],A,B,h1,_,h=>by
  have:=(List.cons.inj h).1
  exact absurd (by rw [←this];exact List.mem_cons_self ..) h1
 |a::x,b::y,A,B,h1,h2,h=>by
  obtain ⟨e,h⟩:=List.cons.inj h
  obtain ⟨rfl,rfl⟩:=zek (fun z=>h1 (List.mem_cons_of_mem _ z)) (fun z=>h2 (List.mem_cons_of_mem _ z)) h
  exact ⟨by rw [e],rfl⟩
theorem zga {a b:Str} (h:a.cps.toList=b.cps.toList):a=b:=by
 cases a;cases b
 congr
 exact Array.toList_inj.1 h
theorem wB (a b:Str):(a++b).cps.toList=a.cps.toList++b.cps.toList:=by
 show (a.cps++b.cps).toList=_
 simp
theorem zel {c:Nat}:∀{a b:List Str},a≠[]→b≠[]→(∀p∈a,c∉p.cps.toList)→(∀p∈b,c∉p.cps.toList)→Str.join ⟨#[c]⟩ a=Str.join ⟨#[c]⟩ b→a=b
 |[],_,h,_,_,_,_=>absurd rfl h
 |_,[],_,h,_,_,_=>absurd rfl h
 |[x],[y],_,_,_,_,h=>by
  have h:x=y:=h
  rw [h]
 |[x],y::y'::r,_,_,h1,_,h=>by
  have h:x=y++⟨#[c]⟩++Str.join ⟨#[c]⟩ (y'::r):=h
  refine absurd ?_ (h1 x (List.mem_cons_self ..))
  rw [h,wB,wB]
  simp
 |x::x'::r,[y],_,_,_,h2,h=>by
  have h:x++⟨#[c]⟩++Str.join ⟨#[c]⟩ (x'::r)=y:=h
  refine absurd ?_ (h2 y (List.mem_cons_self ..))
  rw [←h,wB,wB]
  simp
 |x::x'::r,y::y'::s,_,_,h1,h2,h=>by
  have h:x++⟨#[c]⟩++Str.join ⟨#[c]⟩ (x'::r)=y++⟨#[c]⟩++Str.join ⟨#[c]⟩ (y'::s):=h
  have h:=congrArg (fun z:Str=>z.cps.toList) h
  rw [wB,wB,wB,wB,List.append_assoc,List.append_assoc] at h
  obtain ⟨e1,e2⟩:=zek (c:=c) (h1 x (List.mem_cons_self ..)) (h2 y (List.mem_cons_self ..)) h
  have:=zel (a:=x'::r) (b:=y'::s) (by simp) (by simp) (fun p hp=>h1 p (List.mem_cons_of_mem _ hp)) (fun p hp=>h2 p (List.mem_cons_of_mem _ hp)) (zga e2)
  rw [zga e1,this]
theorem zbf {c:Nat} {xs:List Str} (h:xs≠[]) (hc:∀p∈xs,c∉p.cps.toList):Txt.split (Txt.join ⟨#[c]⟩ xs) ⟨#[c]⟩=xs:=by
 refine zel (c:=c) ?_ h (fun p hp=>StrLaws.split_free _ _ p hp) hc ?_
 ·intro e
  have:=PyProof.Rows.split_pos (Txt.join ⟨#[c]⟩ xs) ⟨#[c]⟩
  rw [e] at this
  exact absurd this (by decide)
 ·rw [StrLaws.join_split]
  show PySem.Builtin.Str.glued _ _=_
  rw [StrLaws.glued_eq_join]
end
section
variable {fu:Nat} {S S' S2:Sto} {x y:Xv} {ns:List Int} {bs:List (Str×Int)}
noncomputable def dg (m:Nat):List Nat:=(Nat.toDigits 10 m).map Char.toNat
theorem zlK:∀m:Fin 10,(Nat.digitChar m.1).toNat=48+m.1:=by decide
theorem zgb {m:Nat} (h:m<10):dg m=[48+m]:=by
 unfold dg
 rw [Nat.toDigits_of_lt_base h,List.map_cons,List.map_nil,zlK ⟨m,h⟩]
theorem zgc {m:Nat} (h:10≤m):dg m=dg (m / 10)++[48+m % 10]:=by
 have hm:m % 10<10:=Nat.mod_lt m (by decide)
 have t:Nat.toDigits 10 (m / 10)++Nat.toDigits 10 (m % 10)=Nat.toDigits 10 (10*(m / 10)+m % 10):=Nat.toDigits_append_toDigits (by decide) (by omega) hm
 rw [Nat.div_add_mod] at t
 have e:=zgb hm
 unfold dg at e ⊢
 rw [←t,List.map_append,e]
theorem zil (m:Nat):(∀c∈dg m,48≤c∧c≤57)∧1≤(dg m).length∧(0<m→(dg m)[0]? ≠some 48):=by
 induction m using Nat.strongRecOn with
 |_ m ih=>
  by_cases h:m<10
  ·rw [zgb h]
   refine ⟨fun c hc=> ?_,Nat.le_refl _,fun h0 e=> ?_⟩
   ·have:c=48+m:=by simpa using hc
    omega
   ·have:48+m=48:=by simpa using e
    omega
  ·obtain ⟨h1,h2,h3⟩:=ih (m / 10) (by omega)
   rw [zgc (by omega)]
   refine ⟨fun c hc=> ?_,by rw [List.length_append];omega,fun h0 e=> ?_⟩
   ·rw [List.mem_append,List.mem_singleton] at hc
    rcases hc with hc|rfl
    ·exact h1 c hc
    ·omega
   ·rw [List.getElem?_append_left (by omega)] at e
    exact h3 (by omega) e
theorem zfn:∀(k m:Nat),m<10^(k+1)→(dg m).length≤k+1
 |0,m,h=>by rw [zgb (by simpa using h)];exact Nat.le_refl _
 |k+1,m,h=>by
  by_cases h10:m<10
  ·rw [zgb h10]
   show 1≤_
   omega
  ·rw [zgc (by omega),List.length_append,List.length_singleton]
   have:=zfn k (m / 10) (by rw [Nat.pow_succ] at h;omega)
   omega
noncomputable def nt (v:Int):Str:=Str.ofString (toString v)
theorem zfo {v:Int} (h:0≤v):(nt v).cps.toList=dg v.toNat:=by
 obtain ⟨m,rfl⟩:=Int.eq_ofNat_of_zero_le h
 exact PySem.W.KIN.signs_num m
noncomputable def FIG:Str:="0123456789"
noncomputable def nbF (z:Str):Bool:=decide (1≤z.length∧z.length≤9)&&(z.cps.toList.all (fun c=>inS ⟨#[c]⟩ FIG)&&(decide (sg z 0≠some 48)||decide (z="0")))
theorem zlL:∀n:Fin 10,inS ⟨#[48+n.1]⟩ FIG=true:=by decide+kernel
theorem zlM:∀n:Fin 26,inS ⟨#[97+n.1]⟩ FIG=false:=by decide+kernel
theorem zki {v:Int} (h0:0≤v) (h1:v≤999999999):nbF (nt v)=true:=by
 have e:=zfo h0
 obtain ⟨a,b,c⟩:=zil v.toNat
 have l:=zfn 8 v.toNat (by show v.toNat<1000000000;omega)
 have hl:(nt v).length=(dg v.toNat).length:=by rw [←vo,e]
 unfold nbF
 rw [decide_eq_true (show 1≤(nt v).length∧(nt v).length≤9 by omega),Bool.true_and,Bool.and_eq_true]
 refine ⟨?_,?_⟩
 ·rw [List.all_eq_true,e]
  intro d hd
  obtain ⟨d1,d2⟩:=a d hd
  obtain ⟨n,rfl⟩:∃n,d=48+n:=⟨d-48,by omega⟩
  exact zlL ⟨n,by omega⟩
 ·by_cases hv:0<v
  ·rw [decide_eq_true (show sg (nt v) 0≠some 48 by unfold sg;rw [e];exact c (by omega)),Bool.true_or]
  ·obtain rfl:v=0:=by omega
   rw [decide_eq_true (show nt 0="0" from rfl),Bool.or_true]
theorem zm5 {z:Str} (h:AZ z):nbF z=false:=by
 unfold nbF
 by_cases hz:1≤z.length∧z.length≤9
 ·have hl:=vo z
  have h0:0<z.cps.toList.length:=by omega
  have:z.cps.toList.all (fun c=>inS ⟨#[c]⟩ FIG)=false:=by
   rw [List.all_eq_false]
   have hm:z.cps.toList[0]∈z.cps.toList:=List.getElem_mem h0
   obtain ⟨a,b⟩:=h _ hm
   refine ⟨_,hm,?_⟩
   generalize z.cps.toList[0]=d at a b
   obtain ⟨n,rfl⟩:∃n,d=97+n:=⟨d-97,by omega⟩
   rw [zlM ⟨n,by omega⟩]
   decide
  rw [this,Bool.false_and,Bool.and_false]
 ·rw [decide_eq_false hz,Bool.false_and]
theorem zem {v:Int} (h0:0≤v) (h1:v≤999999999):PySem.intText? (nt v)=some v:=PySem.W.KIN.num_reads h0 (Int.lt_of_le_of_lt h1 (by decide))
theorem zfp {v:Int} (h0:0≤v) (h1:v≤999999999):1≤(nt v).length∧(nt v).length≤9:=by
 have l:=zfn 8 v.toNat (by show v.toNat<1000000000;omega)
 have b:=(zil v.toNat).2.1
 rw [←vo,zfo h0]
 exact ⟨b,l⟩
theorem zim {v:Int} (h0:0≤v):asc (nt v)∧∀c∈(nt v).cps.toList,48≤c∧c≤57:=by
 have a:=(zil v.toNat).1
 rw [←zfo h0] at a
 refine ⟨?_,a⟩
 unfold asc
 rw [Array.all_eq_true_iff_forall_mem]
 intro c hc
 have:=a c (by simpa using hc)
 simp
 omega
theorem zin {z A:Str} (ha:asc z) (hl:z.length≤100):W (vO fu [.str z,.str A] S) fun v S'=>v= .bl (z.cps.toList.all fun c=>inS ⟨#[c]⟩ A)∧Kn S S':=by
 walk_at "wr";unfold vN
 refine ZM ?_
 refine Xj (xs:=wM z) (p:=fun i=>inS ⟨#[z.cps.toList.getD i 0]⟩ A) ?_ ?_ ?_ ?_
 ·unfold wM
  rw [List.length_map,vo]
  exact yF hl
 ·refine zkc ?_
  walk_at "w"
  exact ⟨ha,fun _ _=>rfl,Kn.refl⟩
 ·intro i w S2 hw k2
  unfold wM at hw
  rw [List.getElem?_map,Option.map_eq_some_iff] at hw
  obtain ⟨c,e,rfl⟩:=hw
  show W (eOp zgP (ze 0) (ze 1) [some (.str ⟨#[c]⟩),some (.str A)] S2) _
  walk_at "w"
  refine zh0 ?_
  rw [List.getD_eq_getElem?_getD,e]
  exact ⟨rfl,Kn.refl⟩
 ·intro S2 k2
  have e:(wM z).length=z.cps.toList.length:=by unfold wM;rw [List.length_map]
  rw [e,wQ (q:=fun c=>inS ⟨#[c]⟩ A) (fun i a h=>by rw [List.getD_eq_getElem?_getD,h];rfl)]
  exact ⟨rfl,k2⟩
theorem zgd {P:Xv→Sto→Prop} {a b:Str} (k:P (.bl (!decide (a=b))) S):WO (yV true (.str a) (.str b) S) P:= .of (by unfold yV;simp) k
theorem ix0 {z:Str} {c:Nat} (hz:z.length≤100) (h:sg z 0=some c):zaD (.str z) (.int 0) S=some (.str ⟨#[c]⟩,S):=by
 unfold zaD zkS
 dsimp only
 rw [if_pos (yF hz),Zi (by decide) (by exact h)]
 rfl
theorem sg0 {z:Str} (h:1≤z.length):∃c,sg z 0=some c:=by
 unfold sg
 exact ⟨_,List.getElem?_eq_getElem (by rw [vo];exact h)⟩
theorem zlN {c d:Nat}:((⟨#[c]⟩:Str)=⟨#[d]⟩)↔c=d:=by
 constructor
 ·intro h
  have:=congrArg (fun z:Str=>z.cps.toList) h
  simpa using this
 ·rintro rfl;rfl
theorem zbg {z:Str} (ha:asc z) (hl:z.length≤100):W (Zy fu [.str z] S) fun v S'=>v= .bl (nbF z)∧Kn S S':=by
 walk_at "wr";unfold XO
 refine zE (zL (Xh (vC (vt (Uo ?_)))))
 walk_at "w"
 refine zc7 (yF hl) ?_
 walk_at "w"
 have bad:¬(1≤z.length∧z.length≤9)→nbF z=false:=fun h=>by
  unfold nbF
  rw [decide_eq_false h,Bool.false_and]
 have stop:∀{S3:Sto} {N:Rho→Sto→Prop},nbF z=false→Kn S S3→WS (zY (eC (.bl false)) [some (.str z)] S3) N fun v S'=>v= .bl (nbF z)∧Kn S S':=by
  intro S3 N h k
  walk_at "w"
  exact ⟨by rw [h],k⟩
 refine ⟨fun h1=> ?_,fun h1=>⟨_,rfl,fun _=>⟨fun _=>stop (bad fun q=> ?_) Kn.refl,(fun z=>by cases z)⟩,(fun z=>by cases z)⟩⟩
 ·have h1:(1:Int)≤z.length:=of_decide_eq_true h1
  walk_at "w"
  refine ⟨fun h2=>⟨fun _=>stop (bad fun q=> ?_) Kn.refl,(fun z=>by cases z)⟩,fun h2=> ?_⟩
  ·have h2:(!decide ((z.length:Int)≤9))=true:=h2
   rw [decide_eq_true (by omega)] at h2
   cases h2
  ·have h2:(!decide ((z.length:Int)≤9))=false:=h2
   have h2:(z.length:Int)≤9:=by simpa using h2
   have hz:1≤z.length∧z.length≤9:=by omega
   refine vC (vt ?_)
   walk_at "w"
   refine (zin ha hl).imp ?_
   rintro _ S3 ⟨rfl,k3⟩
   refine ⟨_,rfl,fun h3=>stop ?_ k3,fun h3=>zI ?_⟩
   ·have h3:(!(z.cps.toList.all fun c=>inS ⟨#[c]⟩ FIG))=true:=h3
    unfold nbF
    rw [show (z.cps.toList.all fun c=>inS ⟨#[c]⟩ FIG)=false by simpa using h3,Bool.false_and,Bool.and_false]
   ·have h3:(!(z.cps.toList.all fun c=>inS ⟨#[c]⟩ FIG))=false:=h3
    have h3:(z.cps.toList.all fun c=>inS ⟨#[c]⟩ FIG)=true:=by simpa using h3
    have e:nbF z=(decide (sg z 0≠some 48)||decide (z="0")):=by
     unfold nbF
     rw [decide_eq_true hz,h3,Bool.true_and,Bool.true_and]
    rw [e]
    obtain ⟨c,hc⟩:=sg0 hz.1
    refine ZM (zk5 ?_)
    walk_at "w"
    refine WO.of (ix0 hl hc) ?_
    walk_at "w"
    refine zgd ?_
    have e2:(!decide ((⟨#[c]⟩:Str)="0"))=decide (sg z 0≠some 48):=by
     rw [hc]
     by_cases h:c=48
     ·subst h;rfl
     ·rw [decide_eq_false (show ¬((⟨#[c]⟩:Str)="0") from fun q=>h (zlN.1 q)),decide_eq_true (show some c≠some 48 from fun q=>h (Option.some.inj q))]
      rfl
    rw [e2]
    refine ⟨_,rfl,fun h4=> ?_,fun h4=> ?_⟩
    ·exact ⟨by rw [h4,Bool.true_or],k3⟩
    ·walk_at "w"
     refine zc8 ?_
     exact ⟨by rw [h4,Bool.false_or],k3⟩
 ·have h1:¬(1:Int)≤z.length:=of_decide_eq_false h1
  omega
end
section
variable {fu:Nat} {S S' S2:Sto} {x y:Xv} {ns:List Int} {bs:List (Str×Int)}
noncomputable def tx:Xv→Str
 | .str z=>z
 | .int v=>nt v
 |_=>""
structure VS (z:Str):Prop where
 asc:asc z
 le:z.length≤9
 pos:1≤z.length
 sp:32∉z.cps.toList
 nl:10∉z.cps.toList
theorem AZ.wd {z:Str} (h:AZ z) (h1:1≤z.length) (h8:z.length≤9):VS z:=⟨h.asc,h8,h1,fun q=>by have:=h _ q;omega,fun q=>by have:=h _ q;omega⟩
theorem zen {v:Int} (h0:0≤v) (h1:v≤999999999):VS (nt v):=by
 have l:=zfp h0 h1
 obtain ⟨a,b⟩:=zim h0
 exact ⟨a,l.2,l.1,fun q=>by have:=b _ q;omega,fun q=>by have:=b _ q;omega⟩
theorem zm6 {n:Str} (h:(Wh bs n).isSome=true):∃b∈bs,b.1=n:=by
 unfold Wh at h
 rw [Option.isSome_map,List.find?_isSome] at h
 obtain ⟨b,hb,e⟩:=h
 exact ⟨b,hb,of_decide_eq_true e⟩
theorem GOp.cases {a:Xv} (h:GOp bs a):(∃b∈bs,a= .str b.1)∨∃v:Int,a= .int v∧0≤v∧v≤999999999:=by
 obtain ⟨⟨n,rfl⟩|⟨v,rfl⟩,h2⟩:=h
 ·obtain ⟨b,hb,rfl⟩:=zm6 (bs:=bs) (n:=n) h2
  exact .inl ⟨b,hb,rfl⟩
 ·have h2:decide (0≤v∧v≤999999999)=true:=h2
  obtain ⟨h0,h1⟩:=of_decide_eq_true h2
  exact .inr ⟨v,rfl,h0,h1⟩
theorem xN.wd {most:Int} (hB:xN most bs) {b:Str×Int} (h:b∈bs):VS b.1:=by
 obtain ⟨a,c,d⟩:=hB.nm b h
 exact d.wd a (by omega)
theorem GOp.wd {a:Xv} (hB:xN 1000 bs) (h:GOp bs a):VS (tx a):=by
 rcases h.cases with ⟨b,hb,rfl⟩|⟨v,rfl,h0,h1⟩
 ·exact hB.wd hb
 ·exact zen h0 h1
theorem zfq {z:Str} (ha:asc z) (hl:z.length≤100) (h:nmF z=true):W (xx fu [.str z] S) fun v S'=>v= .str z∧Kn S S':=by
 walk_at "wr";unfold XU
 refine zE (zL (vC (vt ?_)))
 walk_at "w"
 refine (zeh ha hl).imp ?_
 rintro _ S1 ⟨rfl,k1⟩
 rw [h]
 refine ⟨_,rfl,(fun z=>by cases z),fun _=>zI ?_⟩
 walk_at "w"
 exact ⟨rfl,k1⟩
theorem xN.namefrom (hB:xN 1000 bs) {b:Str×Int} (h:b∈bs):W (xx fu [.str b.1] S) fun v S'=>v= .str b.1∧Kn S S':=by
 obtain ⟨a,c,d⟩:=hB.nm b h
 exact zfq d.asc (by omega) (d.nm a c)
theorem UL {v:Int} (h0:0≤v) (h1:v≤999999999):W (xo fu [.str (nt v)] S) fun r S'=>r= .int v∧Kn S S':=by
 have l:=zfp h0 h1
 walk_at "wr";unfold ZX
 refine zE (zL (vC (vt ?_)))
 walk_at "w"
 refine (zbg (zim h0).1 (by omega)).imp ?_
 rintro _ S1 ⟨rfl,k1⟩
 rw [zki h0 h1]
 refine ⟨_,rfl,(fun z=>by cases z),fun _=>zI ?_⟩
 walk_at "w"
 exact zf4 (by omega) (zem h0 h1) ⟨rfl,k1⟩
theorem vU {a:Xv} (hB:xN 1000 bs) (h:GOp bs a):W (xt fu [.str (tx a)] S) fun r S'=>r=a∧Kn S S':=by
 walk_at "wr";unfold Zl
 refine zE (zL ?_)
 walk_at "w"
 have w:=h.wd hB
 refine (zbg w.asc (by have:=w.le;omega)).imp ?_
 rintro _ S1 ⟨rfl,k1⟩
 rcases h.cases with ⟨b,hb,rfl⟩|⟨v,rfl,h0,h1⟩
 ·have d:=(hB.nm b hb).2.2
  rw [show nbF (tx (.str b.1))=false from zm5 d]
  refine ⟨_,rfl,(fun z=>by cases z),fun _=>zI ?_⟩
  walk_at "w"
  refine (hB.namefrom hb).imp ?_
  rintro _ S2 ⟨rfl,k2⟩
  exact ⟨rfl,k1.trans k2⟩
 ·rw [show nbF (tx (.int v))=true from zki h0 h1]
  refine ⟨_,rfl,fun _=> ?_,(fun z=>by cases z)⟩
  walk_at "w"
  exact zf4 (by have:=zfp h0 h1;show (nt v).length≤640;omega) (zem h0 h1) ⟨rfl,k1⟩
theorem znk {w a b c:Str} {P:Xv→Sto→Prop} (k:P (.bl (!decide (w=a∨w=b∨w=c))) S):WO (dIn true (.str w) (.ct [.str a,.str b,.str c]) S) P:=by
 refine TD rfl rfl ?_
 show P (.bl (true !=((a==w)||((b==w)||((c==w)||false))))) S
 rw [Bool.true_bne]
 have e:((a==w)||((b==w)||((c==w)||false)))=decide (w=a∨w=b∨w=c):=by
  rw [Bool.eq_iff_iff,Bool.or_eq_true,Bool.or_eq_true,Bool.or_eq_true,beq_iff_eq,beq_iff_eq,beq_iff_eq,decide_eq_true_iff]
  constructor
  ·rintro (h|h|h|h)
   ·exact .inl h.symm
   ·exact .inr (.inl h.symm)
   ·exact .inr (.inr h.symm)
   ·cases h
  ·rintro (h|h|h)
   ·exact .inl h.symm
   ·exact .inr (.inl h.symm)
   ·exact .inr (.inr (.inl h.symm))
 rw [e]
 exact k
noncomputable def Txs (S:Sto) (n:Nat) (ts:List Str):Prop:=S[n]? =some (.lst (ts.map Xv.str))
theorem UM {m:Nat} {a b:Xv} {s c1 c2 c3:Str} (hB:xN 1000 bs) (ha:GOp bs a) (hb:GOp bs b) (hs:s∈[c1,c2,c3]) (hat:Txs S m [tx a,s,tx b]):
  W (vh fu [.ref m,.ct [.str c1,.str c2,.str c3]] S) fun r S'=>r= .tup [a,.str s,b]∧Kn S S':=by
 have e:yx S (.ref m)=some [.str (tx a),.str s,.str (tx b)]:=zR hat
 walk_at "wr";unfold ZZ
 refine zE (zL (Xh ?_))
 walk_at "w"
 refine xL e ?_
 walk_at "w"
 rw [show (!decide ((([Xv.str (tx a),.str s,.str (tx b)]:List Xv).length:Int)=3))=false from rfl]
 refine ⟨(fun z=>by cases z),fun _=> ?_⟩
 walk_at "w"
 refine xz e (z:= .str s) rfl ?_
 walk_at "w"
 refine znk ?_
 have hs:s=c1∨s=c2∨s=c3:=by simpa using hs
 rw [decide_eq_true hs]
 refine ⟨_,rfl,(fun z=>by cases z),fun _=>zI ?_⟩
 walk_at "w"
 refine xz e (z:= .str (tx a)) rfl ?_
 walk_at "w"
 refine (vU hB ha).imp ?_
 rintro _ S1 ⟨rfl,k1⟩
 walk_at "w"
 refine xz (k1.lst e) (z:= .str s) rfl ?_
 walk_at "w"
 refine xz (k1.lst e) (z:= .str (tx b)) rfl ?_
 walk_at "w"
 refine (vU hB hb).imp ?_
 rintro _ S2 ⟨rfl,k2⟩
 walk_at "w"
 exact ⟨rfl,k1.trans k2⟩
end
section
variable {fu:Nat} {S S' S2:Sto} {x y:Xv} {ns:List Int} {bs:List (Str×Int)}
theorem UN {α:Type} (l:List α) (n:Nat):L2.zaF l (some (n:Int)) none=l.drop n:=by
 unfold L2.zaF
 rw [HT.ziJ,HT.zhk]
 by_cases h:n≤l.length
 ·rw [Nat.min_eq_left h,List.take_of_length_le (by rw [List.length_drop];exact Nat.le_refl _)]
 ·rw [Nat.min_eq_right (by omega),List.drop_eq_nil_of_le (Nat.le_refl _),List.drop_eq_nil_of_le (by omega),List.take_nil]
theorem zfr {m:Nat} {a b:Xv} {s:Str} (hB:xN 1000 bs) (ha:GOp bs a) (hb:GOp bs b) (hs:s∈TS) (hat:Txs S m [tx a,s,tx b]):W (vi fu [.ref m] S) fun r S'=>r= .tup [a,.str s,b]∧Kn S S':=by
 walk_at "wr";unfold XV
 walk_at "w"
 exact UM hB ha hb hs hat
theorem zgW {m:Nat} {a:Xv} (hB:xN 1000 bs) (ha:GOp bs a) (hat:Txs S m [tx a]):W (xW fu [.ref m] S) fun r S'=>r= .tup [a]∧Kn S S':=by
 have e:yx S (.ref m)=some [.str (tx a)]:=zR hat
 walk_at "wr";unfold xV
 refine zE (zL ?_)
 walk_at "w"
 refine xL e ?_
 walk_at "w"
 refine ⟨fun _=> ?_,fun z=> ?_⟩
 ·walk_at "w"
  refine xz e (z:= .str (tx a)) rfl ?_
  walk_at "w"
  refine (vU hB ha).imp ?_
  rintro _ S1 ⟨rfl,k1⟩
  walk_at "w"
  exact ⟨rfl,k1⟩
 ·exact absurd (show decide (((1:Nat):Int)=1)=false from z) (by decide)
theorem zgX {m:Nat} {a b:Xv} {s:Str} (hB:xN 1000 bs) (ha:GOp bs a) (hb:GOp bs b) (hs:s∈RS) (hat:Txs S m [tx a,s,tx b]):W (xW fu [.ref m] S) fun r S'=>r= .tup [a,.str s,b]∧Kn S S':=by
 have e:yx S (.ref m)=some [.str (tx a),.str s,.str (tx b)]:=zR hat
 walk_at "wr";unfold xV
 refine zE (zL ?_)
 walk_at "w"
 refine xL e ?_
 walk_at "w"
 refine ⟨fun z=> ?_,fun _=>zI ?_⟩
 ·exact absurd (show decide (((3:Nat):Int)=1)=true from z) (by decide)
 ·walk_at "w"
  exact UM hB ha hb hs hat
theorem zeo {w:Str} {r:List Xv} {m:Nat} (hB:xN 1000 bs) (h:Pw bs x (.str w::r)) (hat:Txs S m (r.map tx)):W (YS fu [.str w,.ref m] S) fun v S'=>v=x∧Kn S S':=by
 have e0:yx S (.ref m)=some ((r.map tx).map Xv.str):=zR hat
 walk_at "wr";unfold YR
 have no:∀{w v:Str} {c:TwT} {a:TwS} {N:Rho→Sto→Prop} {R:Xv→Sto→Prop},w≠v→N [some (.str w),some (.ref m)] S→WS (sIf (Xw (bE (eOp (yV false) (ze 0) (eC (.str v)))) c) a zO [some (.str w),some (.ref m)] S) N R:=by
  intro w v c a N R h k
  refine zL (xr ?_)
  walk_at "w"
  exact xi h ⟨_,rfl,(fun z=>by cases z),fun _=>⟨(fun z=>by cases z),fun _=>zI k⟩⟩
 have no1:∀{w v:Str} {a:TwS} {N:Rho→Sto→Prop} {R:Xv→Sto→Prop},w≠v→N [some (.str w),some (.ref m)] S→WS (sIf (bE (eOp (yV false) (ze 0) (eC (.str v)))) a zO [some (.str w),some (.ref m)] S) N R:=by
  intro w v a N R h k
  refine zL ?_
  walk_at "w"
  exact xi h ⟨_,rfl,(fun z=>by cases z),fun _=>zI k⟩
 generalize hps:Xv.str w::r=ps at h
 cases h with
 |pass=>
  obtain ⟨e1,rfl⟩:=List.cons.inj hps
  cases e1
  refine zE (zL (xr ?_))
  walk_at "w"
  refine yN ⟨_,rfl,fun _=> ?_,(fun z=>by cases z)⟩
  walk_at "w"
  refine xL e0 ?_
  walk_at "w"
  refine ⟨fun _=> ?_,fun z=>absurd (show decide (((0:Nat):Int)=0)=false from z) (by decide)⟩
  walk_at "w"
  exact ⟨rfl,Kn.refl⟩
 | @gain a ha=>
  obtain ⟨e1,rfl⟩:=List.cons.inj hps
  cases e1
  refine zE (no (by decide) (zE (no (by decide) (zE (no (by decide) (zE (zL (xr ?_))))))))
  walk_at "w"
  refine yN ⟨_,rfl,fun _=> ?_,(fun z=>by cases z)⟩
  walk_at "w"
  refine xL e0 ?_
  walk_at "w"
  refine ⟨fun _=> ?_,fun z=>absurd (show decide (((1:Nat):Int)=1)=false from z) (by decide)⟩
  walk_at "w"
  refine xz e0 (z:= .str (tx a)) rfl ?_
  walk_at "w"
  refine (vU hB ha).imp ?_
  rintro _ S1 ⟨rfl,k1⟩
  walk_at "w"
  exact ⟨rfl,k1⟩
 | @look a b s hs ha hb=>
  obtain ⟨e1,rfl⟩:=List.cons.inj hps
  cases e1
  refine zE (no (by decide) (zE (no (by decide) (zE (no (by decide) (zE (no (by decide) (zE (zL ?_)))))))))
  walk_at "w"
  refine yN ⟨_,rfl,fun _=> ?_,(fun z=>by cases z)⟩
  walk_at "w"
  refine (zfr hB ha hb hs hat).imp ?_
  rintro _ S1 ⟨rfl,k1⟩
  walk_at "w"
  exact ⟨rfl,k1⟩
 | @set1 b a hb ha=>
  obtain ⟨e1,rfl⟩:=List.cons.inj hps
  cases e1
  refine zE (no (by decide) (zE (zL (xr ?_))))
  walk_at "w"
  refine yN ⟨_,rfl,fun _=> ?_,(fun z=>by cases z)⟩
  walk_at "w"
  refine xL e0 ?_
  walk_at "w"
  refine ⟨fun _=> ?_,fun z=>absurd (show decide (((2:Nat):Int)>1)=false from z) (by decide)⟩
  walk_at "w"
  refine xz e0 (z:= .str b.1) rfl ?_
  walk_at "w"
  refine (hB.namefrom hb).imp ?_
  rintro _ S1 ⟨rfl,k1⟩
  walk_at "w"
  refine zcK (k1.lst e0) ?_
  rw [show L2.zaF ((List.map tx [Xv.str b.1,a]).map Xv.str) (some 1) none=[Xv.str (tx a)] from UN _ 1]
  walk_at "w"
  refine (zgW hB ha yJ).imp ?_
  rintro _ S2 ⟨rfl,k2⟩
  walk_at "w"
  exact ⟨rfl,k1.trans (Kn.refl.app.trans k2)⟩
 | @set3 n a b s hn hs ha hb=>
  obtain ⟨e1,rfl⟩:=List.cons.inj hps
  cases e1
  refine zE (no (by decide) (zE (zL (xr ?_))))
  walk_at "w"
  refine yN ⟨_,rfl,fun _=> ?_,(fun z=>by cases z)⟩
  walk_at "w"
  refine xL e0 ?_
  walk_at "w"
  refine ⟨fun _=> ?_,fun z=>absurd (show decide (((4:Nat):Int)>1)=false from z) (by decide)⟩
  walk_at "w"
  refine xz e0 (z:= .str n.1) rfl ?_
  walk_at "w"
  refine (hB.namefrom hn).imp ?_
  rintro _ S1 ⟨rfl,k1⟩
  walk_at "w"
  refine zcK (k1.lst e0) ?_
  rw [show L2.zaF ((List.map tx [Xv.str n.1,a,.str s,b]).map Xv.str) (some 1) none=[Xv.str (tx a),.str s,.str (tx b)] from UN _ 1]
  walk_at "w"
  refine (zgX hB ha hb hs yJ).imp ?_
  rintro _ S2 ⟨rfl,k2⟩
  walk_at "w"
  exact ⟨rfl,k1.trans (Kn.refl.app.trans k2)⟩
 | @draw n ws hn h9 h1 hw=>
  obtain ⟨e1,rfl⟩:=List.cons.inj hps
  cases e1
  refine zE (no (by decide) (zE (no (by decide) (zE (zL (xr ?_))))))
  walk_at "w"
  refine yN ⟨_,rfl,fun _=> ?_,(fun z=>by cases z)⟩
  walk_at "w"
  refine xL e0 ?_
  walk_at "w"
  have hlen:(((Xv.str n.1::ws.map Xv.int).map tx).map Xv.str).length=ws.length+1:=by simp
  rw [hlen]
  refine ⟨fun _=> ?_,fun z=>absurd (of_decide_eq_false z) (by omega)⟩
  walk_at "w"
  refine xz e0 (z:= .str n.1) (Zi (by decide) rfl) ?_
  walk_at "w"
  refine (hB.namefrom hn).imp ?_
  rintro _ S1 ⟨rfl,k1⟩
  walk_at "w"
  have ecut:L2.zaF (((Xv.str n.1::ws.map Xv.int).map tx).map Xv.str) (some 1) none=ws.map fun v=>Xv.str (nt v):=by
   rw [show L2.zaF (((Xv.str n.1::ws.map Xv.int).map tx).map Xv.str) (some 1) none=((ws.map Xv.int).map tx).map Xv.str from UN _ 1,List.map_map,List.map_map]
   rfl
  refine Yg (xs:=ws.map fun v=>Xv.str (nt v)) (f:=fun i=> .int (ws.getD i 0)) (by rw [List.length_map];exact yF (by omega)) ?_ ?_ ?_
  ·refine zie (n:=S1.length) ?_
   walk_at "w"
   refine zcK (k1.lst e0) ?_
   rw [ecut]
   exact ⟨rfl,zR yJ,Kn.refl.app⟩
  ·intro i w S2 hi k2
   rw [List.getElem?_map,Option.map_eq_some_iff] at hi
   obtain ⟨v,e,rfl⟩:=hi
   obtain ⟨v0,v1⟩:=hw v (List.mem_of_getElem? e)
   show W (zv (xo fu) [(ze 0)] [some (.str (nt v))] S2) _
   walk_at "w"
   refine (UL v0 v1).imp ?_
   rintro _ S3 ⟨rfl,k3⟩
   rw [List.getD_eq_getElem?_getD,e]
   exact ⟨rfl,k3⟩
  ·intro S2 k2
   walk_at "w"
   refine vI yJ ?_
   walk_at "w"
   have er:(List.range (ws.map fun v=>Xv.str (nt v)).length).map (fun i=>Xv.int (ws.getD i 0))=ws.map Xv.int:=by
    rw [List.length_map]
    apply List.ext_getElem
    ·simp
    ·intro i p q
     rw [List.getElem_map,List.getElem_map,List.getElem_range]
     have hi:i<ws.length:=by simpa using q
     rw [List.getD_eq_getElem?_getD,List.getElem?_eq_getElem hi]
     rfl
   rw [er]
   exact ⟨rfl,k1.trans k2.app⟩
end
section
variable {fu:Nat} {S S' S2:Sto} {x y:Xv} {ns:List Int} {bs:List (Str×Int)}
noncomputable def Pt (p:Xv):Prop:=(∃z,p= .str z∧VS z)∨∃v:Int,p= .int v∧0≤v∧v≤999999999
theorem Pt.wd {p:Xv} (h:Pt p):VS (tx p):=by
 rcases h with ⟨z,rfl,h⟩|⟨v,rfl,h0,h1⟩
 ·exact h
 ·exact zen h0 h1
theorem GOp.pt {a:Xv} (hB:xN 1000 bs) (h:GOp bs a):Pt a:=by
 rcases h.cases with ⟨b,hb,rfl⟩|⟨v,rfl,h0,h1⟩
 ·exact .inl ⟨_,rfl,hB.wd hb⟩
 ·exact .inr ⟨v,rfl,h0,h1⟩
theorem zlO:∀z∈[("pass":Str),"gain","look","set","draw","box","=","<","#","+","-","*"],z.cps.all (· <128)=true∧z.length≤9∧1≤z.length∧32∉z.cps.toList∧10∉z.cps.toList:=by decide+kernel
theorem Yi {z:Str} (h:z∈[("pass":Str),"gain","look","set","draw","box","=","<","#","+","-","*"]):VS z:=by
 obtain ⟨a,b,c,d,e⟩:=zlO z h
 exact ⟨a,b,c,d,e⟩
theorem YZ {z:Str} (h:z∈[("pass":Str),"gain","look","set","draw","box","=","<","#","+","-","*"]):Pt (.str z):= .inl ⟨z,rfl,Yi h⟩
theorem zkj {s:Str} (h:s∈TS):Pt (.str s):=by
 have h:s="="∨s="<"∨s="#":=by simpa [TS] using h
 rcases h with rfl|rfl|rfl<;>exact YZ (by decide)
theorem zkk {s:Str} (h:s∈RS):Pt (.str s):=by
 have h:s="+"∨s="-"∨s="*":=by simpa [RS] using h
 rcases h with rfl|rfl|rfl<;>exact YZ (by decide)
theorem Pw.pts {ps:List Xv} (hB:xN 1000 bs) (h:Pw bs x ps):(∀p∈ps,Pt p)∧ps.length≤11∧∃w r,ps= .str w::r∧w∈[("pass":Str),"gain","look","set","draw"]:=by
 have all:∀{l:List Xv},(∀p∈l,Pt p)→∀{q:Xv},Pt q→∀p∈q::l,Pt p:=by
  intro l hl q hq p hp
  rcases List.mem_cons.1 hp with rfl|hp
  ·exact hq
  ·exact hl p hp
 have nil:∀p∈([]:List Xv),Pt p:=fun p hp=>by cases hp
 cases h with
 |pass=>exact ⟨all nil (YZ (by decide)),show 1≤11 by decide,_,_,rfl,by decide⟩
 |gain ha=>exact ⟨all (all nil (ha.pt hB)) (YZ (by decide)),show 2≤11 by decide,_,_,rfl,by decide⟩
 |look hs ha hb=>exact ⟨all (all (all (all nil (hb.pt hB)) (zkj hs)) (ha.pt hB)) (YZ (by decide)),show 4≤11 by decide,_,_,rfl,by decide⟩
 |set1 hn ha=>exact ⟨all (all (all nil (ha.pt hB)) (.inl ⟨_,rfl,hB.wd hn⟩)) (YZ (by decide)),show 3≤11 by decide,_,_,rfl,by decide⟩
 |set3 hn hs ha hb=>exact ⟨all (all (all (all (all nil (hb.pt hB)) (zkk hs)) (ha.pt hB)) (.inl ⟨_,rfl,hB.wd hn⟩)) (YZ (by decide)),show 5≤11 by decide,_,_,rfl,by decide⟩
 | @draw n ws hn h9 h1 hw=>
  refine ⟨all (all ?_ (.inl ⟨_,rfl,hB.wd hn⟩)) (YZ (by decide)),by rw [List.length_cons,List.length_cons,List.length_map];omega,_,_,rfl,by decide⟩
  intro p hp
  rw [List.mem_map] at hp
  obtain ⟨v,hv,rfl⟩:=hp
  exact .inr ⟨v,rfl,hw v hv⟩
noncomputable def wj (ps:List Xv):Str:=Txt.join " " (ps.map tx)
theorem zc9 {v:Int} (h0:0≤v) (h1:v≤999999999):v.natAbs.log2<1920:=by
 by_cases h:v.natAbs=0
 ·rw [h];decide
 ·have:v.natAbs.log2<30:=(Nat.log2_lt h).2 (by omega)
  omega
theorem zda {sep:Str} {ts:List Str} {B:Nat} (hB:∀t∈ts,t.length≤B) (h:ts.length*B+ts.length*sep.length≤16777216):JoinOk sep ts=true:=by
 have:=StrLaws.joinFits (sep:=sep) hB h
 unfold JoinOk
 rw [Bool.not_eq_true']
 exact this
theorem zgY {l:List Xv} {f:Nat→Xv} {g:Xv→Xv} (h:∀(i:Nat) p,l[i]? =some p→f i=g p):(List.range l.length).map f=l.map g:=by
 apply List.ext_getElem
 ·simp
 ·intro i p q
  have hi:i<l.length:=by simpa using q
  rw [List.getElem_map,List.getElem_map,List.getElem_range]
  exact h i _ (List.getElem?_eq_getElem hi)
theorem zep {P:Xv→Sto→Prop} {ρ:Rho} {m:TwE} {ps:List Xv} (hp:∀p∈ps,Pt p) (hl:ps.length≤11) (hm:W (m ρ S) fun v S1=>v= .tup ps∧Kn S S1) (k:∀S',Kn S S'→P (.str (wj ps)) S'):
  W (zbu Uv (eC (.str " ")) [(xl [none] (iT m) (gN 0) xq (eFn zbv [(ze 0)]))] ρ S) P:=by
 refine zaV ?_
 walk_at "w"
 refine ⟨⟨_,rfl⟩,?_⟩
 walk_at "w"
 refine Yg (xs:=ps) (f:=fun i=> .str (tx (ps.getD i .non))) (yF (by omega)) (Vz hm) ?_ ?_
 ·intro i p S2 hi k2
  show W (eFn zbv [ze 0] [some p] S2) _
  walk_at "w"
  rw [List.getD_eq_getElem?_getD,hi]
  rcases hp p (List.mem_of_getElem? hi) with ⟨z,rfl,_⟩|⟨v,rfl,h0,h1⟩
  ·exact zf3 ⟨rfl,Kn.refl⟩
  ·exact zcS (zc9 h0 h1) ⟨rfl,Kn.refl⟩
 ·intro S2 k2
  rw [zgY (g:=fun p=> .str (tx p)) (fun i p h=>by rw [List.getD_eq_getElem?_getD,h];rfl)]
  walk_at "w"
  refine zcR (wF yJ) (ts:=ps.map tx) (by rw [←WN (ps.map tx),List.map_map];rfl) (zda (B:=9) ?_ ?_) (k _ k2.app)
  ·intro t ht
   rw [List.mem_map] at ht
   obtain ⟨p,hp2,rfl⟩:=ht
   exact (hp p hp2).wd.le
  ·rw [List.length_map]
   show ps.length*9+ps.length*1≤_
   omega
end
section
variable {fu:Nat} {S S' S2:Sto} {x y:Xv} {ns:List Int} {bs:List (Str×Int)}
theorem zam {P:Xv→Sto→Prop} {a b:List Xv} (h:a.length+b.length≤1000) (k:P (.tup (a++b)) S):WO (zb3 (.tup a) (.tup b) S) P:= .of (by unfold zb3;exact if_pos (Nat.le_of_lt (Nat.lt_of_le_of_lt h (by decide)))) k
theorem zdb {ps:List Xv} (hB:xN 1000 bs) (h:Pw bs x ps):W (Yd fu [x] S) fun v S'=>v= .tup ps∧Kn S S':=by
 walk_at "wr";unfold Yc
 have no:∀{w u v:Str} {z:Xv} {a:TwS} {N:Rho→Sto→Prop} {R:Xv→Sto→Prop},w≠u→w≠v→N [some z,some (.str w)] S→WS (sIf (bOr (bE (eOp (yV false) (ze 1) (eC (.str u)))) (bE (eOp (yV false) (ze 1) (eC (.str v))))) a zO [some z,some (.str w)] S) N R:=by
  intro w u v z a N R h h2 k
  refine zL (Xh ?_)
  walk_at "w"
  refine xi h ⟨_,rfl,(fun z=>by cases z),fun _=> ?_⟩
  walk_at "w"
  exact xi h2 ⟨_,rfl,(fun z=>by cases z),fun _=>zI k⟩
 have no3:∀{w:Str} {z:Xv} {a:TwS} {N:Rho→Sto→Prop} {R:Xv→Sto→Prop},w∈[("pass":Str),"gain"]→N [some z,some (.str w)] S→WS (sIf (bE (eOp (dIn false) (ze 1) (xj [(eC (.str "look")),(eC (.str "if")),(eC (.str "while"))]))) a zO [some z,some (.str w)] S) N R:=by
  intro w z a N R h k
  refine zL ?_
  walk_at "w"
  refine TD rfl rfl ?_
  have h:w="pass"∨w="gain":=by simpa using h
  rcases h with rfl|rfl<;>exact ⟨_,rfl,(fun z=>by cases z),fun _=>zI k⟩
 cases h with
 |pass=>
  walk_at "w"
  refine no (by decide) (by decide) (zE (no3 (by decide) (zE (no (by decide) (by decide) ?_))))
  walk_at "w"
  exact ⟨rfl,Kn.refl⟩
 | @gain a ha=>
  walk_at "w"
  refine no (by decide) (by decide) (zE (no3 (by decide) (zE (zL (Xh ?_)))))
  walk_at "w"
  refine xi (by decide) ⟨_,rfl,(fun z=>by cases z),fun _=> ?_⟩
  walk_at "w"
  refine yN ⟨_,rfl,fun _=> ?_,(fun z=>by cases z)⟩
  walk_at "w"
  exact ⟨rfl,Kn.refl⟩
 | @look a b s hs ha hb=>
  walk_at "w"
  refine no (by decide) (by decide) (zE (zL ?_))
  walk_at "w"
  refine TD rfl rfl ?_
  refine ⟨_,rfl,fun _=> ?_,fun z=>absurd z (by decide)⟩
  walk_at "w"
  refine zam (show 1+3≤1000 by decide) ?_
  exact ⟨rfl,Kn.refl⟩
 | @set1 n a hn ha=>
  walk_at "w"
  refine zL (Xh ?_)
  walk_at "w"
  refine yN ⟨_,rfl,fun _=>⟨fun _=> ?_,(fun z=>by cases z)⟩,(fun z=>by cases z)⟩
  walk_at "w"
  refine wX rfl rfl ?_
  refine zam ?_ ?_
  ·show 2+1≤1000;decide
  exact ⟨rfl,Kn.refl⟩
 | @set3 n a b s hn hs ha hb=>
  walk_at "w"
  refine zL (Xh ?_)
  walk_at "w"
  refine yN ⟨_,rfl,fun _=>⟨fun _=> ?_,(fun z=>by cases z)⟩,(fun z=>by cases z)⟩
  walk_at "w"
  refine wX rfl rfl ?_
  refine zam ?_ ?_
  ·show 2+3≤1000;decide
  exact ⟨rfl,Kn.refl⟩
 | @draw n ws hn h9 h1 hw=>
  walk_at "w"
  refine zL (Xh ?_)
  walk_at "w"
  refine xi (by decide) ⟨_,rfl,(fun z=>by cases z),fun _=> ?_⟩
  walk_at "w"
  refine yN ⟨_,rfl,fun _=> ?_,(fun z=>by cases z)⟩
  walk_at "w"
  refine wX rfl rfl ?_
  refine zam ?_ ?_
  ·rw [List.length_map];show 2+_≤1000;omega
  exact ⟨rfl,Kn.refl⟩
theorem zfs {ps:List Xv} {f:Nat} (hB:xN 1000 bs) (h:Pw bs x ps):W (yK fu (f+1) [x] S) fun v S'=>∃n,v= .ref n∧S'[n]? =some (.lst [.str (wj ps)])∧S.length≤n∧Kn S S':=by
 obtain ⟨hp,hl,w,r,rfl,hw⟩:=h.pts hB
 rw [Yu]
 walk_at "wr";unfold ZE
 walk_at "w"
 refine zep hp hl ?_ fun S1 k1=> ?_
 ·walk_at "w"
  exact zdb hB h
 walk_at "w"
 obtain ⟨r2,hx⟩:∃r2,x= .tup (.str w::r2):=by
  generalize hps:Xv.str w::r=ps at h
  cases h<;>(obtain ⟨e1,_⟩:=List.cons.inj hps;cases e1;exact ⟨_,rfl⟩)
 subst hx
 refine zL ?_
 walk_at "w"
 refine in4 ?_
 rw [decide_eq_false (show ¬ (w = "if" ∨ w = "while" ∨ w = "times" ∨ w = "hand") from fun q => by
  have hw:w="pass"∨w="gain"∨w="look"∨w="set"∨w="draw":=by simpa using hw
  rcases hw with rfl|rfl|rfl|rfl|rfl<;>exact absurd q (by decide))]
 refine ⟨_,rfl,fun _=> ?_,(fun z=>by cases z)⟩
 walk_at "w"
 exact ⟨yJ,k1.1,k1.app⟩
end
section
variable {fu:Nat} {S S' S2:Sto} {x y:Xv} {ns:List Int} {bs:List (Str×Int)}
structure Pws (bs:List (Str×Int)) (ds:List Xv) (pss:List (List Xv)):Prop where
 len:pss.length=ds.length
 at_:∀(i:Nat) x ps,ds[i]? =some x→pss[i]? =some ps→Pw bs x ps
noncomputable def zeq (pss:List (List Xv)):List Xv:=pss.map fun ps=> .str (wj ps)
theorem zer {ds:List Xv} {pss:List (List Xv)} {f:Nat} (hB:xN 1000 bs) (h:Pws bs ds pss) (hl:ds.length≤60):W (yq fu (f+2) [.tup ds] S) fun v S'=>∃n,v= .ref n∧S'[n]? =some (.lst (zeq pss))∧S.length≤n∧Kn S S':=by
 rw [Ye]
 walk_at "wr";unfold vS
 walk_at "w"
 refine Th (zdQ ?_)
 walk_at "w"
 refine WZ (fun i ρ S3=>∃a2:Option Xv,ρ=[some (.tup ds),some (.ref S.length),a2]∧S3[S.length]? =some (.lst (zeq (pss.take i)))∧Kn S S3) (fun _ _ _ _ _=>rfl) ?_ ?_ ?_
 ·rintro i x ρ S3 hx ⟨a2,rfl,hat,kn⟩
  have hi:=(List.getElem?_eq_some_iff.1 hx).1
  have hi2:i<pss.length:=by rw [h.len];exact hi
  have hp:=h.at_ i x _ hx (List.getElem?_eq_getElem hi2)
  refine .of rfl ?_
  dsimp only [List.set]
  walk_at "w"
  refine zb7 ?_
  walk_at "w"
  refine ⟨⟨_,zR hat⟩,?_⟩
  walk_at "w"
  refine (zfs hB hp).imp ?_
  rintro _ S4 ⟨n,rfl,hn,hge,k4⟩
  walk_at "w"
  refine zcf (wF (k4.at hat)) (zR hn) ?_ ?_
  ·unfold zeq
   rw [List.length_map,List.length_take]
   exact yF (by show _+1≤100;omega)
  walk_at "w"
  refine ⟨?_,(kn.trans k4).set (.inr (Nat.le_refl _))⟩
  rw [vH (k4.at hat),List.take_succ_eq_append_getElem hi2]
  unfold zeq
  rw [List.map_append]
  rfl
 ·exact ⟨none,rfl,yJ,Kn.refl.app⟩
 ·rintro ρ S3 ⟨a2,rfl,hat,kn⟩
  rw [←h.len,List.take_length] at hat
  walk_at "w"
  exact ⟨hat,Nat.le_refl _,kn⟩
end
section
variable {fu:Nat} {S S' S2:Sto} {x y:Xv} {ns:List Int} {bs:List (Str×Int)}
theorem Wb (sep:Str) (ts:List Str):Txt.join sep ts=Str.join sep ts:=StrLaws.glued_eq_join sep ts
theorem ZI {p q:Xv} {r:List Xv}:wj (p::q::r)=tx p++" "++wj (q::r):=by
 unfold wj
 rw [Wb,Wb]
 rfl
theorem zbh {p:Xv}:wj [p]=tx p:=by
 unfold wj
 rw [Wb]
 rfl
theorem Xk {ps:List Xv} (hp:∀p∈ps,Pt p) (hl:ps.length≤11):(wj ps).length≤110:=by
 unfold wj
 rw [Wb]
 have h1:=StrLaws.join_length_le " " (ps.map tx)
 have h2:=StrLaws.sumLen_le (B:=9) (ps.map tx) (fun t ht=>by
  rw [List.mem_map] at ht
  obtain ⟨p,hp2,rfl⟩:=ht
  exact (hp p hp2).wd.le)
 rw [List.length_map] at h1 h2
 have h3:((" ":Str)).length=1:=rfl
 rw [h3] at h1
 omega
theorem zbi {ps:List Xv} (hp:∀p∈ps,Pt p) (hl:ps.length≤11):W (wA fu [.tup ps] S) fun v S'=>v= .str (wj ps)∧Kn S S':=by
 walk_at "wr";unfold YY
 refine ZM (zep hp hl ?_ fun S1 k1=>⟨rfl,k1⟩)
 walk_at "w"
 exact ⟨rfl,Kn.refl⟩
theorem zio {ps:List Xv} (hB:xN 1000 bs) (h:Pw bs x ps):W (Yv fu [x] S) fun v S'=>v= .str (wj ps)∧Kn S S':=by
 obtain ⟨hp,hl,_⟩:=h.pts hB
 walk_at "wr";unfold WM
 have no:∀{w v:Str} {r:List Xv} {a:TwS} {N:Rho→Sto→Prop} {R:Xv→Sto→Prop},w≠v→N [some (.tup (.str w::r))] S→WS (sIf (bE (eOp (yV false) (eOp yE (ze 0) (eC (.int 0))) (eC (.str v)))) a zO [some (.tup (.str w::r))] S) N R:=by
  intro w v r a N R h k
  refine zL ?_
  walk_at "w"
  exact xi h ⟨_,rfl,(fun z=>by cases z),fun _=>zI k⟩
 have z999:∀{n:Nat},n≤999→n≤sizeLine:=fun h=>Nat.le_of_lt (Nat.lt_of_le_of_lt h (by decide))
 have tail:∀{p q:Xv} {r:List Xv},(∀z∈p::q::r,Pt z)→(p::q::r).length≤11→(∀z∈r,Pt z)∧r.length≤11:=by
  intro p q r h h2
  refine ⟨fun z hz=>h z (List.mem_cons_of_mem _ (List.mem_cons_of_mem _ hz)),?_⟩
  rw [List.length_cons,List.length_cons] at h2
  omega
 have big:∀{w n:Str} {r:List Xv} {q:Xv} {N:Rho→Sto→Prop},VS w→VS n→(∀z∈(.str w:: .str n::q::r),Pt z)→(Xv.str w:: .str n::q::r).length≤11→
   WS (zY (eOp ww (eOp ww (eOp ww (eOp ww (eOp yE (ze 0) (eC (.int 0))) (eC (.str " "))) (eOp yE (ze 0) (eC (.int 1)))) (eC (.str " "))) (zv (wA fu) [(eOp yE (ze 0) (eC (.int 2)))])) [some (.tup [.str w,.str n,.tup (q::r)])] S) N fun v S'=>v= .str (wj (.str w:: .str n::q::r))∧Kn S S':=by
  intro w n r q N hw hn h1 h2
  obtain ⟨h3,h4⟩:=tail h1 h2
  have l1:=hw.le
  have l2:=hn.le
  have ls:((" ":Str)).length=1:=rfl
  walk_at "w"
  refine vn (z999 (by show _+1≤_;omega)) ?_
  walk_at "w"
  refine vn (z999 (by rw [Str.length_append,ls];omega)) ?_
  walk_at "w"
  refine vn (z999 (by rw [Str.length_append,Str.length_append,ls];omega)) ?_
  walk_at "w"
  refine wX rfl rfl ?_
  walk_at "w"
  refine (zbi h3 h4).imp ?_
  rintro _ S1 ⟨rfl,k1⟩
  have lr:=Xk h3 h4
  refine vn (z999 (by rw [Str.length_append,Str.length_append,Str.length_append,ls];omega)) ?_
  refine ⟨?_,k1⟩
  rw [ZI,ZI]
  show Xv.str (w++" "++n++" "++wj (q::r))=Xv.str (w++" "++(n++" "++wj (q::r)))
  simp only [Str.append_assoc]
 cases h with
 |pass=>
  refine zE (zL ?_)
  walk_at "w"
  refine yN ⟨_,rfl,fun _=> ?_,(fun z=>by cases z)⟩
  walk_at "w"
  exact ⟨by rw [zbh];rfl,Kn.refl⟩
 | @gain a ha=>
  refine zE (no (by decide) (zE (zL ?_)))
  walk_at "w"
  refine yN ⟨_,rfl,fun _=> ?_,(fun z=>by cases z)⟩
  have w:=(ha.pt hB).wd.le
  have e:wj [.str "gain",a]="gain "++tx a:=by
   rw [ZI,zbh]
   rfl
  rw [e]
  have fin:WO (ww (.str "gain ") (.str (tx a)) S) fun v S'=>v= .str ("gain "++tx a)∧Kn S S':=vn (z999 (by show 5+_≤_;omega)) ⟨rfl,Kn.refl⟩
  walk_at "w"
  rcases ha.pt hB with ⟨z,rfl,_⟩|⟨v,rfl,h0,h1⟩
  ·exact zf3 fin
  ·exact zcS (zc9 h0 h1) fin
 | @look a b s hs ha hb=>
  refine zE (no (by decide) (zE (no (by decide) (zE (zL ?_)))))
  walk_at "w"
  refine yN ⟨_,rfl,fun _=> ?_,(fun z=>by cases z)⟩
  walk_at "w"
  have h3:(∀z∈[a,Xv.str s,b],Pt z):=fun z hz=>hp z (List.mem_cons_of_mem _ hz)
  have h4:([a,Xv.str s,b]:List Xv).length≤11:=show 3≤11 by decide
  refine (zbi h3 h4).imp ?_
  rintro _ S1 ⟨rfl,k1⟩
  have lr:=Xk h3 h4
  refine vn (z999 (by show 5+_≤_;omega)) ⟨?_,k1⟩
  rw [ZI (p:= .str "look")]
  rfl
 | @set1 n a hn ha=>
  refine zE (no (by decide) (zE (no (by decide) (zE (no (by decide) ?_)))))
  exact big (Yi (by decide)) (hB.wd hn) hp hl
 | @set3 n a b s hn hs ha hb=>
  refine zE (no (by decide) (zE (no (by decide) (zE (no (by decide) ?_)))))
  exact big (Yi (by decide)) (hB.wd hn) hp hl
 | @draw n ws hn h9 h1 hw=>
  match ws,h1 with
  |v::ws,_=>
   refine zE (no (by decide) (zE (no (by decide) (zE (no (by decide) ?_)))))
   exact big (Yi (by decide)) (hB.wd hn) hp hl
end
section
variable {fu:Nat} {S S' S2:Sto} {x y:Xv} {ns:List Int} {bs:List (Str×Int)}
structure Yj (S:Sto) (o:Nat) (wss:List (List Str)) (k:Nat) (l:Nat) (ms:List Nat):Prop where
 ob:S[o]? =some (.ins "Rows" [("rows",.ref l),("place",.int (k:Int))])
 li:S[l]? =some (.lst (ms.map Xv.ref))
 len:ms.length=wss.length
 at_:∀(i m:Nat) (ws:List Str),ms[i]? =some m→wss[i]? =some ws→Txs S m ws
theorem Yj.keep {o k l:Nat} {wss:List (List Str)} {ms:List Nat} (h:Yj S o wss k l ms) (q:Kn S S'):Yj S' o wss k l ms:=⟨q.at h.ob,q.at h.li,h.len,fun i m ws a b=>q.at (h.at_ i m ws a b)⟩
theorem WP {o k l:Nat} {wss:List (List Str)} {ms:List Nat} (h:Yj S o wss k l ms) (hk:k≤wss.length) (hw:∀ws∈wss,ws≠[]):
  W (yu fu [.ref o] S) fun v S'=>v=(match wss[k]? with|some (w::_)=> .str w|_=> .non)∧S=S':=by
 have el:=h.li
 walk_at "wr";unfold wN
 refine zE (zL ?_)
 walk_at "w"
 refine Tl ?_
 walk_at "w"
 refine ⟨_,_,_,rfl,h.ob,rfl,?_⟩
 walk_at "w"
 refine Tl ?_
 walk_at "w"
 refine ⟨_,_,_,rfl,h.ob,rfl,?_⟩
 walk_at "w"
 refine xL (zR el) ?_
 walk_at "w"
 rw [List.length_map,h.len]
 refine xh (fun e=> ?_) (fun e=>zI ?_)
 ·walk_at "w"
  rw [List.getElem?_eq_none (by omega)]
  exact ⟨rfl,rfl⟩
 ·have hk2:k<wss.length:=by omega
  have hk3:k<ms.length:=by rw [h.len];exact hk2
  have hb:=h.at_ k _ _ (List.getElem?_eq_getElem hk3) (List.getElem?_eq_getElem hk2)
  have hne:=hw _ (List.getElem_mem hk2)
  walk_at "w"
  refine Tl ?_
  walk_at "w"
  refine ⟨_,_,_,rfl,h.ob,rfl,?_⟩
  walk_at "w"
  refine Tl ?_
  walk_at "w"
  refine ⟨_,_,_,rfl,h.ob,rfl,?_⟩
  walk_at "w"
  refine xz (zR el) (z:= .ref ms[k]) (Zi (by omega) (by rw [Int.toNat_natCast,List.getElem?_map,List.getElem?_eq_getElem hk3];rfl)) ?_
  walk_at "w"
  rw [List.getElem?_eq_getElem hk2]
  revert hb hne
  cases wss[k] with
  |nil=>intro _ q;exact absurd rfl q
  |cons w r=>
   intro hb _
   exact xz (zR hb) (z:= .str w) (Zi (by decide) rfl) ⟨rfl,rfl⟩
theorem zge {o k l:Nat} {wss:List (List Str)} {ms:List Nat} {ws:List Str} (h:Yj S o wss k l ms) (hk:wss[k]? =some ws):
  W (xQ fu [.ref o] S) fun v S'=>∃m,v= .ref m∧Txs S' m ws∧Yj S' o wss (k+1) l ms∧Kp (· =o) S S':=by
 have hk2:=(List.getElem?_eq_some_iff.1 hk).1
 have hk3:k<ms.length:=by rw [h.len];exact hk2
 have hb:=h.at_ k _ _ (List.getElem?_eq_getElem hk3) hk
 have ne:∀{n:Nat} {xs:List Xv},S[n]? =some (.lst xs)→n≠o:=fun e q=>by rw [q,h.ob] at e;cases e
 walk_at "wr";unfold YO
 walk_at "w"
 refine Tl ?_
 walk_at "w"
 refine ⟨_,_,_,rfl,h.ob,rfl,?_⟩
 walk_at "w"
 refine Tl ?_
 walk_at "w"
 refine ⟨_,_,_,rfl,h.ob,rfl,?_⟩
 walk_at "w"
 refine xz (zR h.li) (z:= .ref ms[k]) (Zi (by omega) (by rw [Int.toNat_natCast,List.getElem?_map,List.getElem?_eq_getElem hk3];rfl)) ?_
 walk_at "w"
 refine zjq ?_
 walk_at "w"
 refine ⟨_,_,_,rfl,h.ob,rfl,?_⟩
 walk_at "w"
 refine ⟨_,_,rfl,h.ob,show 2<1000 by decide,?_⟩
 walk_at "w"
 have kp:∀{c:Ce},Kp (· =o) S (S.set o c):=(Kp.refl _).set (.inl rfl)
 refine ⟨kp.2 _ _ hb (ne hb),⟨?_,kp.2 _ _ h.li (ne h.li),h.len,fun i m ws a b=>kp.2 _ _ (h.at_ i m ws a b) (ne (h.at_ i m ws a b))⟩,kp⟩
 exact vH h.ob
end
section
variable {fu:Nat} {S S' S2:Sto} {x y:Xv} {ns:List Int} {bs:List (Str×Int)}
theorem Kp.of_kn {w:Nat→Prop} (h:Kn S S'):Kp w S S':=⟨h.1,fun n c e _=>h.2 n c e (fun z=>z)⟩
theorem zft {o k l f:Nat} {op:Int} {wss:List (List Str)} {ms:List Nat} {ps:List Xv} (hB:xN 1000 bs) (hp:Pw bs x ps) (h:Yj S o wss k l ms) (hk:wss[k]? =some (ps.map tx)):
  W (zX fu (f+1) [.ref o,.int op] S) fun v S'=>v=x∧Yj S' o wss (k+1) l ms∧Kp (· =o) S S':=by
 obtain ⟨hpt,hl,w,r,rfl,hw⟩:=hp.pts hB
 rw [Yt]
 walk_at "wr";unfold ZD
 walk_at "w"
 refine Us ?_
 walk_at "w"
 refine ⟨_,_,rfl,h.ob,rfl,?_⟩
 walk_at "w"
 refine (zge h hk).imp ?_
 rintro _ S1 ⟨m,rfl,hm,h1,k1⟩
 walk_at "w"
 refine xz (zR hm) (z:= .str w) (Zi (by decide) rfl) ?_
 walk_at "w"
 refine zL ?_
 walk_at "w"
 refine in4 ?_
 rw [decide_eq_false (show ¬ (w = "if" ∨ w = "while" ∨ w = "times" ∨ w = "hand") from fun q => by
  have hw:w="pass"∨w="gain"∨w="look"∨w="set"∨w="draw":=by simpa using hw
  rcases hw with rfl|rfl|rfl|rfl|rfl<;>exact absurd q (by decide))]
 refine ⟨_,rfl,fun _=> ?_,(fun z=>by cases z)⟩
 walk_at "w"
 refine zcK (zR hm) ?_
 rw [show L2.zaF (((Xv.str w::r).map tx).map Xv.str) (some 1) none=(r.map tx).map Xv.str from UN _ 1]
 walk_at "w"
 refine (zeo hB hp yJ).imp ?_
 rintro _ S2 ⟨rfl,k2⟩
 have kk:Kn S1 S2:=Kn.refl.app.trans k2
 exact ⟨rfl,h1.keep kk,k1.trans (Kp.of_kn kk)⟩
end
section
variable {fu:Nat} {S S' S2:Sto} {x y:Xv} {ns:List Int} {bs:List (Str×Int)}
theorem Yj.put {o k l a:Nat} {wss:List (List Str)} {ms:List Nat} {c:Ce} (h:Yj S o wss k l ms) (h1:a≠o) (h2:a≠l) (h3:a∉ms):Yj (S.set a c) o wss k l ms:=by
 have st:∀{n:Nat} {d:Ce},a≠n→S[n]? =some d→(S.set a c)[n]? =some d:=fun q e=>by rw [List.getElem?_set_ne q];exact e
 exact ⟨st h1 h.ob,st h2 h.li,h.len,fun i m ws p q=>st (fun z=>h3 (by rw [z];exact List.mem_of_getElem? p)) (h.at_ i m ws p q)⟩
theorem zgZ {T0:Sto} {o l kb f:Nat} {op:Int} {wss:List (List Str)} {ms:List Nat} {ds:List Xv} {pss:List (List Xv)} {R:Xv→Sto→Prop} (hB:xN 1000 bs) (hd:Pws bs ds pss) (hl:ds.length≤60) (hlen:wss.length=kb+pss.length)
  (hrow:∀(i:Nat) ps,pss[i]? =some ps→wss[kb+i]? =some (ps.map tx)) (hw:∀ws∈wss,ws≠[]) (hol:o<T0.length) (hll:l<T0.length) (hml:∀m∈ms,m<T0.length):
  ∀(n i:Nat) (S:Sto),ds.length-i<n→i≤ds.length→Yj S o wss (kb+i) l ms→S[T0.length]? =some (.lst (ds.take i))→Kp (· =o) T0 S→
  WS (zaG (bE (eOp (dIn true) (xT "Rows" "first_word" (yu fu) (ze 0) []) (xj [(eC .non),(eC (.str "else")),(eC (.str "or")),(eC (.str "end"))]))) (wP (eMt xU (ze 2) [(zv (zX fu (f+1)) [(ze 0),(ze 1)])])) n [some (.ref o),some (.int op),some (.ref T0.length)] S)
   (fun ρ S'=>ρ=[some (.ref o),some (.int op),some (.ref T0.length)]∧S'[T0.length]? =some (.lst ds)∧Yj S' o wss (kb+ds.length) l ms∧Kp (· =o) T0 S') R:=by
 intro n
 induction n with
 |zero=>intro i S h;omega
 |succ n ih=>
  intro i S hn hi h hat kp
  refine zfV ?_
  walk_at "w"
  refine Us ?_
  walk_at "w"
  refine ⟨_,_,rfl,h.ob,rfl,?_⟩
  walk_at "w"
  refine (WP h (by rw [hlen,hd.len];omega) hw).imp ?_
  rintro _ _ ⟨rfl,rfl⟩
  walk_at "w"
  by_cases hid:i<ds.length
  ·have hip:i<pss.length:=by rw [hd.len];exact hid
   have hx:=hd.at_ i _ _ (List.getElem?_eq_getElem hid) (List.getElem?_eq_getElem hip)
   have hr:=hrow i _ (List.getElem?_eq_getElem hip)
   obtain ⟨_,_,w,r,hps,hw5⟩:=hx.pts hB
   rw [hr,hps]
   have hw5:w="pass"∨w="gain"∨w="look"∨w="set"∨w="draw":=by simpa using hw5
   have hin:(true !=[Xv.non,.str "else",.str "or",.str "end"].any fun z=>zcF z (.str w))=true:=by
    rcases hw5 with rfl|rfl|rfl|rfl|rfl<;>rfl
   show WO (dIn true (.str w) (.tup [.non,.str "else",.str "or",.str "end"]) S) _
   refine TD rfl rfl ?_
   rw [hin]
   refine ⟨_,rfl,fun _=> ?_,(fun z=>by cases z)⟩
   walk_at "w"
   refine zb7 ?_
   walk_at "w"
   refine ⟨⟨_,zR hat⟩,?_⟩
   walk_at "w"
   refine (zft hB hx h hr).imp ?_
   rintro _ S2 ⟨rfl,h2,k2⟩
   have hat2:=k2.2 _ _ hat (show ¬T0.length=o by omega)
   walk_at "w"
   refine Vb (wF hat2) (by rw [List.length_take];exact zf6 (by omega)) ?_
   walk_at "w"
   refine ih (i+1) _ (by omega) (by omega) ?_ ?_ ((kp.trans k2).set (.inr (Nat.le_refl _)))
   ·rw [show kb+(i+1)=kb+i+1 by omega]
    exact h2.put (by omega) (by omega) (fun z=>by have:=hml _ z;omega)
   ·rw [vH hat2,List.take_succ_eq_append_getElem hid]
  ·obtain rfl:i=ds.length:=by omega
   rw [List.getElem?_eq_none (by rw [hlen,hd.len];omega)]
   show WO (dIn true .non (.tup [.non,.str "else",.str "or",.str "end"]) S) _
   refine TD rfl rfl ?_
   rw [show (true !=[Xv.non,.str "else",.str "or",.str "end"].any fun z=>zcF z .non)=false from rfl]
   refine ⟨_,rfl,(fun z=>by cases z),fun _=> ?_⟩
   rw [List.take_length] at hat
   exact ⟨rfl,hat,h,kp⟩
end
section
variable {fu:Nat} {S S' S2:Sto} {x y:Xv} {ns:List Int} {bs:List (Str×Int)}
theorem zes {o l kb f:Nat} {op:Int} {wss:List (List Str)} {ms:List Nat} {ds:List Xv} {pss:List (List Xv)} (hbg:Big fu) (hB:xN 1000 bs) (hd:Pws bs ds pss) (hl:ds.length≤60) (hlen:wss.length=kb+pss.length)
  (hrow:∀(i:Nat) ps,pss[i]? =some ps→wss[kb+i]? =some (ps.map tx)) (hw:∀ws∈wss,ws≠[]) (hml:∀m∈ms,m<S.length) (h:Yj S o wss kb l ms):
  W (zP fu (f+2) [.ref o,.int op] S) fun v S'=>v= .tup ds∧Yj S' o wss (kb+ds.length) l ms∧Kp (· =o) S S':=by
 rw [Yb]
 walk_at "wr";unfold vR
 walk_at "w"
 have h1:Yj (S++[Ce.lst []]) o wss kb l ms:=h.keep Kn.refl.app
 refine Zh _ (zj5 (zgZ (T0:=S) (op:=op) hB hd hl hlen hrow hw (List.getElem?_eq_some_iff.1 h.ob).1 (List.getElem?_eq_some_iff.1 h.li).1 hml fu 0 _ (by have:=hbg.le;omega) (Nat.zero_le _) h1 yJ (Kp.of_kn Kn.refl.app))) ?_
 rintro ρ S3 ⟨rfl,hat,h3,k3⟩
 walk_at "w"
 refine vI hat ?_
 exact ⟨rfl,h3,k3⟩
end
section
variable {fu:Nat} {S S' S2:Sto} {x y:Xv} {ns:List Int} {bs:List (Str×Int)}
theorem zg0 {T0:Sto} {o l:Nat} {wss:List (List Str)} {ms:List Nat} {R:Xv→Sto→Prop} (hB:xN 1000 bs) (hlen:bs.length≤wss.length)
  (hrow:∀(i:Nat) b,bs[i]? =some b→wss[i]? =some [("box":Str),b.1,nt b.2]) (hnext:∀w r,wss[bs.length]? =some (w::r)→w≠"box") (hw:∀ws∈wss,ws≠[]) (hol:o<T0.length) (hll:l<T0.length) (hml:∀m∈ms,m<T0.length):
  ∀(n i:Nat) (a2:Option Xv) (S:Sto),bs.length-i<n→i≤bs.length→Yj S o wss i l ms→S[T0.length]? =some (.lst ((bs.take i).map xB))→Kp (· =o) T0 S→
  WS (zaG (bE (eOp zd2 (xT "Rows" "first_word" (yu fu) (ze 0) []) (eC (.str "box")))) (zH (yD (xT "Rows" "taken" (xQ fu) (ze 0) []) (gN 2)) (zH (sIf (bE (eOp zcD (eFn wx [(ze 2)]) (eC (.int 3)))) vB zO) (wP (eMt xU (ze 1) [(xj [(zv (xx fu) [(eOp vp (ze 2) (eC (.int 1)))]),(zv (xo fu) [(eOp vp (ze 2) (eC (.int 2)))])])])))) n [some (.ref o),some (.ref T0.length),a2] S)
   (fun ρ S'=>∃a2,ρ=[some (.ref o),some (.ref T0.length),a2]∧S'[T0.length]? =some (.lst (bs.map xB))∧Yj S' o wss bs.length l ms∧Kp (· =o) T0 S') R:=by
 intro n
 induction n with
 |zero=>intro i a2 S h;omega
 |succ n ih=>
  intro i a2 S hn hi h hat kp
  refine zfV ?_
  walk_at "w"
  refine Us ?_
  walk_at "w"
  refine ⟨_,_,rfl,h.ob,rfl,?_⟩
  walk_at "w"
  refine (WP h (by omega) hw).imp ?_
  rintro _ _ ⟨rfl,rfl⟩
  walk_at "w"
  by_cases hid:i<bs.length
  ·have hr:=hrow i _ (List.getElem?_eq_getElem hid)
   have hb:=List.getElem_mem hid
   rw [hr]
   show WO (zd2 (.str "box") (.str "box") S) _
   refine zh9 ?_
   rw [decide_eq_true rfl]
   refine ⟨_,rfl,fun _=> ?_,(fun z=>by cases z)⟩
   walk_at "w"
   refine Us ?_
   walk_at "w"
   refine ⟨_,_,rfl,h.ob,rfl,?_⟩
   walk_at "w"
   refine (zge h hr).imp ?_
   rintro _ S1 ⟨m,rfl,hm,h1,k1⟩
   have hat1:=k1.2 _ _ hat (show ¬T0.length=o by omega)
   have hm:yx S1 (.ref m)=some [.str "box",.str bs[i].1,.str (nt bs[i].2)]:=zR hm
   obtain ⟨s1,s9⟩:=hB.sz _ hb
   walk_at "w"
   refine zL ?_
   walk_at "w"
   refine xL hm ?_
   walk_at "w"
   rw [show (!decide ((([Xv.str "box",.str bs[i].1,.str (nt bs[i].2)]:List Xv).length:Int)=3))=false from rfl]
   refine ⟨(fun z=>by cases z),fun _=>zI ?_⟩
   walk_at "w"
   refine zb7 ?_
   walk_at "w"
   refine ⟨⟨_,zR hat1⟩,?_⟩
   walk_at "w"
   refine xz hm (z:= .str bs[i].1) rfl ?_
   walk_at "w"
   refine (hB.namefrom hb).imp ?_
   rintro _ S2 ⟨rfl,k2⟩
   walk_at "w"
   refine xz (k2.lst hm) (z:= .str (nt bs[i].2)) rfl ?_
   walk_at "w"
   refine (UL (by omega) (by omega)).imp ?_
   rintro _ S3 ⟨rfl,k3⟩
   have kk:Kn S1 S3:=k2.trans k3
   walk_at "w"
   have hat3:=kk.at hat1
   refine Vb (wF hat3) (by rw [List.length_map,List.length_take];have:=hB.len;exact zf6 (by omega)) ?_
   walk_at "w"
   refine ih (i+1) _ _ (by omega) (by omega) ?_ ?_ (((kp.trans k1).trans (Kp.of_kn kk)).set (.inr (Nat.le_refl _)))
   ·exact (h1.keep kk).put (by omega) (by omega) (fun z=>by have:=hml _ z;omega)
   ·rw [vH hat3,List.take_succ_eq_append_getElem hid,List.map_append]
    rfl
  ·obtain rfl:i=bs.length:=by omega
   rw [List.take_length] at hat
   have fin:∃a2',[some (Xv.ref o),some (.ref T0.length),a2]=[some (.ref o),some (.ref T0.length),a2']∧S[T0.length]? =some (.lst (bs.map xB))∧Yj S o wss bs.length l ms∧Kp (· =o) T0 S:=⟨_,rfl,hat,h,kp⟩
   cases he:wss[bs.length]? with
   |none=>exact zjv ⟨_,rfl,(fun z=>by cases z),fun _=>fin⟩
   |some ws=>
    cases ws with
    |nil=>exact absurd rfl (hw _ (List.mem_of_getElem? he))
    |cons w r=>
     refine zh9 ?_
     rw [decide_eq_false (hnext w r he)]
     exact ⟨_,rfl,(fun z=>by cases z),fun _=>fin⟩
end
section
variable {fu:Nat} {S S' S2:Sto} {x y:Xv} {ns:List Int} {bs:List (Str×Int)}
theorem zet {o l:Nat} {wss:List (List Str)} {ms:List Nat} (hbg:Big fu) (hB:xN 1000 bs) (hlen:bs.length≤wss.length)
  (hrow:∀(i:Nat) b,bs[i]? =some b→wss[i]? =some [("box":Str),b.1,nt b.2]) (hnext:∀w r,wss[bs.length]? =some (w::r)→w≠"box") (hw:∀ws∈wss,ws≠[]) (hml:∀m∈ms,m<S.length) (h:Yj S o wss 0 l ms):
  W (YU fu [.ref o] S) fun v S'=>v= .tup (bs.map xB)∧Yj S' o wss bs.length l ms∧Kp (· =o) S S':=by
 walk_at "wr";unfold YT
 walk_at "w"
 have h1:Yj (S++[Ce.lst []]) o wss 0 l ms:=h.keep Kn.refl.app
 have hb:=hB.len
 refine Zh _ (zj5 (zg0 (T0:=S) hB hlen hrow hnext hw (List.getElem?_eq_some_iff.1 h.ob).1 (List.getElem?_eq_some_iff.1 h.li).1 hml fu 0 none _ (by have:=hbg.le;omega) (Nat.zero_le _) h1 yJ (Kp.of_kn Kn.refl.app))) ?_
 rintro ρ S3 ⟨a2,rfl,hat,h3,k3⟩
 walk_at "w"
 refine vI hat ?_
 exact ⟨rfl,h3,k3⟩
end
section
variable {fu:Nat} {S S' S2:Sto} {x y:Xv} {ns:List Int} {bs:List (Str×Int)}
theorem zg1 {P:Xv→Sto→Prop} {ρ:Rho} {n:TwI} {wss:List (List Str)} (hl:wss.length≤100) (hws:∀ws∈wss,ws≠[]∧ws.length≤11∧∀w∈ws,VS w)
  (hn:W (n ρ S) fun get S1=>(∀S',Kn S1 S'→get S'=some ((wss.map (Txt.join " ")).map Xv.str))∧Kn S S1)
  (hz:∀ws∈wss,(Txt.join " " ws).length≤sizeLine)
  (k:∀(ms:List Nat) (S':Sto),Kn S S'→ms.length=wss.length→(∀(i m:Nat) (ws:List Str),ms[i]? =some m→wss[i]? =some ws→Txs S' m ws)→(∀m∈ms,m<S'.length)→P (.ref S'.length) (S'++[.lst (ms.map Xv.ref)])):
  W (xl [none] n (gN 0) xq (zbu VG (ze 0) [(eC (.str " "))]) ρ S) P:=by
 refine Uk (hn.imp ?_)
 rintro get S1 ⟨hg,k1⟩
 refine ⟨(wss.map (Txt.join " ")).map Xv.str,hg S1 Kn.refl,?_⟩
 refine Wt (by rw [List.length_map,List.length_map];exact yF hl) (fun i es S2=>∃ms:List Nat,es=ms.map Xv.ref∧ms.length=i∧(∀(j m:Nat) (ws:List Str),ms[j]? =some m→wss[j]? =some ws→Txs S2 m ws)∧(∀m∈ms,m<S2.length)∧Kn S1 S2) (fun i es S2 _ h=>by obtain ⟨_,_,_,_,_,k2⟩:=h;exact hg _ k2) ?_ ⟨[],rfl,rfl,(fun j m ws h=>by simp at h),(fun m h=>by cases h),Kn.refl⟩ ?_
 ·rintro i w es S2 hw hel ⟨ms,rfl,hml,hms,hlt,k2⟩
  rw [List.getElem?_map,List.getElem?_map,Option.map_map,Option.map_eq_some_iff] at hw
  obtain ⟨ws,e,rfl⟩:=hw
  obtain ⟨ne,l11,hwd⟩:=hws ws (List.mem_of_getElem? e)
  have hsp:Txt.split (Txt.join " " ws) " "=ws:=zbf (c:=32) ne fun p hp=>(hwd p hp).sp
  refine .of rfl ?_
  walk_at "w"
  refine ⟨rfl,?_⟩
  refine zaV ?_
  show W (ze 0 [some (.str (Txt.join " " ws))] S2) _
  walk_at "w"
  refine ⟨⟨_,rfl⟩,?_⟩
  walk_at "w"
  refine zd3 ⟨hz ws (List.mem_of_getElem? e),rfl,by rw [hsp];exact yF (by omega)⟩ ?_
  rw [hsp]
  refine ⟨ms++[S2.length],by rw [List.map_append];rfl,by rw [List.length_append,hml];rfl,?_,?_,k2.app⟩
  ·intro j m ws2 hj hj2
   by_cases hji:j<ms.length
   ·rw [List.getElem?_append_left hji] at hj
    exact (Kn.refl.app).at (hms j m ws2 hj hj2)
   ·have:=(List.getElem?_eq_some_iff.1 hj).1
    rw [List.length_append,List.length_singleton] at this
    obtain rfl:j=ms.length:=by omega
    rw [List.getElem?_append_right (Nat.le_refl _),Nat.sub_self] at hj
    cases hj
    rw [hml,e] at hj2
    cases hj2
    exact yJ
  ·intro m hm
   rw [List.length_append,List.length_singleton]
   rw [List.mem_append,List.mem_singleton] at hm
   rcases hm with hm|rfl
   ·have:=hlt m hm
    omega
   ·omega
 ·rintro es S2 _ ⟨ms,rfl,hml,hms,hlt,k2⟩
  exact k ms S2 (k1.trans k2) (by rw [hml,List.length_map,List.length_map]) hms hlt
end
section
variable {fu:Nat} {S S' S2:Sto} {x y:Xv} {ns:List Int} {bs:List (Str×Int)}
theorem zfu {o:Nat} {wss:List (List Str)} {t:Str} (hne:wss≠[]) (hl:wss.length≤100) (hws:∀ws∈wss,ws≠[]∧ws.length≤11∧∀w∈ws,VS w) (hz:∀ws∈wss,(Txt.join " " ws).length≤sizeLine)
  (hnl:∀ws∈wss,10∉(Txt.join " " ws).cps.toList) (ht:t=Txt.join "\n" (wss.map (Txt.join " "))) (htl:t.length≤sizeLine) (ht0:t≠"") (ho:S[o]? =some (.ins "Rows" [])):
  W (vG fu [.ref o,.str t] S) fun v S'=>v= .non∧∃l ms,Yj S' o wss 0 l ms∧(∀m∈ms,m<S'.length)∧Kp (· =o) S S':=by
 have hol:=(List.getElem?_eq_some_iff.1 ho).1
 have hsp:Txt.split t "\n"=wss.map (Txt.join " "):=by
  rw [ht]
  refine zbf (c:=10) (by simpa using hne) fun p hp=> ?_
  rw [List.mem_map] at hp
  obtain ⟨ws,h,rfl⟩:=hp
  exact hnl ws h
 walk_at "wr";unfold vF
 refine zE (zcP ?_)
 walk_at "w"
 refine ⟨_,_,rfl,Kn.refl.app.at ho,show 0<1000 by decide,?_⟩
 have k1:Kp (· =o) S ((S++[Ce.lst []]).set o (.ins "Rows" (Tk "rows" (.ref S.length) []))):=(Kp.of_kn Kn.refl.app).set (.inl rfl)
 have ho1:((S++[Ce.lst []]).set o (.ins "Rows" (Tk "rows" (.ref S.length) [])))[o]? =some (.ins "Rows" [("rows",.ref S.length)]):=vH (Kn.refl.app.at ho)
 generalize (S++[Ce.lst []]).set o (.ins "Rows" (Tk "rows" (.ref S.length) []))=S1 at k1 ho1 ⊢
 refine zE (zL ?_)
 walk_at "w"
 refine zgd ?_
 rw [decide_eq_false ht0]
 refine ⟨_,rfl,fun _=>zcP ?_,(fun z=>by cases z)⟩
 refine zg1 hl hws ?_ hz ?_
 ·refine zie (n:=S1.length) ?_
  refine zaV ?_
  walk_at "w"
  refine ⟨⟨_,rfl⟩,?_⟩
  walk_at "w"
  refine zd3 ⟨htl,rfl,by rw [hsp,List.length_map];exact yF hl⟩ ?_
  rw [hsp]
  exact ⟨rfl,zR yJ,Kn.refl.app⟩
 intro ms S2 k2 hml hms hlt
 walk_at "w"
 refine ⟨_,_,rfl,k2.app.at ho1,show 1<1000 by decide,?_⟩
 refine zcP ?_
 have kA:Kn S1 (S2++[Ce.lst (ms.map Xv.ref)]):=k2.app
 have kB:Kn S2 (S2++[Ce.lst (ms.map Xv.ref)]):=Kn.refl.app
 have atl:(S2++[Ce.lst (ms.map Xv.ref)])[S2.length]? =some (.lst (ms.map Xv.ref)):=yJ
 have oA:=kA.at ho1
 have hms2:∀(i m:Nat) (ws:List Str),ms[i]? =some m→wss[i]? =some ws→Txs (S2++[Ce.lst (ms.map Xv.ref)]) m ws:=fun i m ws a b=>kB.at (hms i m ws a b)
 have hlt2:∀m∈ms,m<(S2++[Ce.lst (ms.map Xv.ref)]).length:=fun m hm=>by
  have:=hlt m hm
  rw [List.length_append]
  omega
 generalize S2++[Ce.lst (ms.map Xv.ref)]=S3 at kA atl oA hms2 hlt2 ⊢
 generalize S2.length=l at atl ⊢
 have ne:∀{n:Nat} {xs:List Xv},S3[n]? =some (.lst xs)→o≠n:=fun e q=>by rw [←q,oA] at e;cases e
 have o4:(S3.set o (.ins "Rows" (Tk "rows" (.ref l) [("rows",.ref S.length)])))[o]? =some (.ins "Rows" [("rows",.ref l)]):=vH oA
 walk_at "w"
 refine ⟨_,_,rfl,o4,show 1<1000 by decide,rfl,l,ms,⟨vH o4,?_,hml,fun i m ws a b=> ?_⟩,?_,?_⟩
 ·rw [List.getElem?_set_ne (ne atl),List.getElem?_set_ne (ne atl)]
  exact atl
 ·have e:=hms2 i m ws a b
  unfold Txs at e ⊢
  rw [List.getElem?_set_ne (ne e),List.getElem?_set_ne (ne e)]
  exact e
 ·intro m hm
  rw [List.length_set,List.length_set]
  exact hlt2 m hm
 ·exact ((k1.trans (Kp.of_kn kA)).set (.inl rfl)).set (.inl rfl)
end
section
variable {fu:Nat} {S S' S2:Sto} {x y:Xv} {ns:List Int} {bs:List (Str×Int)}
noncomputable def xZ (b:Str×Int):Str:=wj [.str "box",.str b.1,.int b.2]
theorem zdc (b:Str×Int):xZ b="box "++b.1++" "++nt b.2:=by
 unfold xZ
 rw [ZI,ZI,zbh]
 show ("box":Str)++" "++(b.1++" "++nt b.2)="box "++b.1++" "++nt b.2
 rw [show ("box ":Str)="box"++" " from rfl]
 simp only [Str.append_assoc]
theorem zcg {P:Xv→Sto→Prop} {ρ:Rho} {m e:TwE} {f:Nat→Xv} (hl:bs.length≤10) (hm:W (m ρ S) fun v S1=>v= .tup (bs.map xB)∧Kn S S1)
  (he:∀(i:Nat) b S2,bs[i]? =some b→W (e [some (.str b.1),some (.int b.2)] S2) fun v S3=>v=f i∧Kn S2 S3)
  (k:∀S',Kn S S'→P (.ref S'.length) (S'++[.lst ((List.range bs.length).map f)])):W (xl [none,none] (iT m) (gT 2 (wu (gN 0) (wu (gN 1) Ug))) xq e ρ S) P:=by
 refine Uk ((Vz hm).imp ?_)
 rintro get S1 ⟨hg,k1⟩
 refine ⟨bs.map xB,hg S1 Kn.refl,?_⟩
 refine Wt (by rw [List.length_map];exact yF (by omega)) (fun i es S2=>Kn S1 S2∧es=(List.range i).map f) (fun _ _ _ _ h=>hg _ h.1) ?_ ⟨Kn.refl,rfl⟩ ?_
 ·rintro i w es S2 hw hel ⟨k2,rfl⟩
  rw [List.getElem?_map,Option.map_eq_some_iff] at hw
  obtain ⟨b,e0,rfl⟩:=hw
  refine .of rfl ?_
  walk_at "w"
  refine ⟨rfl,?_⟩
  refine (he i b S2 e0).imp ?_
  rintro _ S3 ⟨rfl,k3⟩
  exact ⟨k2.trans k3,by rw [List.range_succ,List.map_append];rfl⟩
 ·rintro es S2 _ ⟨k2,rfl⟩
  rw [List.length_map]
  exact k S2 (k1.trans k2)
theorem zgf {P:Xv→Sto→Prop} {a b:List Xv} (h1:yx S x=some a) (h2:yx S y=some b) (h:a.length+b.length≤sizeLine) (k:P (.ref S.length) (S++[.lst (a++b)])):WO (zb4 x y S) P:= .of (by unfold zb4;rw [h1,h2];exact if_pos h) k
theorem zjI {a:Str}:Str.empty++a=a:=Str.empty_append a
theorem zjJ {ds:List Xv} {pss:List (List Xv)} (hB:xN 1000 bs) (hd:Pws bs ds pss) (hl:ds.length≤60) (h9:bs.length≤9):
  W (zba fu [.tup [.tup (bs.map xB),.tup ds]] S) fun v S'=>v= .str (Txt.join "\n" (bs.map xZ++pss.map wj))∧Kn S S':=by
 walk_at "wr";unfold za9
 walk_at "w"
 refine zcg (bs:=bs) (f:=fun i=> .str (xZ (bs.getD i ("",0)))) (by omega) ?_ ?_ ?_
 ·walk_at "w"
  exact ⟨rfl,Kn.refl⟩
 ·intro i b S2 e
  have hb:=List.mem_of_getElem? e
  obtain ⟨s1,s9⟩:=hB.sz b hb
  have wd:=hB.wd hb
  have wn:=zen (v:=b.2) (by omega) (by omega)
  have l1:=wd.le
  have l2:=wn.le
  have ls:((" ":Str)).length=1:=rfl
  have lb:(("box ":Str)).length=4:=rfl
  rw [List.getD_eq_getElem?_getD,e]
  refine zf5 ?_
  walk_at "w"
  refine ⟨?_,?_⟩
  ·rw [Str.length_append];exact yF (by show 0+4≤100;decide)
  refine zf5 ?_
  walk_at "w"
  refine zjz (yF (by omega)) ⟨_,rfl,?_,?_⟩
  ·rw [Str.length_append,Str.length_append];exact yF (by show 0+4+_≤100;omega)
  refine zf5 ?_
  walk_at "w"
  refine ⟨?_,?_⟩
  ·rw [Str.length_append,Str.length_append,Str.length_append];exact yF (by show 0+4+_+1≤100;omega)
  refine zf5 ?_
  walk_at "w"
  refine zjy (zc9 (by omega) (by omega)) (yF (by show (nt b.2).length≤100;omega)) ⟨_,rfl,?_,?_⟩
  ·rw [Str.length_append,Str.length_append,Str.length_append,Str.length_append];exact yF (by show 0+4+_+1+(nt b.2).length≤100;omega)
  refine zlz ⟨?_,Kn.refl⟩
  show Xv.str (Str.empty++"box "++b.1++" "++nt b.2)=Xv.str (xZ b)
  rw [zdc,zjI]
 ·intro S2 k2
  have er:(List.range bs.length).map (fun i=>Xv.str (xZ (bs.getD i ("",0))))=(bs.map xZ).map Xv.str:=by
   rw [List.map_map]
   apply List.ext_getElem
   ·simp
   ·intro i p q
    have hi:i<bs.length:=by simpa using q
    rw [List.getElem_map,List.getElem_map,List.getElem_range,List.getD_eq_getElem?_getD,List.getElem?_eq_getElem hi]
    rfl
  rw [er]
  have at1:(S2++[Ce.lst ((bs.map xZ).map Xv.str)])[S2.length]? =some (.lst ((bs.map xZ).map Xv.str)):=yJ
  have k1:Kn S (S2++[Ce.lst ((bs.map xZ).map Xv.str)]):=k2.app
  generalize S2++[Ce.lst ((bs.map xZ).map Xv.str)]=S3 at at1 k1 ⊢
  generalize S2.length=n1 at at1 ⊢
  walk_at "w"
  refine zaV ?_
  walk_at "w"
  refine ⟨⟨_,rfl⟩,?_⟩
  walk_at "w"
  refine (zer (f:=38) hB hd hl).imp ?_
  rintro _ S4 ⟨n,rfl,hn,_,k4⟩
  walk_at "w"
  have hpl:=hd.len
  refine zgf (zR (k4.at at1)) (zR hn) (yF (by unfold zeq;rw [List.length_map,List.length_map,List.length_map];omega)) ?_
  walk_at "w"
  refine zcR (wF yJ) (ts:=bs.map xZ++pss.map wj) ?_ (zda (B:=110) ?_ ?_) ⟨rfl,(k1.trans k4).app⟩
  ·rw [←WN (bs.map xZ++pss.map wj),List.map_append,List.map_map (l:=pss)]
   rfl
  ·intro t ht
   rw [List.mem_append,List.mem_map,List.mem_map] at ht
   rcases ht with ⟨b,hb,rfl⟩|⟨ps,hp,rfl⟩
   ·refine Xk (fun p hp=> ?_) (show 3≤11 by decide)
    obtain ⟨s1,s9⟩:=hB.sz b hb
    simp only [List.mem_cons,List.not_mem_nil,or_false] at hp
    rcases hp with rfl|rfl|rfl
    ·exact YZ (by decide)
    ·exact .inl ⟨_,rfl,hB.wd hb⟩
    ·exact .inr ⟨_,rfl,by omega,by omega⟩
   ·obtain ⟨i,hi,rfl⟩:=List.mem_iff_getElem.1 hp
    have hi2:i<ds.length:=by omega
    have:=(hd.at_ i _ _ (List.getElem?_eq_getElem hi2) (List.getElem?_eq_getElem hi)).pts hB
    exact Xk this.1 this.2.1
  ·rw [List.length_append,List.length_map,List.length_map]
   show (bs.length+pss.length)*110+(bs.length+pss.length)*1≤_
   omega
end
section
variable {fu:Nat} {S S' S2:Sto} {x y:Xv} {ns:List Int} {bs:List (Str×Int)}
theorem zeu {c:Nat} {sep:Str}:∀{ts:List Str},c∈(Str.join sep ts).cps.toList→c∈sep.cps.toList∨∃t∈ts,c∈t.cps.toList
 |[],h=>by cases h
 |[t],h=> .inr ⟨t,List.mem_cons_self ..,h⟩
 |t::u::r,h=>by
  have h:c∈(t++sep++Str.join sep (u::r)).cps.toList:=h
  rw [wB,wB,List.mem_append,List.mem_append] at h
  rcases h with (h|h)|h
  ·exact .inr ⟨t,List.mem_cons_self ..,h⟩
  ·exact .inl h
  ·rcases zeu h with h|⟨z,hz,h⟩
   ·exact .inl h
   ·exact .inr ⟨z,List.mem_cons_of_mem _ hz,h⟩
noncomputable def ziq (b:Str×Int):List Str:=[("box":Str),b.1,nt b.2]
noncomputable def Yw (bs:List (Str×Int)) (pss:List (List Xv)):List (List Str):=bs.map ziq++pss.map fun ps=>ps.map tx
theorem zir {pss:List (List Xv)}:(Yw bs pss).map (Txt.join " ")=bs.map xZ++pss.map wj:=by
 unfold Yw
 rw [List.map_append,List.map_map,List.map_map]
 rfl
theorem zlP {ds:List Xv} {pss:List (List Xv)} (hB:xN 1000 bs) (hd:Pws bs ds pss):∀ws∈Yw bs pss,ws≠[]∧ws.length≤11∧∀w∈ws,VS w:=by
 intro ws h
 unfold Yw at h
 rw [List.mem_append,List.mem_map,List.mem_map] at h
 rcases h with ⟨b,hb,rfl⟩|⟨ps,hp,rfl⟩
 ·obtain ⟨s1,s9⟩:=hB.sz b hb
  refine ⟨(by intro q;cases q),show 3≤11 by decide,fun w hw=> ?_⟩
  unfold ziq at hw
  simp only [List.mem_cons,List.not_mem_nil,or_false] at hw
  rcases hw with rfl|rfl|rfl
  ·exact Yi (by decide)
  ·exact hB.wd hb
  ·exact zen (by omega) (by omega)
 ·obtain ⟨i,hi,rfl⟩:=List.mem_iff_getElem.1 hp
  have hi2:i<ds.length:=by have:=hd.len;omega
  obtain ⟨h1,h2,w,r,h3,_⟩:=(hd.at_ i _ _ (List.getElem?_eq_getElem hi2) (List.getElem?_eq_getElem hi)).pts hB
  refine ⟨(by rw [h3];intro q;cases q),by rw [List.length_map];exact h2,fun w hw=> ?_⟩
  rw [List.mem_map] at hw
  obtain ⟨p,hp2,rfl⟩:=hw
  exact (h1 p hp2).wd
theorem zis {ws:List Str} (h:ws.length≤11∧∀w∈ws,VS w):(Txt.join " " ws).length≤110∧10∉(Txt.join " " ws).cps.toList:=by
 rw [Wb]
 constructor
 ·have h1:=StrLaws.join_length_le " " ws
  have h2:=StrLaws.sumLen_le (B:=9) ws (fun t ht=>(h.2 t ht).le)
  have h3:((" ":Str)).length=1:=rfl
  rw [h3] at h1
  omega
 ·intro q
  rcases zeu q with q|⟨t,ht,q⟩
  ·exact absurd q (by decide)
  ·exact (h.2 t ht).nl q
end
section
variable {fu:Nat} {S S' S2:Sto} {x y:Xv} {ns:List Int} {bs:List (Str×Int)}
theorem xN.bx (hB:xN 1000 bs) (h9:bs.length≤9):bxF bs=true:=by
 unfold bxF
 rw [decide_eq_true ⟨h9,hB.nd⟩,decide_eq_true hB.pr,Bool.true_and,Bool.and_true,Bool.and_eq_true]
 refine ⟨?_,?_⟩
 ·rw [List.all_eq_true]
  intro b hb
  have:=hB.nm b hb
  exact this.2.2.nm this.1 this.2.1
 ·unfold szF
  rw [List.all_eq_true]
  intro b hb
  exact decide_eq_true (hB.sz b hb)
theorem xN.as (hB:xN 1000 bs):∀b∈bs,asc b.1∧b.1.length≤100:=by
 intro b hb
 have:=hB.nm b hb
 exact ⟨this.2.2.asc,by omega⟩
theorem zlQ {ds:List Xv} {pss:List (List Xv)} {t:Str} {n:Int} {c:Nat} (hbg:Big fu) (hB:xN 1000 bs) (h9:bs.length≤9) (hd:Pws bs ds pss) (hl:ds.length≤60) (tr:Tr bs (.b ds) n 0 true c) (hn:n≤100) (hc:c≤1000)
  (ht:t=Txt.join "\n" (bs.map xZ++pss.map wj)) (htl:t.length≤sizeLine) (ht0:t≠"") (hne:bs≠[]):
  W (zc3 fu [.str t] S) fun v S'=>v= .tup [.tup (bs.map xB),.tup ds]∧Kn S S':=by
 have ok:=zlP hB hd
 have hwl:(Yw bs pss).length=bs.length+pss.length:=by unfold Yw;rw [List.length_append,List.length_map,List.length_map]
 have hpl:=hd.len
 have hwne:Yw bs pss≠[]:=by
  intro q
  rw [q] at hwl
  have hwl:0=bs.length+pss.length:=hwl
  exact hne (List.length_eq_zero_iff.1 (by omega))
 have hb1:∀(i:Nat) b,bs[i]? =some b→(Yw bs pss)[i]? =some [("box":Str),b.1,nt b.2]:=by
  intro i b e
  have hi:=(List.getElem?_eq_some_iff.1 e).1
  unfold Yw
  rw [List.getElem?_append_left (by rw [List.length_map];exact hi),List.getElem?_map,e]
  rfl
 have hb2:∀(i:Nat) ps,pss[i]? =some ps→(Yw bs pss)[bs.length+i]? =some (ps.map tx):=by
  intro i ps e
  unfold Yw
  rw [List.getElem?_append_right (by rw [List.length_map];omega),List.length_map,Nat.add_sub_cancel_left,List.getElem?_map,e]
  rfl
 have hb3:∀w r,(Yw bs pss)[bs.length]? =some (w::r)→w≠"box":=by
  intro w r e
  by_cases h0:0<pss.length
  ·have e2:=hb2 0 _ (List.getElem?_eq_getElem h0)
   rw [Nat.add_zero,e] at e2
   have hd0:0<ds.length:=by omega
   obtain ⟨_,_,w2,r2,e3,h5⟩:=(hd.at_ 0 _ _ (List.getElem?_eq_getElem hd0) (List.getElem?_eq_getElem h0)).pts hB
   rw [e3] at e2
   have e4:w::r=w2::r2.map tx:=Option.some.inj e2
   rw [(List.cons.inj e4).1]
   have h5:w2="pass"∨w2="gain"∨w2="look"∨w2="set"∨w2="draw":=by simpa using h5
   rcases h5 with rfl|rfl|rfl|rfl|rfl<;>decide
  ·rw [List.getElem?_eq_none (by omega)] at e
   cases e
 have hnn:∀ws∈Yw bs pss,ws≠[]:=fun ws h=>(ok ws h).1
 walk_at "wr";unfold zc2
 walk_at "w"
 refine zjo ?_
 walk_at "w"
 have k0:Kn S (S++[Ce.ins "Rows" []]):=Kn.refl.app
 have o0:(S++[Ce.ins "Rows" []])[S.length]? =some (.ins "Rows" []):=yJ
 refine (zfu (wss:=Yw bs pss) hwne (by omega) ok (fun ws h=>by have:=(zis (ok ws h).2).1;exact Nat.le_of_lt (Nat.lt_of_le_of_lt this (by decide))) (fun ws h=>(zis (ok ws h).2).2) (by rw [zir];exact ht) htl ht0 o0).imp ?_
 rintro _ S1 ⟨rfl,l,ms,h1,hml,k1⟩
 refine ⟨rfl,?_⟩
 walk_at "w"
 refine (zet hbg hB (by omega) hb1 hb3 hnn hml h1).imp ?_
 rintro _ S2 ⟨rfl,h2,k2⟩
 walk_at "w"
 refine (zes (f:=38) hbg hB hd hl hwl hb2 hnn (fun m hm=>by have:=hml m hm;have:=k2.1;omega) h2).imp ?_
 rintro _ S3 ⟨rfl,h3,k3⟩
 walk_at "w"
 refine zL ?_
 walk_at "w"
 refine Us ?_
 walk_at "w"
 refine ⟨_,_,rfl,h3.ob,rfl,?_⟩
 walk_at "w"
 refine (WP h3 (by omega) hnn).imp ?_
 rintro _ _ ⟨rfl,rfl⟩
 rw [List.getElem?_eq_none (by omega)]
 walk_at "w"
 show WO (zhB .non S3) _
 refine WO.of rfl ?_
 refine ⟨_,rfl,(fun z=>by cases z),fun _=>zI ?_⟩
 have kp:Kp (· =S.length) S S3:=(Kp.of_kn k0).trans (k1.trans (k2.trans k3))
 have kn:Kn S S3:=⟨kp.1,fun n c e _=>kp.2 n c e (fun q=>by have:=(List.getElem?_eq_some_iff.1 e).1;omega)⟩
 walk_at "w"
 refine zL (vC (vt ?_))
 walk_at "w"
 refine (zii (by omega) hB.as (hB.bx h9) tr hc (by decide)).imp ?_
 rintro _ S4 ⟨rfl,k4⟩
 rw [decide_eq_true (show 0≤12 by decide),decide_eq_true hn]
 refine ⟨_,rfl,(fun z=>by cases z),fun _=>zI ?_⟩
 walk_at "w"
 exact ⟨rfl,kn.trans k4⟩
end
section
variable {fu:Nat} {S S' S2:Sto} {x y:Xv} {ns:List Int} {bs:List (Str×Int)}
inductive ShX (n:Nat):List Xv→List D→Nat→Nat→Prop where
 |nil:ShX n [] [] 0 0
 |int {i:Int} {r:List Xv} {ds:List D} {w e:Nat}:i.natAbs<2^n→ShX n r ds w e→ShX n (.int i::r) (.int i::ds) (n+1+w) e
 |str {z:Str} {r:List Xv} {ds:List D} {w e:Nat}:z.length≤n→(z.cps.toList.all fun c=>decide (c<16^8))=true→ShX n r ds w e→ShX n (.str z::r) (.str z::ds) (n+1+w) e
 |tup {l r:List Xv} {ds ds':List D} {w e w' e':Nat}:ShX n l ds w e→ShX n r ds' w' e'→ShX n (.tup l::r) (.tup ds::ds') (w+1+w') (max (e+1) e')
theorem ShX.sh {n:Nat} {xs:List Xv} {ds:List D} {w e:Nat} (h:ShX n xs ds w e):Sh n ds w e:=by
 induction h with
 |nil=>exact .nil
 |int h _ ih=>exact .int h ih
 |str h h2 _ ih=>exact .str h h2 ih
 |tup _ _ h1 h2=>exact .tup h1 h2
theorem ShX.told {n:Nat} {xs:List Xv} {ds:List D} {w e:Nat} (h:ShX n xs ds w e):∀k,e≤k→∀S,vZ (wf S k) xs=some ds:=by
 induction h with
 |nil=>intro k _ S;rfl
 | @int i r ds w e h _ ih=>
  intro k hk S
  unfold vZ
  rw [ih k hk S,show wf S k (.int i)=some (.int i) by cases k<;>rfl]
  rfl
 | @str z r ds w e h h2 _ ih=>
  intro k hk S
  unfold vZ
  rw [ih k hk S,show wf S k (.str z)=some (.str z) by cases k<;>rfl]
  rfl
 | @tup l r ds ds' w e w' e' _ _ ih1 ih2=>
  intro k hk S
  obtain ⟨k,rfl⟩:∃m,k=m+1:=⟨k-1,by omega⟩
  unfold vZ
  rw [ih2 (k+1) (by omega) S,show wf S (k+1) (.tup l)=(vZ (wf S k) l).map .tup from rfl,ih1 k (by omega) S]
  rfl
noncomputable def Sz (W E:Nat) (xs:List Xv):Prop:=∃ds w e,ShX 30 xs ds w e∧w≤W∧e≤E
theorem Sz.nil {E:Nat}:Sz 0 E []:=⟨_,_,_,.nil,Nat.le_refl _,Nat.zero_le _⟩
theorem Sz.mono {W E W' E':Nat} {l:List Xv} (h:Sz W E l) (h1:W≤W') (h2:E≤E'):Sz W' E' l:=by
 obtain ⟨ds,w,e,h,a,b⟩:=h
 exact ⟨ds,w,e,h,by omega,by omega⟩
theorem Sz.int {W E:Nat} {i:Int} {r:List Xv} (h:i.natAbs<2^30) (h2:Sz W E r):Sz (31+W) E (.int i::r):=by
 obtain ⟨ds,w,e,h3,a,b⟩:=h2
 exact ⟨_,_,_,.int h h3,by omega,b⟩
theorem Sz.str {W E:Nat} {z:Str} {r:List Xv} (h:z.length≤30) (h1:asc z) (h2:Sz W E r):Sz (31+W) E (.str z::r):=by
 obtain ⟨ds,w,e,h3,a,b⟩:=h2
 refine ⟨_,_,_,.str h ?_ h3,by omega,b⟩
 rw [List.all_eq_true]
 intro c hc
 have h1:z.cps.all (· <128)=true:=h1
 rw [Array.all_eq_true'] at h1
 have:=h1 c (Array.mem_def.2 hc)
 have:c<128:=of_decide_eq_true this
 exact decide_eq_true (Nat.lt_trans this (by decide))
theorem Sz.tup {W E W':Nat} {l r:List Xv} (h:Sz W E l) (h2:Sz W' (E+1) r):Sz (W+1+W') (E+1) (.tup l::r):=by
 obtain ⟨ds,w,e,h3,a,b⟩:=h
 obtain ⟨ds',w',e',h3',a',b'⟩:=h2
 exact ⟨_,_,_,.tup h3 h3',by omega,by omega⟩
theorem ShX.app {n:Nat} {xs ys:List Xv} {ds es:List D} {w e w' e':Nat} (h:ShX n xs ds w e) (g:ShX n ys es w' e'):∃e2,ShX n (xs++ys) (ds++es) (w+w') e2∧e2≤max e e':=by
 induction h with
 |nil=>exact ⟨e',by rw [Nat.zero_add];exact g,by omega⟩
 |int h _ ih=>
  obtain ⟨e2,ih,hb⟩:=ih
  exact ⟨_,by rw [Nat.add_assoc];exact .int h ih,hb⟩
 |str h h2 _ ih=>
  obtain ⟨e2,ih,hb⟩:=ih
  exact ⟨_,by rw [Nat.add_assoc];exact .str h h2 ih,hb⟩
 |tup h1 _ _ ih=>
  obtain ⟨e2,ih,hb⟩:=ih
  exact ⟨_,by rw [Nat.add_assoc];exact .tup h1 ih,by omega⟩
theorem Sz.cons {W E W':Nat} {r:List Xv} (h:Sz W E [x]) (h2:Sz W' E r):Sz (W+W') E (x::r):=by
 obtain ⟨ds,w,e,h3,a,b⟩:=h
 obtain ⟨ds',w',e',h3',a',b'⟩:=h2
 obtain ⟨e2,h4,h5⟩:=h3.app h3'
 exact ⟨_,_,_,h4,by omega,by omega⟩
theorem Sz.all {W E:Nat}:∀{l:List Xv},(∀x∈l,Sz W E [x])→Sz (l.length*W) E l
 |[],_=>Sz.nil.mono (by simp) (Nat.le_refl _)
 |x::r,h=>by
  have:=(h x (List.mem_cons_self ..)).cons (Sz.all fun y hy=>h y (List.mem_cons_of_mem _ hy))
  refine this.mono ?_ (Nat.le_refl _)
  rw [List.length_cons,Nat.succ_mul]
  omega
theorem Sz.rep {W E:Nat} {l:List Xv} (h:Sz W E [.tup l]) (hE:E≤100) (hW:W≤400000):∃z:Str,∀S,VH [.tup l] S=some (.str z,S):=by
 obtain ⟨ds,w,e,h,a,b⟩:=h
 have hs:=h.sh
 have ht:=h.told 100 (by omega)
 cases h with
 | @tup _ _ dd _ _ _ _ _ h1 h2=>
  cases h2
  refine ⟨(D.py (.tup dd)).shown,fun S=> ?_⟩
  have ht:=ht S
  unfold vZ vZ at ht
  unfold VH
  dsimp only
  cases q:wf S 100 (.tup l) with
  |none=>rw [q] at ht;cases ht
  |some d=>
   rw [q] at ht
   cases ht
   rw [Option.bind_some,if_pos ⟨⟨_,.inl rfl⟩,30,_,_,hs,by decide,by decide,by omega,by omega⟩]
theorem GOp.sz {a:Xv} {W E:Nat} {r:List Xv} (hB:xN 1000 bs) (h:GOp bs a) (h2:Sz W E r):Sz (31+W) E (a::r):=by
 rcases h.cases with ⟨b,hb,rfl⟩|⟨v,rfl,h0,h1⟩
 ·have:=hB.wd hb
  exact .str (by have:=this.le;omega) this.asc h2
 ·exact .int (by omega) h2
theorem zjK {ws:List Int} (h:∀w∈ws,0≤w∧w≤999999999):Sz (ws.length*31) 0 (ws.map Xv.int):=by
 have:=Sz.all (W:=31) (E:=0) (l:=ws.map Xv.int) fun x hx=>by
  obtain ⟨v,hv,rfl⟩:=List.mem_map.1 hx
  have:=h v hv
  exact Sz.int (by omega) Sz.nil
 rwa [List.length_map] at this
theorem Pw.sz {ps:List Xv} (hB:xN 1000 bs) (h:Pw bs x ps):Sz 400 2 [x]:=by
 have lt:∀{z:Str} {W E:Nat} {r:List Xv},VS z→Sz W E r→Sz (31+W) E (.str z::r):=fun h h2=> .str (by have:=h.le;omega) h.asc h2
 have sg:∀{s:Str},s∈TS∨s∈RS→VS s:=by
  rintro s (h|h)
  ·rcases zkj h with ⟨z,e,h⟩|⟨v,e,_⟩
   ·cases e;exact h
   ·cases e
  ·rcases zkk h with ⟨z,e,h⟩|⟨v,e,_⟩
   ·cases e;exact h
   ·cases e
 cases h with
 |pass=>exact (Sz.tup (E:=1) (lt (Yi (by decide)) .nil) .nil).mono (by decide) (by decide)
 |gain ha=>exact (Sz.tup (E:=1) (lt (Yi (by decide)) (ha.sz hB .nil)) .nil).mono (by decide) (by decide)
 |look hs ha hb=>exact (Sz.tup (E:=1) (lt (Yi (by decide)) (.tup (E:=0) (ha.sz hB (lt (sg (.inl hs)) (hb.sz hB .nil))) .nil)) .nil).mono (by decide) (by decide)
 |set1 hn ha=>exact (Sz.tup (E:=1) (lt (Yi (by decide)) (lt (hB.wd hn) (.tup (E:=0) (ha.sz hB .nil) .nil))) .nil).mono (by decide) (by decide)
 |set3 hn hs ha hb=>exact (Sz.tup (E:=1) (lt (Yi (by decide)) (lt (hB.wd hn) (.tup (E:=0) (ha.sz hB (lt (sg (.inr hs)) (hb.sz hB .nil))) .nil))) .nil).mono (by decide) (by decide)
 | @draw n ws hn h9 h1 hw=>
  exact (Sz.tup (E:=1) (lt (Yi (by decide)) (lt (hB.wd hn) (.tup (E:=0) (zjK hw) .nil))) .nil).mono (by omega) (by decide)
theorem xN.sz1 (hB:xN 1000 bs):Sz 630 1 (bs.map xB):=by
 have:=Sz.all (W:=63) (E:=1) (l:=bs.map xB) fun x hx=>by
  obtain ⟨b,hb,rfl⟩:=List.mem_map.1 hx
  obtain ⟨s1,s9⟩:=hB.sz b hb
  have w:=hB.wd hb
  exact Sz.tup (W:=62) (E:=0) (Sz.str (by have:=w.le;omega) w.asc (.int (by omega) .nil)) .nil
 rw [List.length_map] at this
 exact this.mono (by have:=hB.len;omega) (Nat.le_refl _)
theorem zit {ds:List Xv} (hB:xN 1000 bs) (h:∀x∈ds,Sz 400 2 [x]) (hl:ds.length≤60):∃z:Str,∀S,VH [.tup [.tup (bs.map xB),.tup ds]] S=some (.str z,S):=by
 refine Sz.rep (W:=630+1+(60*400+1+0)+1+0) (E:=4) (Sz.tup (E:=3) (Sz.tup (E:=2) (hB.sz1.mono (Nat.le_refl _) (by decide)) (Sz.tup (E:=2) ((Sz.all h).mono (by omega) (by decide)) .nil)) .nil) (by decide) (by decide)
noncomputable def nmL:List Str:=["or","end","set","box","if","else","pass","draw","times"]
theorem zlR:∀z∈nmL,1≤z.length∧z.length≤8∧(z.cps.toList.all fun c=>decide (97≤c∧c≤122))=true:=by decide+kernel
noncomputable def ren (l:List Str) (bs:List (Str×Int)):List (Str×Int):=List.zipWith (fun n b=>(n,b.2)) l bs
theorem ziu:∀(l:List Str) (bs:List (Str×Int)),bs.length≤l.length→(ren l bs).map (·.1)=l.take bs.length∧(ren l bs).map (·.2)=bs.map (·.2)∧xD (ren l bs)=xD bs∧(ren l bs).length=bs.length
 |l,[],_=>by cases l<;>exact ⟨rfl,rfl,rfl,rfl⟩
 |[],b::r,h=>by cases h
 |n::l,b::r,h=>by
  obtain ⟨h1,h2,h3,h4⟩:=ziu l r (by simpa using h)
  refine ⟨?_,?_,?_,?_⟩
  ·show n::(ren l r).map (·.1)=n::l.take r.length
   rw [h1]
  ·show b.2::(ren l r).map (·.2)=b.2::r.map (·.2)
   rw [h2]
  ·show b.2*xD (ren l r)=b.2*xD r
   rw [h3]
  ·show (ren l r).length+1=r.length+1
   rw [h4]
theorem zlS {l:List Str} {i:Nat} {b:Str×Int} {z:Str} (h:bs[i]? =some b) (h2:l[i]? =some z):(ren l bs)[i]? =some (z,b.2):=by
 unfold ren
 rw [List.getElem?_zipWith,h,h2]
theorem zlT (hB:xN 1000 bs) (h9:bs.length≤9):xN 1000 (ren nmL bs):=by
 obtain ⟨h1,h2,h3,h4⟩:=ziu nmL bs h9
 refine ⟨by omega,fun b hb=> ?_,fun b hb=> ?_,?_,by rw [h3];exact hB.pr,by rw [h3];exact hB.p0⟩
 ·have:b.1∈(ren nmL bs).map (·.1):=List.mem_map_of_mem hb
  rw [h1] at this
  obtain ⟨a1,a2,a3⟩:=zlR b.1 (List.mem_of_mem_take this)
  exact ⟨a1,a2,fun c hc=>of_decide_eq_true (List.all_eq_true.1 a3 c hc)⟩
 ·have:b.2∈(ren nmL bs).map (·.2):=List.mem_map_of_mem hb
  rw [h2,List.mem_map] at this
  obtain ⟨c,hc,e⟩:=this
  rw [←e]
  exact hB.sz c hc
 ·rw [h1]
  exact List.Sublist.nodup (List.take_sublist ..) (by decide+kernel)
end
section
variable {fu:Nat} {S S' S2:Sto} {x y:Xv} {ns:List Int} {bs:List (Str×Int)}
theorem zjL {m:TwE} {ρ:Rho} {Q':(Sto→Option (List Xv))→Sto→Prop} (h:W (m ρ S) fun x S1=>∃l,x.tupOf=some l∧Q' (fun _=>some (zb5 l)) S1):W (zi7 m ρ S) Q':=W.bind (h.imp fun x S1 h=>by
 obtain ⟨l,e,k⟩:=h
 rw [e]
 exact .of rfl k)
theorem ziv:∀{ds:List Xv},(∀x∈ds,PW bs x)→(∃pss,Pws bs ds pss)∧Tr bs (.b ds) ds.length 0 true (ds.length+1)
 |[],_=>⟨⟨[],rfl,fun i x ps h=>by simp at h⟩,.nil⟩
 |x::r,h=>by
  obtain ⟨⟨pss,hp⟩,tr⟩:=ziv (ds:=r) fun y hy=>h y (List.mem_cons_of_mem _ hy)
  obtain ⟨⟨ps,hx⟩,t1⟩:=h x (List.mem_cons_self ..)
  refine ⟨⟨ps::pss,by rw [List.length_cons,List.length_cons,hp.len],fun i y qs e1 e2=> ?_⟩,?_⟩
  ·cases i with
   |zero=>cases e1;cases e2;exact hx
   |succ i=>exact hp.at_ i y qs (by simpa using e1) (by simpa using e2)
  ·have:=Tr.cons t1 tr
   rw [show (1:Int)+(r.length:Int)=((x::r).length:Nat) by rw [List.length_cons];omega,show 1+(r.length+1)=(x::r).length+1 by rw [List.length_cons];omega] at this
   exact this
theorem ziw (b:Str×Int):4≤(xZ b).length:=by
 rw [zdc,Str.length_append,Str.length_append,Str.length_append]
 show 4≤4+_+_+_
 omega
theorem zix {sep t:Str} {r:List Str}:t.length≤(Txt.join sep (t::r)).length:=by
 rw [Wb]
 cases r with
 |nil=>exact Nat.le_refl _
 |cons u r=>
  show t.length≤(t++sep++Str.join sep (u::r)).length
  rw [Str.length_append,Str.length_append]
  omega
theorem znl {n:Nat} (h:n≤63):Builtin.Range.small 0 (if (n:Int)<60 then (n:Int) else 60) 5=true∧(Builtin.Range.rangeSize 0 (if (n:Int)<60 then (n:Int) else 60) 5).toNat≤12:=by
 have all:∀m:Fin 64,Builtin.Range.small 0 (if (m.1:Int)<60 then (m.1:Int) else 60) 5=true∧(Builtin.Range.rangeSize 0 (if (m.1:Int)<60 then (m.1:Int) else 60) 5).toNat≤12:=by decide+kernel
 exact all ⟨n,by omega⟩
theorem zm7 (hbg:Big fu) (hl:ns.length≤63):W (zfe fu [.ref 0] [.frz (ns.map Xv.int)]) fun v _=>v= .bl true:=by
 have hs:Sc ns [Ce.frz (ns.map Xv.int)]:=rfl
 generalize [Ce.frz (ns.map Xv.int)]=S at hs ⊢
 walk_at "wr";unfold zfd
 walk_at "w"
 refine (wg hs (by decide) (by decide) (by decide)).imp ?_
 rintro _ _ ⟨rfl,c0,c1,rfl⟩
 walk_at "w"
 refine (zjC hs ⟨by omega,by omega⟩ (by decide)).imp ?_
 rintro _ S1 ⟨bs,rfl,hB,hbl,k1⟩
 have h9:bs.length≤9:=by omega
 have h1:1≤bs.length:=by omega
 clear hbl c0 c1
 walk_at "w"
 refine Zh (fun ρ S2=>∃(bs:List (Str×Int)) (a2:Option Xv),ρ=[some (.ref 0),some (.tup (bs.map xB)),a2,none,none,none,none]∧xN 1000 bs∧bs.length≤9∧1≤bs.length∧Kn S S2) (zL ?_) ?_
 ·walk_at "w"
  refine (wg (hs.keep k1) (by decide) (by decide) (by decide)).imp ?_
  rintro _ _ ⟨rfl,_,_,rfl⟩
  walk_at "w"
  refine xh (fun h=> ?_) (fun h=>zI ⟨bs,none,rfl,hB,h9,h1,k1⟩)
  walk_at "w"
  have a2:(S1++[Ce.lst (nmL.map Xv.str)])[S1.length]? =some (.lst (nmL.map Xv.str)):=yJ
  have k2:Kn S (S1++[Ce.lst (nmL.map Xv.str)]):=k1.app
  show W (xl _ _ _ _ _ _ (S1++[Ce.lst (nmL.map Xv.str)])) _
  generalize S1++[Ce.lst (nmL.map Xv.str)]=S2 at a2 k2 ⊢
  refine Uk (zjL ?_)
  walk_at "w"
  refine Wt (by rw [Tg,List.length_map];exact yF (by omega)) (fun i es S3=>Kn S2 S3∧es=((ren nmL bs).take i).map xB) (fun _ _ _ _ _=>rfl) ?_ ⟨Kn.refl,rfl⟩ ?_
  ·rintro i w es S3 hw hel ⟨k3,rfl⟩
   obtain ⟨z,hz,rfl⟩:=zdN hw
   rw [List.getElem?_map,Option.map_eq_some_iff] at hz
   obtain ⟨b,hb,rfl⟩:=hz
   have hi:=(List.getElem?_eq_some_iff.1 hb).1
   have hi9:i<nmL.length:=by show i<9;omega
   refine .of rfl ?_
   walk_at "w"
   refine ⟨rfl,?_⟩
   show W (xj [(eOp vp (ze 2) (ze 0)),(eOp yE (ze 1) (eC (.int 1)))] [some (.int (i:Int)),some (xB b),some (.ref S1.length)] S3) _
   unfold xB
   walk_at "w"
   refine xz (zR (k3.at a2)) (z:= .str nmL[i]) (Zi (by omega) (by rw [Int.toNat_natCast,List.getElem?_map,List.getElem?_eq_getElem hi9];rfl)) ?_
   walk_at "w"
   refine ⟨k3,?_⟩
   have hr:=zlS hb (List.getElem?_eq_getElem hi9)
   have hri:=(List.getElem?_eq_some_iff.1 hr).1
   rw [List.take_succ_eq_append_getElem hri,List.map_append,(List.getElem?_eq_some_iff.1 hr).2]
   rfl
  ·rintro es S3 _ ⟨k3,rfl⟩
   obtain ⟨_,_,_,r4⟩:=ziu nmL bs h9
   rw [Tg,List.length_map,←r4,List.take_length]
   walk_at "w"
   refine vI yJ ?_
   walk_at "w"
   exact ⟨_,_,rfl,zlT hB h9,by omega,by omega,(k2.trans k3).app⟩
 clear hB h9 k1 h1
 rintro ρ S2 ⟨bs,a2,rfl,hB,h9,h1,k2⟩
 have hs2:=hs.keep k2
 walk_at "w"
 refine zcg (bs:=bs) (f:=fun i=> .str (xZ (bs.getD i ("",0)))) (by omega) ?_ ?_ ?_
 ·walk_at "w"
  exact ⟨rfl,Kn.refl⟩
 ·intro i b S2 e
  have hb:=List.mem_of_getElem? e
  obtain ⟨s1,s9⟩:=hB.sz b hb
  have wd:=hB.wd hb
  have wn:=zen (v:=b.2) (by omega) (by omega)
  have l1:=wd.le
  have l2:=wn.le
  have ls:((" ":Str)).length=1:=rfl
  have lb:(("box ":Str)).length=4:=rfl
  rw [List.getD_eq_getElem?_getD,e]
  walk_at "w"
  refine vn (yF (by omega)) ?_
  walk_at "w"
  refine vn (yF (by rw [Str.length_append];omega)) ?_
  walk_at "w"
  refine zcS (zc9 (by omega) (by omega)) ?_
  refine vn (yF (by rw [Str.length_append,Str.length_append];show _+(nt b.2).length≤_;omega)) ⟨?_,Kn.refl⟩
  show Xv.str ("box "++b.1++" "++nt b.2)=Xv.str (xZ b)
  rw [zdc]
 intro S3 k3
 have er:(List.range bs.length).map (fun i=>Xv.str (xZ (bs.getD i ("",0))))=(bs.map xZ).map Xv.str:=by
  rw [List.map_map]
  apply List.ext_getElem
  ·simp
  ·intro i p q
   have hi:i<bs.length:=by simpa using q
   rw [List.getElem_map,List.getElem_map,List.getElem_range,List.getD_eq_getElem?_getD,List.getElem?_eq_getElem hi]
   rfl
 rw [er]
 have at3:(S3++[Ce.lst ((bs.map xZ).map Xv.str)])[S3.length]? =some (.lst ((bs.map xZ).map Xv.str)):=yJ
 have k4:Kn S2 (S3++[Ce.lst ((bs.map xZ).map Xv.str)]):=k3.app
 generalize S3++[Ce.lst ((bs.map xZ).map Xv.str)]=S4 at at3 k4 ⊢
 generalize S3.length=n3 at at3 ⊢
 have hs4:=hs2.keep k4
 walk_at "w"
 refine Uk (zjx ?_)
 walk_at "w"
 refine xL hs4 ?_
 walk_at "w"
 rw [List.length_map]
 obtain ⟨r1,r2⟩:=znl hl
 refine ⟨_,_,_,rfl,rfl,rfl,by decide,r1,_,rfl,?_⟩
 generalize (Builtin.Range.rangeSize 0 (if (ns.length:Int)<60 then (ns.length:Int) else 60) 5).toNat=cnt at r2 ⊢
 refine Wt (by rw [zce];exact yF (by omega)) (fun i es S5=>Kn S4 S5∧∀v∈es,PW bs v) (fun _ _ _ _ _=>rfl) ?_ ⟨Kn.refl,fun v h=>by cases h⟩ ?_
 ·rintro i w es S5 hw hel ⟨k5,hes⟩
  obtain ⟨hi,rfl⟩:=zia hw
  refine .of rfl ?_
  walk_at "w"
  refine ⟨rfl,?_⟩
  show W (zv (vT fu) [(ze 1),(ze 0),(ze 2)] [some (.int (0+(i:Int)*5)),some (.ref 0),some (.tup (bs.map xB))] S5) _
  walk_at "w"
  refine (zjH (hs4.keep k5) ⟨by omega,by omega⟩ hB).imp ?_
  rintro v S6 ⟨hv,k6⟩
  refine ⟨k5.trans k6,fun u hu=> ?_⟩
  rw [List.mem_append,List.mem_singleton] at hu
  rcases hu with hu|rfl
  ·exact hes u hu
  ·exact hv
 rintro ds S5 hdl ⟨k5,hds⟩
 rw [zce] at hdl
 walk_at "w"
 refine vI yJ ?_
 walk_at "w"
 obtain ⟨⟨pss,hp⟩,tr⟩:=ziv hds
 have hpl:=hp.len
 have k6:Kn S4 (S5++[Ce.lst ds]):=k5.app
 generalize S5++[Ce.lst ds]=S6 at k6 ⊢
 refine Yg (xs:=ds) (f:=fun i=> .str (wj (pss.getD i []))) (yF (by omega)) (Vz (by walk_at "w";exact ⟨rfl,Kn.refl⟩)) ?_ ?_
 ·intro i v S7 hv k7
  have hi:=(List.getElem?_eq_some_iff.1 hv).1
  have hi2:i<pss.length:=by omega
  show W (zv (Yv fu) [(ze 0)] [some v] S7) _
  walk_at "w"
  rw [List.getD_eq_getElem?_getD,List.getElem?_eq_getElem hi2]
  exact zio hB (hp.at_ i v _ hv (List.getElem?_eq_getElem hi2))
 intro S7 k7
 have er2:(List.range ds.length).map (fun i=>Xv.str (wj (pss.getD i [])))=(pss.map wj).map Xv.str:=by
  rw [List.map_map]
  apply List.ext_getElem
  ·simp [hpl]
  ·intro i p q
   have hi:i<pss.length:=by simpa using q
   rw [List.getElem_map,List.getElem_map,List.getElem_range,List.getD_eq_getElem?_getD,List.getElem?_eq_getElem hi]
   rfl
 rw [er2]
 walk_at "w"
 have kk:Kn S4 (S7++[Ce.lst ((pss.map wj).map Xv.str)]):=(k6.trans k7).app
 refine zgf (zR (kk.at at3)) (zR yJ) (yF (by rw [List.length_map,List.length_map,List.length_map,List.length_map];omega)) ?_
 rw [←List.map_append]
 walk_at "w"
 refine zaV ?_
 walk_at "w"
 refine ⟨⟨_,rfl⟩,?_⟩
 walk_at "w"
 have hrow:∀t∈bs.map xZ++pss.map wj,t.length≤110:=by
  intro t ht
  rw [List.mem_append,List.mem_map,List.mem_map] at ht
  rcases ht with ⟨b,hb,rfl⟩|⟨ps,hp2,rfl⟩
  ·refine Xk (fun p hp=> ?_) (show 3≤11 by decide)
   obtain ⟨s1,s9⟩:=hB.sz b hb
   simp only [List.mem_cons,List.not_mem_nil,or_false] at hp
   rcases hp with rfl|rfl|rfl
   ·exact YZ (by decide)
   ·exact .inl ⟨_,rfl,hB.wd hb⟩
   ·exact .inr ⟨_,rfl,by omega,by omega⟩
  ·obtain ⟨i,hi,rfl⟩:=List.mem_iff_getElem.1 hp2
   have hi2:i<ds.length:=by omega
   have:=(hp.at_ i _ _ (List.getElem?_eq_getElem hi2) (List.getElem?_eq_getElem hi)).pts hB
   exact Xk this.1 this.2.1
 have hrl:(bs.map xZ++pss.map wj).length≤21:=by rw [List.length_append,List.length_map,List.length_map];omega
 refine zcR (wF yJ) (ts:=bs.map xZ++pss.map wj) (WN _) (zda (B:=110) hrow (by show _+_*1≤_;omega)) ?_
 walk_at "w"
 have htl:(Txt.join "\n" (bs.map xZ++pss.map wj)).length≤sizeLine:=by
  rw [Wb]
  have h1:=StrLaws.join_length_le "\n" (bs.map xZ++pss.map wj)
  have h2:=StrLaws.sumLen_le (B:=110) _ hrow
  have h3:(("\n":Str)).length=1:=rfl
  rw [h3] at h1
  exact Nat.le_trans h1 (Nat.le_trans (show _≤3000 by omega) (by decide))
 have ht0:Txt.join "\n" (bs.map xZ++pss.map wj)≠"":=by
  match bs,h1 with
  |b::r,_=>
   intro e
   have h1:=zix (sep:="\n") (t:=xZ b) (r:=r.map xZ++pss.map wj)
   have h2:=ziw b
   have e:Txt.join "\n" (xZ b::(r.map xZ++pss.map wj))="":=e
   rw [e] at h1
   have h1:(xZ b).length≤0:=h1
   omega
 refine (zjJ hB hp (by omega) h9).imp ?_
 rintro _ S8 ⟨rfl,k8⟩
 generalize htx:Txt.join "\n" (bs.map xZ++pss.map wj)=t at htl ht0 ⊢
 walk_at "w"
 refine zL (Xh (vC (vt ?_)))
 walk_at "w"
 refine zaQ (v:=true) rfl ?_
 refine ⟨_,rfl,(fun z=>by cases z),fun _=> ?_⟩
 walk_at "w"
 refine WO.of (show yV true (.str t) (.str t) S8=some (.bl false,S8) by unfold yV;simp) ?_
 refine ⟨_,rfl,(fun z=>by cases z),fun _=>zI ?_⟩
 walk_at "w"
 refine (zlQ hbg hB h9 hp (by omega) tr (by omega) (by omega) htx.symm htl ht0 (fun e=>by rw [e] at h1;cases h1)).imp ?_
 rintro _ S9 ⟨rfl,k9⟩
 obtain ⟨z,hz⟩:=zit (ds:=ds) hB (fun v hv=>by obtain ⟨⟨ps,h⟩,_⟩:=hds v hv;exact h.sz hB) (by omega)
 walk_at "w"
 refine WO.of (hz S9) ?_
 walk_at "w"
 refine WO.of (hz S9) ?_
 exact yN rfl
theorem zm8 (hbg:Big fu) (ns:List Int) (hl:ns.length≤63):∃S,zfe fu [.ref 0] [.frz (ns.map Xv.int)]=some (.ok (.bl true) S):=by
 obtain ⟨v,S,e,rfl⟩:=zm7 hbg hl
 exact ⟨S,e⟩
end
end
noncomputable def zdd:Nat:=2^9000
theorem zev:Big zdd:=by unfold Big zdd;exact Nat.le_refl _
theorem zlU {P:Program} {w:World} {K:PySem.W.Frag} {mg:Str→Option Value} {base:Heap} (T:Tx K mg):yB P w K mg base (CXE P w) 49 T.f_law.a T.f_law.fd ["_law_script"] (zaK K):=zkW (zjB (fu:=zdd) T) fun ns hl=>zm8 zev ns hl
noncomputable def zm9 {K:PySem.W.Frag} {h:Heap} {mg:Str→Option Value} (X:K.In h) (G:h.Ns mainGlobals mg)
  {g_Rows:Addr}  {g_LotsError:Addr} {g_NoText:Addr} {g_NoProgram:Addr} {qt_LETTERS:Tok} {qt_MOST_LETTERS:Tok} {qt_FIGURES:Tok} {qt_MOST_FIGURES:Tok} {q_RECKONING_SIGNS:Addr} {qd_RECKONING_SIGNS:Option Addr} {qn_RECKONING_SIGNS:Nat} {qs_RECKONING_SIGNS:Array (Option Value)} {qt_RECKONING_SIGNS_0:Tok} {qt_RECKONING_SIGNS_1:Tok} {qt_RECKONING_SIGNS_2:Tok} {q_TEST_SIGNS:Addr} {qd_TEST_SIGNS:Option Addr} {qn_TEST_SIGNS:Nat} {qs_TEST_SIGNS:Array (Option Value)} {qt_TEST_SIGNS_0:Tok} {qt_TEST_SIGNS_1:Tok} {qt_TEST_SIGNS_2:Tok} {q_BLOCK_KINDS:Addr} {qd_BLOCK_KINDS:Option Addr} {qn_BLOCK_KINDS:Nat} {qs_BLOCK_KINDS:Array (Option Value)} {qt_BLOCK_KINDS_0:Tok} {qt_BLOCK_KINDS_1:Tok} {qt_BLOCK_KINDS_2:Tok} {qt_BLOCK_KINDS_3:Tok} {qt_MOST_BOXES:Tok} {qt_MOST_SIZE:Tok} {qt_MOST_STATES:Tok} {qt_MOST_NUMBER:Tok} {qt_MOST_TURNS:Tok} {qt_FEWEST_BLOCKS:Tok} {qt_MOST_BLOCKS:Tok} {qt_MOST_WITHIN:Tok} {qt_MOST_LENGTH:Tok}
  (a_Rows:PySem.W.nsIn K mainGlobals "Rows"=some (some (.ref g_Rows)))
  (H0:FL K "is_whole" VI)
  (H1:FL K "is_made_of" Zt)
  (H2:FL K "is_name" Tn)
  (H3:FL K "is_number" Wv)
  (H4:FL K "blocks_of" Ww)
  (H5:FL K "length_of" Yn)
  (H6:FL K "deed_length" vJ)
  (H7:FL K "deeds_within" ZN)
  (H8:FL K "is_program" Zu)
  (H9:FL K "is_from_to" XB)
  (H10:FL K "boxes_fit" Zb)
  (H11:FL K "deed_fits" Yo)
  (H12:FL K "weights_fit" vK)
  (H13:FL K "operands_of" YE)
  (H14:FL K "operand_fits" ZO)
  (H15:FL K "depth_of" XC)
  (H16:FL K "deed_depth" Zv)
  (H17:ML K g_Rows "__init__" "Rows.__init__" wG)
  (H18:ML K g_Rows "first_word" "Rows.first_word" wY)
  (H19:ML K g_Rows "taken" "Rows.taken" XD)
  (H20:ML K g_Rows "take_alone" "Rows.take_alone" wZ)
  (H21:FL K "read" zfb)
  (H22:FL K "boxes_from" XE)
  (H23:FL K "block_from" XF)
  (H24:FL K "deed_from" Wx)
  (H25:FL K "plain_deed" Zw)
  (H26:FL K "closed_block" ZP)
  (H27:FL K "if_from" To)
  (H28:FL K "hand_blocks" YF)
  (H29:FL K "reckoning_from" vD)
  (H30:FL K "test_from" Wy)
  (H31:FL K "signed_from" YG)
  (H32:FL K "turns_from" XG)
  (H33:FL K "operand_from" ZQ)
  (H34:FL K "number_from" YH)
  (H35:FL K "name_from" Wz)
  (H36:FL K "shown" zal)
  (H37:FL K "block_rows" XH)
  (H38:FL K "deed_rows" Yp)
  (H39:FL K "first_words" YI)
  (H40:FL K "_law_draw" WA)
  (H41:FL K "_law_name" WB)
  (H42:FL K "_law_boxes" XI)
  (H43:FL K "_law_operand" ZR)
  (H44:FL K "_law_test" WC)
  (H45:FL K "_law_reckoning" vE)
  (H46:FL K "_law_weights" va)
  (H47:FL K "_law_plain" XJ)
  (H48:FL K "_law_words" Zx)
  (H49:FL K "_law_row" VJ)
  (H50:FL K "law" zaX)
  (g1_Rows:PySem.W.plainGet K g_Rows Str.empty=true) (g2_Rows:PySem.W.hasDictIn K g_Rows=true) (g3_Rows:PySem.W.plainOver K g_Rows=true) (g4_Rows:PySem.W.findIn K (.ref g_Rows) "__setattr__"=some (some (.builtin "object.__setattr__"))) (k_Rows:PySem.W.makesIn K g_Rows=true) (p_Rows:PySem.W.keepIn K (.ref g_Rows)=true)
  (n_Rows_rows:PySem.W.findIn K (.ref g_Rows) "rows"=some none)
  (n_Rows_place:PySem.W.findIn K (.ref g_Rows) "place"=some none)
  (N_all:PySem.W.nsIn K mainGlobals "all"=some none)
  (N_bool:PySem.W.nsIn K mainGlobals "bool"=some none)
  (N_dict:PySem.W.nsIn K mainGlobals "dict"=some none)
  (N_enumerate:PySem.W.nsIn K mainGlobals "enumerate"=some none)
  (N_int:PySem.W.nsIn K mainGlobals "int"=some none)
  (N_isinstance:PySem.W.nsIn K mainGlobals "isinstance"=some none)
  (N_len:PySem.W.nsIn K mainGlobals "len"=some none)
  (N_max:PySem.W.nsIn K mainGlobals "max"=some none)
  (N_min:PySem.W.nsIn K mainGlobals "min"=some none)
  (N_range:PySem.W.nsIn K mainGlobals "range"=some none)
  (N_repr:PySem.W.nsIn K mainGlobals "repr"=some none)
  (N_set:PySem.W.nsIn K mainGlobals "set"=some none)
  (N_str:PySem.W.nsIn K mainGlobals "str"=some none)
  (N_sum:PySem.W.nsIn K mainGlobals "sum"=some none)
  (N_tuple:PySem.W.nsIn K mainGlobals "tuple"=some none)
  (sp0:PySem.W.specialIn K (.builtin "object.__class__") "__get__"=some (some (.builtin "getset_descriptor.__get__"))) (tk0:PySem.W.takesIn K (.builtin "object.__class__")=some true)
  (a_LotsError:PySem.W.nsIn K mainGlobals "LotsError"=some (some (.ref g_LotsError))) (x_LotsError:PySem.W.excIn K g_LotsError [.type "ValueError",.type "Exception",.type "BaseException",.type "object"] "ValueError.__new__"=true) (p_LotsError:PySem.W.findIn K (.ref g_LotsError) "__getattribute__"=some (some (.builtin "BaseException.__getattribute__"))) (q_LotsError:PySem.W.findIn K (.ref g_LotsError) "__getattr__"=some none) (c_LotsError:PySem.W.isClsIn K g_LotsError=true) (h_LotsError:PySem.W.findIn K (.ref g_LotsError) "__class__"=some (some (.builtin "object.__class__"))) (o_LotsError:PySem.W.mroIn K g_LotsError (.type "object")=some true) (t_LotsError:PySem.W.typeIn K (.ref g_LotsError)=some (.type "type")) (e_LotsError:PySem.W.mroIn K g_LotsError (.type "BaseException")=some true) (v_LotsError:PySem.W.mroIn K g_LotsError (.type "ValueError")=some true)
  (a_NoText:PySem.W.nsIn K mainGlobals "NoText"=some (some (.ref g_NoText))) (x_NoText:PySem.W.excIn K g_NoText [.type "ValueError",.type "Exception",.type "BaseException",.type "object"] "ValueError.__new__"=true) (p_NoText:PySem.W.findIn K (.ref g_NoText) "__getattribute__"=some (some (.builtin "BaseException.__getattribute__"))) (q_NoText:PySem.W.findIn K (.ref g_NoText) "__getattr__"=some none) (c_NoText:PySem.W.isClsIn K g_NoText=true) (h_NoText:PySem.W.findIn K (.ref g_NoText) "__class__"=some (some (.builtin "object.__class__"))) (o_NoText:PySem.W.mroIn K g_NoText (.type "object")=some true) (t_NoText:PySem.W.typeIn K (.ref g_NoText)=some (.type "type")) (e_NoText:PySem.W.mroIn K g_NoText (.type "BaseException")=some true) (v_NoText:PySem.W.mroIn K g_NoText (.type "ValueError")=some true)
  (a_NoProgram:PySem.W.nsIn K mainGlobals "NoProgram"=some (some (.ref g_NoProgram))) (x_NoProgram:PySem.W.excIn K g_NoProgram [.type "ValueError",.type "Exception",.type "BaseException",.type "object"] "ValueError.__new__"=true) (p_NoProgram:PySem.W.findIn K (.ref g_NoProgram) "__getattribute__"=some (some (.builtin "BaseException.__getattribute__"))) (q_NoProgram:PySem.W.findIn K (.ref g_NoProgram) "__getattr__"=some none) (c_NoProgram:PySem.W.isClsIn K g_NoProgram=true) (h_NoProgram:PySem.W.findIn K (.ref g_NoProgram) "__class__"=some (some (.builtin "object.__class__"))) (o_NoProgram:PySem.W.mroIn K g_NoProgram (.type "object")=some true) (t_NoProgram:PySem.W.typeIn K (.ref g_NoProgram)=some (.type "type")) (e_NoProgram:PySem.W.mroIn K g_NoProgram (.type "BaseException")=some true) (v_NoProgram:PySem.W.mroIn K g_NoProgram (.type "ValueError")=some true)
  (a_LETTERS:PySem.W.nsIn K mainGlobals "LETTERS"=some (some (.str "abcdefghijklmnopqrstuvwxyz" qt_LETTERS)))
  (a_MOST_LETTERS:PySem.W.nsIn K mainGlobals "MOST_LETTERS"=some (some (.int 8 qt_MOST_LETTERS)))
  (a_FIGURES:PySem.W.nsIn K mainGlobals "FIGURES"=some (some (.str "0123456789" qt_FIGURES)))
  (a_MOST_FIGURES:PySem.W.nsIn K mainGlobals "MOST_FIGURES"=some (some (.int 9 qt_MOST_FIGURES)))
  (a_RECKONING_SIGNS:PySem.W.nsIn K mainGlobals "RECKONING_SIGNS"=some (some (.ref q_RECKONING_SIGNS)))
  (l_RECKONING_SIGNS:K.lookup q_RECKONING_SIGNS=some ⟨.type "tuple",qd_RECKONING_SIGNS,.seq #[.str "+" qt_RECKONING_SIGNS_0,.str "-" qt_RECKONING_SIGNS_1,.str "*" qt_RECKONING_SIGNS_2] qn_RECKONING_SIGNS,qs_RECKONING_SIGNS⟩)
  (a_TEST_SIGNS:PySem.W.nsIn K mainGlobals "TEST_SIGNS"=some (some (.ref q_TEST_SIGNS)))
  (l_TEST_SIGNS:K.lookup q_TEST_SIGNS=some ⟨.type "tuple",qd_TEST_SIGNS,.seq #[.str "=" qt_TEST_SIGNS_0,.str "<" qt_TEST_SIGNS_1,.str "#" qt_TEST_SIGNS_2] qn_TEST_SIGNS,qs_TEST_SIGNS⟩)
  (a_BLOCK_KINDS:PySem.W.nsIn K mainGlobals "BLOCK_KINDS"=some (some (.ref q_BLOCK_KINDS)))
  (l_BLOCK_KINDS:K.lookup q_BLOCK_KINDS=some ⟨.type "tuple",qd_BLOCK_KINDS,.seq #[.str "if" qt_BLOCK_KINDS_0,.str "while" qt_BLOCK_KINDS_1,.str "times" qt_BLOCK_KINDS_2,.str "hand" qt_BLOCK_KINDS_3] qn_BLOCK_KINDS,qs_BLOCK_KINDS⟩)
  (a_MOST_BOXES:PySem.W.nsIn K mainGlobals "MOST_BOXES"=some (some (.int 9 qt_MOST_BOXES)))
  (a_MOST_SIZE:PySem.W.nsIn K mainGlobals "MOST_SIZE"=some (some (.int 9 qt_MOST_SIZE)))
  (a_MOST_STATES:PySem.W.nsIn K mainGlobals "MOST_STATES"=some (some (.int 1000 qt_MOST_STATES)))
  (a_MOST_NUMBER:PySem.W.nsIn K mainGlobals "MOST_NUMBER"=some (some (.int 999999999 qt_MOST_NUMBER)))
  (a_MOST_TURNS:PySem.W.nsIn K mainGlobals "MOST_TURNS"=some (some (.int 60 qt_MOST_TURNS)))
  (a_FEWEST_BLOCKS:PySem.W.nsIn K mainGlobals "FEWEST_BLOCKS"=some (some (.int 2 qt_FEWEST_BLOCKS)))
  (a_MOST_BLOCKS:PySem.W.nsIn K mainGlobals "MOST_BLOCKS"=some (some (.int 8 qt_MOST_BLOCKS)))
  (a_MOST_WITHIN:PySem.W.nsIn K mainGlobals "MOST_WITHIN"=some (some (.int 12 qt_MOST_WITHIN)))
  (a_MOST_LENGTH:PySem.W.nsIn K mainGlobals "MOST_LENGTH"=some (some (.int 100 qt_MOST_LENGTH))):Tx K mg:={f_is_whole:=H0.to X G (fun _ _ _ _ _ _=>at_ fun _=>at0 rfl),f_is_made_of:=H1.to X G (fun _ _ _ _ _ _=>at_ fun _=>at_ fun _=>at0 rfl),f_is_name:=H2.to X G (fun _ _ _ _ _ _=>at_ fun _=>at0 rfl),f_is_number:=H3.to X G (fun _ _ _ _ _ _=>at_ fun _=>at0 rfl),f_blocks_of:=H4.to X G (fun _ _ _ _ _ _=>at_ fun _=>at0 rfl),f_length_of:=H5.to X G (fun _ _ _ _ _ _=>at_ fun _=>at0 rfl),f_deed_length:=H6.to X G (fun _ _ _ _ _ _=>at_ fun _=>at0 rfl),f_deeds_within:=H7.to X G (fun _ _ _ _ _ _=>at_ fun _=>at0 rfl),f_is_program:=H8.to X G (fun _ _ _ _ _ _=>at_ fun _=>at0 rfl),f_is_from_to:=H9.to X G (fun _ _ _ _ _ _=>at_ fun _=>at_ fun _=>at_ fun _=>at0 rfl),f_boxes_fit:=H10.to X G (fun _ _ _ _ _ _=>at_ fun _=>at0 rfl),f_deed_fits:=H11.to X G (fun _ _ _ _ _ _=>at_ fun _=>at_ fun _=>at0 rfl),f_weights_fit:=H12.to X G (fun _ _ _ _ _ _=>at_ fun _=>at_ fun _=>at0 rfl),f_operands_of:=H13.to X G (fun _ _ _ _ _ _=>at_ fun _=>at0 rfl),f_operand_fits:=H14.to X G (fun _ _ _ _ _ _=>at_ fun _=>at_ fun _=>at0 rfl),f_depth_of:=H15.to X G (fun _ _ _ _ _ _=>at_ fun _=>at0 rfl),f_deed_depth:=H16.to X G (fun _ _ _ _ _ _=>at_ fun _=>at0 rfl),f_Rows___init__:=H17.to (fun _ _ _ _ _ _=>at_ fun _=>at_ fun _=>at0 rfl),mk_Rows:=⟨k_Rows,(H17.to (ps:=["self","text"]) (fun _ _ _ _ _ _=>at_ fun _=>at_ fun _=>at0 rfl)).mt.at_,(H17.to (ps:=["self","text"]) (fun _ _ _ _ _ _=>at_ fun _=>at_ fun _=>at0 rfl)).mt.fn,p_Rows⟩,f_Rows_first_word:=H18.to (fun _ _ _ _ _ _=>at_ fun _=>at0 rfl),f_Rows_taken:=H19.to (fun _ _ _ _ _ _=>at_ fun _=>at0 rfl),f_Rows_take_alone:=H20.to (fun _ _ _ _ _ _=>at_ fun _=>at_ fun _=>at0 rfl),f_read:=H21.to X G (fun _ _ _ _ _ _=>at_ fun _=>at0 rfl),f_boxes_from:=H22.to X G (fun _ _ _ _ _ _=>at_ fun _=>at0 rfl),f_block_from:=H23.to X G (fun _ _ _ _ _ _=>at_ fun _=>at_ fun _=>at0 rfl),f_deed_from:=H24.to X G (fun _ _ _ _ _ _=>at_ fun _=>at_ fun _=>at0 rfl),f_plain_deed:=H25.to X G (fun _ _ _ _ _ _=>at_ fun _=>at_ fun _=>at0 rfl),f_closed_block:=H26.to X G (fun _ _ _ _ _ _=>at_ fun _=>at_ fun _=>at0 rfl),f_if_from:=H27.to X G (fun _ _ _ _ _ _=>at_ fun _=>at_ fun _=>at_ fun _=>at0 rfl),f_hand_blocks:=H28.to X G (fun _ _ _ _ _ _=>at_ fun _=>at_ fun _=>at0 rfl),f_reckoning_from:=H29.to X G (fun _ _ _ _ _ _=>at_ fun _=>at0 rfl),f_test_from:=H30.to X G (fun _ _ _ _ _ _=>at_ fun _=>at0 rfl),f_signed_from:=H31.to X G (fun _ _ _ _ _ _=>at_ fun _=>at_ fun _=>at0 rfl),f_turns_from:=H32.to X G (fun _ _ _ _ _ _=>at_ fun _=>at0 rfl),f_operand_from:=H33.to X G (fun _ _ _ _ _ _=>at_ fun _=>at0 rfl),f_number_from:=H34.to X G (fun _ _ _ _ _ _=>at_ fun _=>at0 rfl),f_name_from:=H35.to X G (fun _ _ _ _ _ _=>at_ fun _=>at0 rfl),f_shown:=H36.to X G (fun _ _ _ _ _ _=>at_ fun _=>at0 rfl),f_block_rows:=H37.to X G (fun _ _ _ _ _ _=>at_ fun _=>at0 rfl),f_deed_rows:=H38.to X G (fun _ _ _ _ _ _=>at_ fun _=>at0 rfl),f_first_words:=H39.to X G (fun _ _ _ _ _ _=>at_ fun _=>at0 rfl),f__law_draw:=H40.to X G (fun _ _ _ _ _ _=>at_ fun _=>at_ fun _=>at_ fun _=>at_ fun _=>at0 rfl),f__law_name:=H41.to X G (fun _ _ _ _ _ _=>at_ fun _=>at_ fun _=>at_ fun _=>at0 rfl),f__law_boxes:=H42.to X G (fun _ _ _ _ _ _=>at_ fun _=>at_ fun _=>at_ fun _=>at0 rfl),f__law_operand:=H43.to X G (fun _ _ _ _ _ _=>at_ fun _=>at_ fun _=>at_ fun _=>at0 rfl),f__law_test:=H44.to X G (fun _ _ _ _ _ _=>at_ fun _=>at_ fun _=>at_ fun _=>at0 rfl),f__law_reckoning:=H45.to X G (fun _ _ _ _ _ _=>at_ fun _=>at_ fun _=>at_ fun _=>at0 rfl),f__law_weights:=H46.to X G (fun _ _ _ _ _ _=>at_ fun _=>at_ fun _=>at_ fun _=>at0 rfl),f__law_plain:=H47.to X G (fun _ _ _ _ _ _=>at_ fun _=>at_ fun _=>at_ fun _=>at0 rfl),f__law_words:=H48.to X G (fun _ _ _ _ _ _=>at_ fun _=>at0 rfl),f__law_row:=H49.to X G (fun _ _ _ _ _ _=>at_ fun _=>at0 rfl),f_law:=H50.to X G (fun _ _ _ _ _ _=>at_ fun _=>at0 rfl),a_Rows:=g_Rows,m_Rows:=PySem.W.mg_of X G a_Rows,cl_Rows:=⟨g1_Rows,g2_Rows,g3_Rows,g4_Rows⟩,ns_Rows:=a_Rows,n_Rows_rows:=n_Rows_rows,n_Rows_place:=n_Rows_place,n_all:=PySem.W.mg_none_of X G N_all,n_bool:=PySem.W.mg_none_of X G N_bool,n_dict:=PySem.W.mg_none_of X G N_dict,n_enumerate:=PySem.W.mg_none_of X G N_enumerate,n_int:=PySem.W.mg_none_of X G N_int,n_isinstance:=PySem.W.mg_none_of X G N_isinstance,n_len:=PySem.W.mg_none_of X G N_len,n_max:=PySem.W.mg_none_of X G N_max,n_min:=PySem.W.mg_none_of X G N_min,n_range:=PySem.W.mg_none_of X G N_range,n_repr:=PySem.W.mg_none_of X G N_repr,n_set:=PySem.W.mg_none_of X G N_set,n_str:=PySem.W.mg_none_of X G N_str,n_sum:=PySem.W.mg_none_of X G N_sum,n_tuple:=PySem.W.mg_none_of X G N_tuple,a_LotsError:=g_LotsError,m_LotsError:=PySem.W.mg_of X G a_LotsError,x_LotsError:=⟨PySem.W.mg_of X G a_LotsError,x_LotsError⟩,i_LotsError:=⟨p_LotsError,q_LotsError,e_LotsError,c_LotsError,h_LotsError,sp0,tk0,o_LotsError⟩,t_LotsError:=t_LotsError,e_LotsError:=e_LotsError,v_LotsError:=v_LotsError,a_NoText:=g_NoText,m_NoText:=PySem.W.mg_of X G a_NoText,x_NoText:=⟨PySem.W.mg_of X G a_NoText,x_NoText⟩,i_NoText:=⟨p_NoText,q_NoText,e_NoText,c_NoText,h_NoText,sp0,tk0,o_NoText⟩,t_NoText:=t_NoText,e_NoText:=e_NoText,v_NoText:=v_NoText,a_NoProgram:=g_NoProgram,m_NoProgram:=PySem.W.mg_of X G a_NoProgram,x_NoProgram:=⟨PySem.W.mg_of X G a_NoProgram,x_NoProgram⟩,i_NoProgram:=⟨p_NoProgram,q_NoProgram,e_NoProgram,c_NoProgram,h_NoProgram,sp0,tk0,o_NoProgram⟩,t_NoProgram:=t_NoProgram,e_NoProgram:=e_NoProgram,v_NoProgram:=v_NoProgram,m_LETTERS:=⟨_,PySem.W.mg_of X G a_LETTERS⟩,m_MOST_LETTERS:=⟨_,PySem.W.mg_of X G a_MOST_LETTERS⟩,m_FIGURES:=⟨_,PySem.W.mg_of X G a_FIGURES⟩,m_MOST_FIGURES:=⟨_,PySem.W.mg_of X G a_MOST_FIGURES⟩,a_RECKONING_SIGNS:=q_RECKONING_SIGNS,m_RECKONING_SIGNS:=PySem.W.mg_of X G a_RECKONING_SIGNS,c_RECKONING_SIGNS:=fun H=> .inr ⟨_,_,_,l_RECKONING_SIGNS,rfl,rfl,by show 3≤sizeLine;decide,(.cons ⟨_,rfl⟩ (.cons ⟨_,rfl⟩ (.cons ⟨_,rfl⟩ .nil)))⟩,a_TEST_SIGNS:=q_TEST_SIGNS,m_TEST_SIGNS:=PySem.W.mg_of X G a_TEST_SIGNS,c_TEST_SIGNS:=fun H=> .inr ⟨_,_,_,l_TEST_SIGNS,rfl,rfl,by show 3≤sizeLine;decide,(.cons ⟨_,rfl⟩ (.cons ⟨_,rfl⟩ (.cons ⟨_,rfl⟩ .nil)))⟩,a_BLOCK_KINDS:=q_BLOCK_KINDS,m_BLOCK_KINDS:=PySem.W.mg_of X G a_BLOCK_KINDS,c_BLOCK_KINDS:=fun H=> .inr ⟨_,_,_,l_BLOCK_KINDS,rfl,rfl,by show 4≤sizeLine;decide,(.cons ⟨_,rfl⟩ (.cons ⟨_,rfl⟩ (.cons ⟨_,rfl⟩ (.cons ⟨_,rfl⟩ .nil))))⟩,m_MOST_BOXES:=⟨_,PySem.W.mg_of X G a_MOST_BOXES⟩,m_MOST_SIZE:=⟨_,PySem.W.mg_of X G a_MOST_SIZE⟩,m_MOST_STATES:=⟨_,PySem.W.mg_of X G a_MOST_STATES⟩,m_MOST_NUMBER:=⟨_,PySem.W.mg_of X G a_MOST_NUMBER⟩,m_MOST_TURNS:=⟨_,PySem.W.mg_of X G a_MOST_TURNS⟩,m_FEWEST_BLOCKS:=⟨_,PySem.W.mg_of X G a_FEWEST_BLOCKS⟩,m_MOST_BLOCKS:=⟨_,PySem.W.mg_of X G a_MOST_BLOCKS⟩,m_MOST_WITHIN:=⟨_,PySem.W.mg_of X G a_MOST_WITHIN⟩,m_MOST_LENGTH:=⟨_,PySem.W.mg_of X G a_MOST_LENGTH⟩}
theorem zlV {l:PySem.W.OpenLaw} {w:World} {K:PySem.W.Frag} {mg:Str→Option Value} {fa:Addr} (hfa:mg "law"=some (.ref fa)) (T:Tx K mg):
  ∃fd:FuncData,(∀(s:Shared) (v:Value),BindsTo s fd ⟨[v],[]⟩ [("_law_script",v)])∧∀base:Heap,K.In base→base.Ns mainGlobals mg→yB l.prog w K mg base (CXE l.prog w) 49 fa fd ["_law_script"] (zaK K):=by
 have e:=zlA T.f_law (fun _ _=>trivial) hfa
 subst e
 exact ⟨_,fun s v=>by
  obtain ⟨_,_,_,_,_,_,_,_,_,e,_⟩:=T.f_law.F.ex
  rw [e]
  exact .of_eq rfl,fun base _ _=>zlU T⟩
theorem znm {l:PySem.W.OpenLaw} {q:Program} {loose:List Str} {XP:(Str→Option Value)→Heap→Prop} {YP:World→Heap→Prop} {d:DefRec} {K:Params→PySem.W.Frag} (hn:l.most=some 63) (hdf:d.params.defaults=[])
  (hY:∀(w:World) (h:Heap),YP w h→(K w.params).In h)
  (F:∀(w:World) (mg:Str→Option Value) (fa:Addr) (h:Heap),(K w.params).In h→h.Ns mainGlobals mg→mg d.name=some (.ref fa)→
   ∃fd:FuncData,(∀(s:Shared) (u:Value),BindsTo s fd ⟨[u],[]⟩ [("_law_script",u)])∧∀base:Heap,(K w.params).In base→base.Ns mainGlobals mg→yB l.prog w (K w.params) mg base (CXE l.prog w) 49 fa fd ["_law_script"] (zaK (K w.params))):
  PySem.W.WalkO q loose XP YP l.row.toRowW d [] (fun f vs=>PySem.call f vs):=
 L2.ziS (n:=63) (k:=49) (x:="_law_script") (CX:=fun w=>CXE l.prog w) (sp:=fun w=>zaK (K w.params)) hn (by decide) hdf ⟨rfl,by decide,by decide,rfl⟩ hY F (fun _ _ a ns hl hO hS=>⟨a,ns,rfl,hO,hS,hl,fun _=>rfl⟩) fun _ _ _ _ _ ⟨_,_,_,_,_,z⟩=>z
end Prf
open PySem PySem.W PyProof.Rows
local macro_rules | `(tactic| walk_at "fl") => `(tactic| exact Prf.zmU (by k_is) (by k_is) (by k_is) (by k_is))
local macro_rules | `(tactic| walk_at "ml") => `(tactic| exact Prf.zmV (by k_is) (by k_is) (by k_is) (by k_is) (by k_is))
set_option maxRecDepth 100000 in
set_option maxHeartbeats 0 in
theorem PySem.Challenge.cw_lots_k20_rows_read_holds : PySem.Challenge.rw_lots_k20_rows_read.Holds := by
 w_on;o_law;k_head;(case hw=>w_witness2)
 k_fill
 refine Prf.znm (l:=PySem.Challenge.rw_lots_k20_rows_read) rfl rfl (fun w h Y=>PySem.W.kIn_of Y) ?F
 case F=>
  intro w mg fa h KX G hmg
  refine' Prf.zlV hmg (Prf.zm9 KX G ?a_Rows ?H0 ?H1 ?H2 ?H3 ?H4 ?H5 ?H6 ?H7 ?H8 ?H9 ?H10 ?H11 ?H12 ?H13 ?H14 ?H15 ?H16 ?H17 ?H18 ?H19 ?H20 ?H21 ?H22 ?H23 ?H24 ?H25 ?H26 ?H27 ?H28 ?H29 ?H30 ?H31 ?H32 ?H33 ?H34 ?H35 ?H36 ?H37 ?H38 ?H39 ?H40 ?H41 ?H42 ?H43 ?H44 ?H45 ?H46 ?H47 ?H48 ?H49 ?H50 ?g1_Rows ?g2_Rows ?g3_Rows ?g4_Rows ?k_Rows ?p_Rows ?n_Rows_rows ?n_Rows_place ?N_all ?N_bool ?N_dict ?N_enumerate ?N_int ?N_isinstance ?N_len ?N_max ?N_min ?N_range ?N_repr ?N_set ?N_str ?N_sum ?N_tuple ?sp0 ?tk0 ?a_LotsError ?x_LotsError ?p_LotsError ?q_LotsError ?c_LotsError ?h_LotsError ?o_LotsError ?t_LotsError ?e_LotsError ?v_LotsError ?a_NoText ?x_NoText ?p_NoText ?q_NoText ?c_NoText ?h_NoText ?o_NoText ?t_NoText ?e_NoText ?v_NoText ?a_NoProgram ?x_NoProgram ?p_NoProgram ?q_NoProgram ?c_NoProgram ?h_NoProgram ?o_NoProgram ?t_NoProgram ?e_NoProgram ?v_NoProgram ?a_LETTERS ?a_MOST_LETTERS ?a_FIGURES ?a_MOST_FIGURES ?a_RECKONING_SIGNS ?l_RECKONING_SIGNS ?a_TEST_SIGNS ?l_TEST_SIGNS ?a_BLOCK_KINDS ?l_BLOCK_KINDS ?a_MOST_BOXES ?a_MOST_SIZE ?a_MOST_STATES ?a_MOST_NUMBER ?a_MOST_TURNS ?a_FEWEST_BLOCKS ?a_MOST_BLOCKS ?a_MOST_WITHIN ?a_MOST_LENGTH)
  (case a_Rows=>k_is);(case H0=>walk_at "fl");(case H1=>walk_at "fl");(case H2=>walk_at "fl");(case H3=>walk_at "fl");(case H4=>walk_at "fl")
  (case H5=>walk_at "fl");(case H6=>walk_at "fl");(case H7=>walk_at "fl");(case H8=>walk_at "fl");(case H9=>walk_at "fl");(case H10=>walk_at "fl")
  (case H11=>walk_at "fl");(case H12=>walk_at "fl");(case H13=>walk_at "fl");(case H14=>walk_at "fl");(case H15=>walk_at "fl");(case H16=>walk_at "fl")
  (case H17=>walk_at "ml");(case H18=>walk_at "ml");(case H19=>walk_at "ml");(case H20=>walk_at "ml");(case H21=>walk_at "fl");(case H22=>walk_at "fl")
  (case H23=>walk_at "fl");(case H24=>walk_at "fl");(case H25=>walk_at "fl");(case H26=>walk_at "fl");(case H27=>walk_at "fl");(case H28=>walk_at "fl")
  (case H29=>walk_at "fl");(case H30=>walk_at "fl");(case H31=>walk_at "fl");(case H32=>walk_at "fl");(case H33=>walk_at "fl");(case H34=>walk_at "fl")
  (case H35=>walk_at "fl");(case H36=>walk_at "fl");(case H37=>walk_at "fl");(case H38=>walk_at "fl");(case H39=>walk_at "fl");(case H40=>walk_at "fl")
  (case H41=>walk_at "fl");(case H42=>walk_at "fl");(case H43=>walk_at "fl");(case H44=>walk_at "fl");(case H45=>walk_at "fl");(case H46=>walk_at "fl")
  (case H47=>walk_at "fl");(case H48=>walk_at "fl");(case H49=>walk_at "fl");(case H50=>walk_at "fl");(case g1_Rows=>k_is);(case g2_Rows=>k_is)
  (case g3_Rows=>k_is);(case g4_Rows=>k_is);(case k_Rows=>k_is);(case p_Rows=>k_is);(case n_Rows_rows=>k_is);(case n_Rows_place=>k_is)
  (case N_all=>k_is);(case N_bool=>k_is);(case N_dict=>k_is);(case N_enumerate=>k_is);(case N_int=>k_is);(case N_isinstance=>k_is)
  (case N_len=>k_is);(case N_max=>k_is);(case N_min=>k_is);(case N_range=>k_is);(case N_repr=>k_is);(case N_set=>k_is)
  (case N_str=>k_is);(case N_sum=>k_is);(case N_tuple=>k_is);(case sp0=>k_is);(case tk0=>k_is);(case a_LotsError=>k_is)
  (case x_LotsError=>k_exc);(case p_LotsError=>k_is);(case q_LotsError=>k_is);(case c_LotsError=>k_is);(case h_LotsError=>k_is);(case o_LotsError=>k_is)
  (case t_LotsError=>k_is);(case e_LotsError=>k_is);(case v_LotsError=>k_is);(case a_NoText=>k_is);(case x_NoText=>k_exc);(case p_NoText=>k_is)
  (case q_NoText=>k_is);(case c_NoText=>k_is);(case h_NoText=>k_is);(case o_NoText=>k_is);(case t_NoText=>k_is);(case e_NoText=>k_is)
  (case v_NoText=>k_is);(case a_NoProgram=>k_is);(case x_NoProgram=>k_exc);(case p_NoProgram=>k_is);(case q_NoProgram=>k_is);(case c_NoProgram=>k_is)
  (case h_NoProgram=>k_is);(case o_NoProgram=>k_is);(case t_NoProgram=>k_is);(case e_NoProgram=>k_is);(case v_NoProgram=>k_is);(case a_LETTERS=>k_is)
  (case a_MOST_LETTERS=>k_is);(case a_FIGURES=>k_is);(case a_MOST_FIGURES=>k_is);(case a_RECKONING_SIGNS=>k_is);(case l_RECKONING_SIGNS=>k_is);(case a_TEST_SIGNS=>k_is)
  (case l_TEST_SIGNS=>k_is);(case a_BLOCK_KINDS=>k_is);(case l_BLOCK_KINDS=>k_is);(case a_MOST_BOXES=>k_is);(case a_MOST_SIZE=>k_is);(case a_MOST_STATES=>k_is)
  (case a_MOST_NUMBER=>k_is);(case a_MOST_TURNS=>k_is);(case a_FEWEST_BLOCKS=>k_is);(case a_MOST_BLOCKS=>k_is);(case a_MOST_WITHIN=>k_is);(case a_MOST_LENGTH=>k_is)
