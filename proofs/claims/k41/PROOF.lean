import PyProof.Rows.All
import Wide.All
import OpenK.AllK
import Wide.FinOn
import Lean
import PyProof.EqAt
import PyProof.EqKinds
import PyProof.TupleCall
import PySem.Challenge.RW_lots_k41_sums_by_states
set_option Elab.async false
set_option linter.all false
set_option maxRecDepth 100000
set_option compiler.extract_closed false
local macro_rules | `(tactic| omega) => `(tactic| first | with_reducible assumption | lia | omega +splitDisjunctions)
namespace PySem.W.Fast
theorem tw10014786573772595189:True:=trivial
theorem tw1003516838904554146:True:=trivial
theorem tw10054632339395811910:True:=trivial
theorem tw10203031570655912983:True:=trivial
theorem tw10225840935966958385:True:=trivial
theorem tw10259187884018716021:True:=trivial
theorem tw10286758885889205038:True:=trivial
theorem tw10292317139851168624:True:=trivial
theorem tw10292780576634841382:True:=trivial
theorem tw10317569656827857156:True:=trivial
theorem tw10328715644667457328:True:=trivial
theorem tw10339680109658256095:True:=trivial
theorem tw10395269163433943116:True:=trivial
theorem tw1042918033749537949:True:=trivial
theorem tw10443894490138992068:True:=trivial
theorem tw10478448249189096996:True:=trivial
theorem tw10547636513003335121:True:=trivial
theorem tw10558865160720331042:True:=trivial
theorem tw10735199476537596684:True:=trivial
theorem tw10747095574945306869:True:=trivial
theorem tw10787770019519267969:True:=trivial
theorem tw10888754183538763411:True:=trivial
theorem tw10894055376682750310:True:=trivial
theorem tw10898379623006532771:True:=trivial
theorem tw10907543726045723118:True:=trivial
theorem tw10915709872515945691:True:=trivial
theorem tw10919832309028252446:True:=trivial
theorem tw1092587559778055977:True:=trivial
theorem tw10992889212510623769:True:=trivial
theorem tw11001916661876635061:True:=trivial
theorem tw11011512838523449211:True:=trivial
theorem tw11021627850162467885:True:=trivial
theorem tw11061891281407576995:True:=trivial
theorem tw11113311314376822570:True:=trivial
theorem tw11147729426279687976:True:=trivial
theorem tw11164745329875632101:True:=trivial
theorem tw1122743808451143248:True:=trivial
theorem tw1134874196654105141:True:=trivial
theorem tw1139346491248255281:True:=trivial
theorem tw11528830930617163199:True:=trivial
theorem tw11696540583832927422:True:=trivial
theorem tw11708079775159717322:True:=trivial
theorem tw11715089846261814410:True:=trivial
theorem tw11739339630543205400:True:=trivial
theorem tw1173968885924627172:True:=trivial
theorem tw11740411463275737306:True:=trivial
theorem tw11824238315391046331:True:=trivial
theorem tw1185328217507786809:True:=trivial
theorem tw1190723042161795720:True:=trivial
theorem tw11972418039600449800:True:=trivial
theorem tw1200307901801323130:True:=trivial
theorem tw12025397132868231469:True:=trivial
theorem tw12030870727147838587:True:=trivial
theorem tw12041597163978640442:True:=trivial
theorem tw12045343405954472988:True:=trivial
theorem tw12077300723752604667:True:=trivial
theorem tw12080923654260402373:True:=trivial
theorem tw12094146335364030475:True:=trivial
theorem tw12175754410796855034:True:=trivial
theorem tw12248026681338154419:True:=trivial
theorem tw12301641529788826053:True:=trivial
theorem tw12323066018548639986:True:=trivial
theorem tw12328645115296858237:True:=trivial
theorem tw12328893256366976265:True:=trivial
theorem tw12334149708127526853:True:=trivial
theorem tw12376463098857742514:True:=trivial
theorem tw12420124380726741358:True:=trivial
theorem tw1248548455904265606:True:=trivial
theorem tw12570936640715758924:True:=trivial
theorem tw12590000679350657579:True:=trivial
theorem tw12617604190036083323:True:=trivial
theorem tw12655290614531976231:True:=trivial
theorem tw12847716477407583134:True:=trivial
theorem tw12861312440825988874:True:=trivial
theorem tw12936331135936480825:True:=trivial
theorem tw12952154050194712698:True:=trivial
theorem tw12957714812855495497:True:=trivial
theorem tw13009439084864881354:True:=trivial
theorem tw13113513827454692435:True:=trivial
theorem tw13170068729333324149:True:=trivial
theorem tw13177204881865968736:True:=trivial
theorem tw13208974645026275184:True:=trivial
theorem tw13212336443746449050:True:=trivial
theorem tw13238025492602348028:True:=trivial
theorem tw13301340068248353096:True:=trivial
theorem tw13311571091501193981:True:=trivial
theorem tw13324726943742896330:True:=trivial
theorem tw1333912621148098806:True:=trivial
theorem tw13362509265362853061:True:=trivial
theorem tw13471439787499217511:True:=trivial
theorem tw13502993394325817154:True:=trivial
theorem tw13544694735181651983:True:=trivial
theorem tw13574558920144173039:True:=trivial
theorem tw13625555895346433817:True:=trivial
theorem tw13627585970328831721:True:=trivial
theorem tw13630375874495534866:True:=trivial
theorem tw13630780370212723121:True:=trivial
theorem tw13701938305994045695:True:=trivial
theorem tw13745661244548319797:True:=trivial
theorem tw13777956102423350116:True:=trivial
theorem tw13804031483781083009:True:=trivial
theorem tw13882976820475796069:True:=trivial
theorem tw13927224580340025535:True:=trivial
theorem tw14000948054427937636:True:=trivial
theorem tw14005348475942171225:True:=trivial
theorem tw1410444914822763052:True:=trivial
theorem tw14117169195975672036:True:=trivial
theorem tw14120645607864950653:True:=trivial
theorem tw14143212803137361813:True:=trivial
theorem tw14250781964706122801:True:=trivial
theorem tw14253687303570484978:True:=trivial
theorem tw14261632245263490160:True:=trivial
theorem tw14271152134123348336:True:=trivial
theorem tw14337878027825985644:True:=trivial
theorem tw14370968564646888412:True:=trivial
theorem tw1438405568718775261:True:=trivial
theorem tw14436323234875309707:True:=trivial
theorem tw14442500588287447487:True:=trivial
theorem tw1444838605170415121:True:=trivial
theorem tw14491127474405436923:True:=trivial
theorem tw14537705552858223170:True:=trivial
theorem tw1457233605605608847:True:=trivial
theorem tw14631923216828807184:True:=trivial
theorem tw14707701673260493776:True:=trivial
theorem tw14734843034068595863:True:=trivial
theorem tw14766111520917086029:True:=trivial
theorem tw14767819050274876298:True:=trivial
theorem tw14834970912998716493:True:=trivial
theorem tw14873645787893166521:True:=trivial
theorem tw14895501133273217102:True:=trivial
theorem tw149864439769711902:True:=trivial
theorem tw15032301819690211423:True:=trivial
theorem tw15032949493216509371:True:=trivial
theorem tw15073537404930132626:True:=trivial
theorem tw15102967850863275311:True:=trivial
theorem tw15130537307264158062:True:=trivial
theorem tw15150644255652364185:True:=trivial
theorem tw15189779684758769031:True:=trivial
theorem tw1524890294944519219:True:=trivial
theorem tw15275597739442252117:True:=trivial
theorem tw1528642914409952422:True:=trivial
theorem tw15374725837954721281:True:=trivial
theorem tw15390769774497165270:True:=trivial
theorem tw15444445153933008112:True:=trivial
theorem tw15462885136828014732:True:=trivial
theorem tw15509776396729213142:True:=trivial
theorem tw15513557915286136673:True:=trivial
theorem tw15531949803126417637:True:=trivial
theorem tw15541118811724018916:True:=trivial
theorem tw1555678713324973288:True:=trivial
theorem tw15578895146008586822:True:=trivial
theorem tw15607246923507184540:True:=trivial
theorem tw15624592526682609818:True:=trivial
theorem tw1565093225977376949:True:=trivial
theorem tw15685766577260509579:True:=trivial
theorem tw157491606569807619:True:=trivial
theorem tw15794035619454173700:True:=trivial
theorem tw15794291592999249140:True:=trivial
theorem tw15804585458757128685:True:=trivial
theorem tw15999605925406801743:True:=trivial
theorem tw16043840108762324866:True:=trivial
theorem tw16071724523411419450:True:=trivial
theorem tw1611162909943171343:True:=trivial
theorem tw16127113685083996848:True:=trivial
theorem tw16134030482120490283:True:=trivial
theorem tw16200132655033875230:True:=trivial
theorem tw16225898975920308155:True:=trivial
theorem tw16229280193640018664:True:=trivial
theorem tw16254881731706851338:True:=trivial
theorem tw16277817110407418657:True:=trivial
theorem tw1628011326253440080:True:=trivial
theorem tw16294181878486865200:True:=trivial
theorem tw16351983995586026228:True:=trivial
theorem tw16363235206976160017:True:=trivial
theorem tw16380503536575695415:True:=trivial
theorem tw16441229094593141193:True:=trivial
theorem tw16443752789734242250:True:=trivial
theorem tw16484440632126084783:True:=trivial
theorem tw16490933065297644767:True:=trivial
theorem tw16492177048752909606:True:=trivial
theorem tw16591619563082034704:True:=trivial
theorem tw16599262332268542637:True:=trivial
theorem tw1673882792494303192:True:=trivial
theorem tw16830966203897585059:True:=trivial
theorem tw16862374170787565401:True:=trivial
theorem tw16901315790875176584:True:=trivial
theorem tw16906855511785207670:True:=trivial
theorem tw16937953744402299261:True:=trivial
theorem tw17012333014273919324:True:=trivial
theorem tw17059878327795675401:True:=trivial
theorem tw17060519301244780619:True:=trivial
theorem tw1706272147195748527:True:=trivial
theorem tw17111929400856804239:True:=trivial
theorem tw17139795001381060195:True:=trivial
theorem tw17194856815546418959:True:=trivial
theorem tw17245635759134323965:True:=trivial
theorem tw17247867860854109834:True:=trivial
theorem tw17262933890800239199:True:=trivial
theorem tw17282823613440083559:True:=trivial
theorem tw17397915225418380630:True:=trivial
theorem tw17409838095742710606:True:=trivial
theorem tw17424470416015839961:True:=trivial
theorem tw17477043652790116556:True:=trivial
theorem tw17545803096872934076:True:=trivial
theorem tw17580267259359460855:True:=trivial
theorem tw17583242108928518825:True:=trivial
theorem tw17600922693796043469:True:=trivial
theorem tw17660808788178243955:True:=trivial
theorem tw1779049697708489298:True:=trivial
theorem tw1779870902262222120:True:=trivial
theorem tw17812079479112050910:True:=trivial
theorem tw17857983480993449365:True:=trivial
theorem tw17870869555030002210:True:=trivial
theorem tw17900561769938591044:True:=trivial
theorem tw17906093305719886922:True:=trivial
theorem tw17966597181275468966:True:=trivial
theorem tw17973690530387872275:True:=trivial
theorem tw18007948664263552050:True:=trivial
theorem tw1810788592806981038:True:=trivial
theorem tw18169333873302948465:True:=trivial
theorem tw18214960174260639942:True:=trivial
theorem tw18262548654548879498:True:=trivial
theorem tw18302736830120941668:True:=trivial
theorem tw18338541832632508924:True:=trivial
theorem tw18423603834710340058:True:=trivial
theorem tw1843294961156135930:True:=trivial
theorem tw1870823725336224681:True:=trivial
theorem tw189149622652233222:True:=trivial
theorem tw1911642028015153366:True:=trivial
theorem tw1941487099211016477:True:=trivial
theorem tw1961141338751331257:True:=trivial
theorem tw2004821818748588581:True:=trivial
theorem tw2041517290595514763:True:=trivial
theorem tw2052093704329982340:True:=trivial
theorem tw2255320034576107215:True:=trivial
theorem tw2371814051781569268:True:=trivial
theorem tw2387784881566039495:True:=trivial
theorem tw2418196508810113148:True:=trivial
theorem tw2439022540498112448:True:=trivial
theorem tw2455967521658300133:True:=trivial
theorem tw2496324011708074512:True:=trivial
theorem tw2497993564782853698:True:=trivial
theorem tw2499125378848016804:True:=trivial
theorem tw2600991661599320971:True:=trivial
theorem tw2623510295689021665:True:=trivial
theorem tw2668711561346229461:True:=trivial
theorem tw2670175221207940550:True:=trivial
theorem tw2710813332805730163:True:=trivial
theorem tw2807160137469472868:True:=trivial
theorem tw2845327740250106777:True:=trivial
theorem tw293008903569767088:True:=trivial
theorem tw2947888194936480277:True:=trivial
theorem tw298833042394682828:True:=trivial
theorem tw3064717090390363497:True:=trivial
theorem tw3091250446591821672:True:=trivial
theorem tw3096029674595270525:True:=trivial
theorem tw3188026853861926697:True:=trivial
theorem tw3206175179049326009:True:=trivial
theorem tw3300081642468315878:True:=trivial
theorem tw3302143670954418308:True:=trivial
theorem tw3306000373307848271:True:=trivial
theorem tw336482529184309605:True:=trivial
theorem tw3372796667661231519:True:=trivial
theorem tw338162271737261326:True:=trivial
theorem tw3429182141939002489:True:=trivial
theorem tw344419258968863745:True:=trivial
theorem tw3501769050253174825:True:=trivial
theorem tw3513356277367873776:True:=trivial
theorem tw3608075517464112446:True:=trivial
theorem tw3697565585491965988:True:=trivial
theorem tw3726411162011715881:True:=trivial
theorem tw3760483086331782810:True:=trivial
theorem tw3760830329367105510:True:=trivial
theorem tw3774721306952607623:True:=trivial
theorem tw3796723347273018290:True:=trivial
theorem tw380819738661922867:True:=trivial
theorem tw3809927776193464283:True:=trivial
theorem tw3812349490400044938:True:=trivial
theorem tw3819861187361979980:True:=trivial
theorem tw3846760456868184951:True:=trivial
theorem tw3914876935391269959:True:=trivial
theorem tw3952398110387210869:True:=trivial
theorem tw3976842082165413261:True:=trivial
theorem tw3982368915142445642:True:=trivial
theorem tw4052107975379883092:True:=trivial
theorem tw411540022213865747:True:=trivial
theorem tw4219777022791064264:True:=trivial
theorem tw4247091736329885030:True:=trivial
theorem tw4269910284261133551:True:=trivial
theorem tw4344977828957968661:True:=trivial
theorem tw434722939285034541:True:=trivial
theorem tw4371259838762689812:True:=trivial
theorem tw4376634250649699716:True:=trivial
theorem tw4385175502632064214:True:=trivial
theorem tw4388524060201208037:True:=trivial
theorem tw4461660254106976123:True:=trivial
theorem tw4664590050260117519:True:=trivial
theorem tw4680195572179072389:True:=trivial
theorem tw4704382078826210284:True:=trivial
theorem tw4716534832893415160:True:=trivial
theorem tw4761271064923033633:True:=trivial
theorem tw4808527234209425417:True:=trivial
theorem tw4819799342815651709:True:=trivial
theorem tw490660028165048133:True:=trivial
theorem tw4950586515870021863:True:=trivial
theorem tw4972094990749032960:True:=trivial
theorem tw4985964808827407626:True:=trivial
theorem tw4989934488343847737:True:=trivial
theorem tw515800880010464114:True:=trivial
theorem tw521508059973489225:True:=trivial
theorem tw5223876942453636013:True:=trivial
theorem tw5236264173805841501:True:=trivial
theorem tw5264386446148321839:True:=trivial
theorem tw5265563391693059827:True:=trivial
theorem tw5392421723164508:True:=trivial
theorem tw5400467484859733759:True:=trivial
theorem tw5402306107077370184:True:=trivial
theorem tw5445068136636296270:True:=trivial
theorem tw5520132200574769803:True:=trivial
theorem tw5547196535401618474:True:=trivial
theorem tw5563875237289241111:True:=trivial
theorem tw5626641316626669410:True:=trivial
theorem tw5627446253430979321:True:=trivial
theorem tw5648361837204212976:True:=trivial
theorem tw5662648863519096623:True:=trivial
theorem tw5746566385256657051:True:=trivial
theorem tw5761415080184701966:True:=trivial
theorem tw5770319356937672979:True:=trivial
theorem tw5775366497808117548:True:=trivial
theorem tw5840836900038662439:True:=trivial
theorem tw5859577788175734196:True:=trivial
theorem tw5886224708043214620:True:=trivial
theorem tw5924021186141048154:True:=trivial
theorem tw5944200187492698627:True:=trivial
theorem tw5966708884758835927:True:=trivial
theorem tw5985730825936811322:True:=trivial
theorem tw6031210530601744691:True:=trivial
theorem tw6076838332476273428:True:=trivial
theorem tw608932827827954762:True:=trivial
theorem tw609665534379086422:True:=trivial
theorem tw6109902287454647083:True:=trivial
theorem tw6156732487883209150:True:=trivial
theorem tw6242915671445198612:True:=trivial
theorem tw6368375227050745485:True:=trivial
theorem tw6489420689452238215:True:=trivial
theorem tw6490413272133479354:True:=trivial
theorem tw6495421326051148380:True:=trivial
theorem tw6508971971816704477:True:=trivial
theorem tw6654314582473483373:True:=trivial
theorem tw6746596431249955377:True:=trivial
theorem tw6782703220710657458:True:=trivial
theorem tw6969953549353033063:True:=trivial
theorem tw7018363285379772655:True:=trivial
theorem tw7018636092664549879:True:=trivial
theorem tw7065170519026335067:True:=trivial
theorem tw7073365339638399436:True:=trivial
theorem tw7082764522494346784:True:=trivial
theorem tw7093824340617526054:True:=trivial
theorem tw7109712088276004325:True:=trivial
theorem tw713237088506489557:True:=trivial
theorem tw719443440989002789:True:=trivial
theorem tw7201749484681036623:True:=trivial
theorem tw7269739959735748426:True:=trivial
theorem tw7300588692004702983:True:=trivial
theorem tw7315023273885550155:True:=trivial
theorem tw742527947681515266:True:=trivial
theorem tw7444191338644647789:True:=trivial
theorem tw7476008186968304254:True:=trivial
theorem tw7509112572490240610:True:=trivial
theorem tw7519650946837429733:True:=trivial
theorem tw7568401719827314205:True:=trivial
theorem tw7568664374981073970:True:=trivial
theorem tw7627927224390253777:True:=trivial
theorem tw7633736388249170602:True:=trivial
theorem tw7726500074843779408:True:=trivial
theorem tw772763684046413681:True:=trivial
theorem tw7865164905640563723:True:=trivial
theorem tw7899985409392791702:True:=trivial
theorem tw8003775458599589652:True:=trivial
theorem tw8006971068275716513:True:=trivial
theorem tw8018396740541895514:True:=trivial
theorem tw8035991916115975559:True:=trivial
theorem tw8041408641699204184:True:=trivial
theorem tw8130824491282166812:True:=trivial
theorem tw8147297849749764213:True:=trivial
theorem tw8171232006286627626:True:=trivial
theorem tw8172421787680238703:True:=trivial
theorem tw8177546098241500455:True:=trivial
theorem tw8191236752248744323:True:=trivial
theorem tw8228119513553502935:True:=trivial
theorem tw8230446584056937421:True:=trivial
theorem tw8344698335154966156:True:=trivial
theorem tw838088113603091142:True:=trivial
theorem tw8385358152485340499:True:=trivial
theorem tw8433050234919539660:True:=trivial
theorem tw8462415574332035489:True:=trivial
theorem tw8464660287521940064:True:=trivial
theorem tw8482232808817011814:True:=trivial
theorem tw8544163050806286795:True:=trivial
theorem tw856679447258734340:True:=trivial
theorem tw8629774020769094585:True:=trivial
theorem tw8632180269042497399:True:=trivial
theorem tw8682548937438634733:True:=trivial
theorem tw8703744760924477094:True:=trivial
theorem tw8703946471217984706:True:=trivial
theorem tw8794063522588075472:True:=trivial
theorem tw8849247580403165683:True:=trivial
theorem tw8902693841794982843:True:=trivial
theorem tw8913162860055572889:True:=trivial
theorem tw8914219361512557023:True:=trivial
theorem tw8915906119081534320:True:=trivial
theorem tw8941181973579140960:True:=trivial
theorem tw8961755084223086780:True:=trivial
theorem tw9003053198661796345:True:=trivial
theorem tw9046787337510986072:True:=trivial
theorem tw9063815837415524698:True:=trivial
theorem tw9095401947557203592:True:=trivial
theorem tw9148814287888941529:True:=trivial
theorem tw9152263215082530117:True:=trivial
theorem tw9210291680022162924:True:=trivial
theorem tw9220467070860384711:True:=trivial
theorem tw9220620753549363700:True:=trivial
theorem tw9241466371999257369:True:=trivial
theorem tw9250877395779648388:True:=trivial
theorem tw9254822122318570358:True:=trivial
theorem tw9281978184624218847:True:=trivial
theorem tw9324634694688599501:True:=trivial
theorem tw9370675256531287753:True:=trivial
theorem tw9374988901316981216:True:=trivial
theorem tw9408323214859328888:True:=trivial
theorem tw9424654955996941593:True:=trivial
theorem tw9538890649388117921:True:=trivial
theorem tw9590751266873958418:True:=trivial
theorem tw9602333485409167681:True:=trivial
theorem tw9684043843361276272:True:=trivial
theorem tw9726711333973587153:True:=trivial
theorem tw9743535958590262834:True:=trivial
theorem tw9777219203760294404:True:=trivial
theorem tw9797747383675362177:True:=trivial
theorem tw9877308034362299924:True:=trivial
theorem tw9912379860518227738:True:=trivial
theorem tw9935381729719996676:True:=trivial
theorem tw9950566714859538940:True:=trivial
theorem tw9971661698332402387:True:=trivial
end PySem.W.Fast
namespace L2
open PySem PySem.Spec PyProof.Rows

noncomputable abbrev Key:=Sum Int Str
noncomputable def TF:Key→Value→Bool
 | .inl k,v=>Value.isInt k v
 | .inr x,v=>Value.isStrOf x v
noncomputable def zcu (w:World):Key→Int
 | .inl k=>hashInt k
 | .inr x=>hashStr w x
theorem yS:∀{k:Key} {v:Value},TF k v=true→(∃i t,k=Sum.inl i∧v=Value.int i t)∨(∃x t,k=Sum.inr x∧v=Value.str x t)
 | .inl i,v,h=>by
  obtain ⟨t,e⟩:=Value.isInt_shape (k:=i) (v:=v) h
  exact .inl ⟨i,t,rfl,e⟩
 | .inr x,v,h=>by
  obtain ⟨t,e⟩:=Value.isStrOf_shape (x:=x) (v:=v) h
  exact .inr ⟨x,t,rfl,e⟩
theorem zdV (i:Int) (t:Tok):TF (.inl i) (.int i t)=true:=by simp [TF,Value.isInt]
theorem zdW (x:Str) (t:Tok):TF (.inr x) (.str x t)=true:=by simp [TF,Value.isStrOf]
theorem zh6 (a b:Int):decide ((Sum.inl a:Key)=Sum.inl b)=(a==b):=by
 by_cases e:a=b
 ·subst e;simp
 ·have h:¬(Sum.inl a:Key)=Sum.inl b:=fun q=>e (Sum.inl.inj q)
  rw [decide_eq_false h]
  exact (beq_eq_false_iff_ne.mpr e).symm
theorem zh7 (a b:Str):decide ((Sum.inr a:Key)=Sum.inr b)=decide (a=b):=by
 by_cases e:a=b
 ·subst e;simp
 ·have h:¬(Sum.inr a:Key)=Sum.inr b:=fun q=>e (Sum.inr.inj q)
  rw [decide_eq_false h,decide_eq_false e]
theorem zh8 (a:Int) (b:Str):decide ((Sum.inl a:Key)=Sum.inr b)=false:=decide_eq_false (fun q=>nomatch q)
theorem zh9 (a:Str) (b:Int):decide ((Sum.inr a:Key)=Sum.inl b)=false:=decide_eq_false (fun q=>nomatch q)

noncomputable def xN (prog:Program) (w:World):PySem.KeyKind prog w Key where
 is:=TF
 hash:=zcu w
 inj:=fun v a b ha hb=>by
  rcases yS ha with ⟨i,t,rfl,rfl⟩|⟨x,t,rfl,rfl⟩
  ·rcases yS hb with ⟨j,u,rfl,e⟩|⟨y,u,rfl,e⟩
   ·injection e with e1 _;rw [e1]
   ·exact nomatch e
  ·rcases yS hb with ⟨j,u,rfl,e⟩|⟨y,u,rfl,e⟩
   ·exact nomatch e
   ·injection e with e1 _;rw [e1]
 byValue:=fun k v h=>by
  rcases yS h with ⟨i,t,rfl,rfl⟩|⟨x,t,rfl,rfl⟩<;>rfl
 pyHash:=fun hv h=>by
  rcases yS hv with ⟨i,t,rfl,rfl⟩|⟨x,t,rfl,rfl⟩
  ·exact wpAny_pyHash_int h
  ·exact wpAny_pyHash_str h
 eqBool:=fun hu hv h=>by
  rcases yS hu with ⟨i,t,rfl,rfl⟩|⟨x,t,rfl,rfl⟩
  ·rcases yS hv with ⟨j,u,rfl,rfl⟩|⟨y,u,rfl,rfl⟩
   ·rw [zh6] at h;exact wpAny_eqBool_int h
   ·rw [zh8] at h;exact SeqAt.EqAt.int_str i t y u _ _ _ _ h
  ·rcases yS hv with ⟨j,u,rfl,rfl⟩|⟨y,u,rfl,rfl⟩
   ·rw [zh9] at h;exact SeqAt.EqAt.str_int x t j u _ _ _ _ h
   ·rw [zh7] at h;exact wpAny_eqBool_str h
 «strs» :=fun k x t v h=>by
  rcases yS h with ⟨i,u,rfl,e⟩|⟨y,u,rfl,e⟩
  ·exact nomatch e
  ·injection e with e1 _
   subst e1
   cases v<;>rfl

theorem zbl (prog:Program) (w:World) (i:Int) (t:Tok):(xN prog w).is (.inl i) (.int i t)=true:=zdV i t
theorem zbm (prog:Program) (w:World) (x:Str) (t:Tok):(xN prog w).is (.inr x) (.str x t)=true:=zdW x t
end L2

namespace L2
open PySem PySem.Spec PyProof.Rows

inductive V where
 |non|bl (b:Bool)|int (i:Int)|str (x:Str)|byt (b:Array UInt8)|flt (b:UInt64)|ref (a:Addr)|ty (n:String)
 deriving DecidableEq

noncomputable def zQ:V→Value→Prop
 | .non,u=>u=Value.none
 | .bl b,u=>u=Value.bool b
 | .int i,u=>∃t,u=Value.int i t
 | .str x,u=>∃t,u=Value.str x t
 | .byt b,u=>∃t,u=Value.bytes b t
 | .flt b,u=>∃t,u=Value.float b t
 | .ref a,u=>u=Value.ref a
 | .ty n,u=>u=Value.type n

noncomputable abbrev zO:List V→List Value→Prop:=Paired zQ
theorem zO.length {xs:List V} {us:List Value} (r:zO xs us):xs.length=us.length:=Paired.length r
theorem zO.get:∀{xs:List V} {us:List Value} {i:Nat} {x:V},zO xs us→xs[i]? =some x→∃u,us[i]? =some u∧zQ x u
 |_,_,_,_,.nil,e=>by simp at e
 |_,_,0,_,.cons r _,e=>by simp at e;subst e;exact ⟨_,rfl,r⟩
 |_,_,i+1,x,.cons _ t,e=>by
  obtain ⟨u,h1,h2⟩:=zO.get (i:=i) (x:=x) t (by simpa using e)
  exact ⟨u,by simpa using h1,h2⟩
theorem zO.append:∀{xs ys:List V} {us ws:List Value},zO xs us→zO ys ws→zO (xs++ys) (us++ws)
 |_,_,_,_,.nil,s=>s
 |_,_,_,_,.cons r t,s=> .cons r (zO.append t s)
theorem zO.take:∀{xs:List V} {us:List Value} (n:Nat),zO xs us→zO (xs.take n) (us.take n)
 |_,_,0,_=> .nil
 |_,_,_+1,.nil=> .nil
 |_,_,n+1,.cons r t=> .cons r (zO.take n t)
theorem zO.drop:∀{xs:List V} {us:List Value} (n:Nat),zO xs us→zO (xs.drop n) (us.drop n)
 |_,_,0,r=>r
 |_,_,_+1,.nil=> .nil
 |_,_,n+1,.cons _ t=>zO.drop n t

noncomputable def Yq:Option V→Option Value→Prop
 |some v,some u=>zQ v u
 |none,none=>True
 |_,_=>False
noncomputable def KV {κ:Type}:List (κ×V)→List (κ×Value)→Prop:=Paired fun (p:κ×V) (q:κ×Value)=>p.1=q.1∧zQ p.2 q.2

noncomputable def kV:Key→V
 | .inl i=> .int i
 | .inr x=> .str x

inductive NK where
 |int (i:Int)|str (x:Str)|tup (l:List NK)
noncomputable instance:DecidableEq NK:=fun a b=>Classical.propDecidable (a=b)
mutual
noncomputable def YN (w:World):NK→Int
 | .int i=>zcu w (.inl i)
 | .str x=>zcu w (.inr x)
 | .tup l=>reduceHash (Builtin.Tuple.tupleHashOf (ZJ w l))
noncomputable def ZJ (w:World):List NK→List Int
 |[]=>[]
 |k::r=>YN w k::ZJ w r
end
mutual
noncomputable def wZ:NK→Nat
 | .int _=>0
 | .str _=>0
 | .tup l=>ZZ l+1
noncomputable def ZZ:List NK→Nat
 |[]=>0
 |k::r=>max (wZ k) (ZZ r)
end
noncomputable def zia (w:World) (x:NK×Addr×Value):DictEntry:={hash:=YN w x.1,key:= .ref x.2.1,val:=x.2.2}
inductive HO where
 /-- a list -/
 |lst (xs:List V)
 /-- a tuple (never changes) -/
 |tup (xs:List V)
 /-- a dict whose keys are ints and texts; one whose keys are tuples of ints and texts (the empty one is both) -/
 |dK (kvs:List (Key×V))|dT (kvs:List (List Key×V))
 /-- a dict whose keys are tuples of any depth: key, where it stands, value -/
 |dN (ks:List (NK×Addr×V))
 /-- a set of ints: its members, its size -/
 |set (S:Int→Bool) (n:Nat)
 /-- an instance of the class at C, its dict at dx, its attributes -/
 |ins (C dx:Addr) (fs:List (Str×V))
 /-- the dict of the instance at x -/
 |own (x:Addr)
 /-- the dict of an exception -/
 |xd (fs:List (Str×V))
 /-- a bound method, f of x -/
 |met (f x:Addr)
 /-- a range object lo, lo + 1, .. below hi -/
 |rng (lo hi:Int)
 /-- a thing that is known to the object (the script; a dict while a loop walks it): read, never written while it is so -/
 |frz (o:Obj) (u:HO)
 /-- a code object's table -/
 |tbl (ps:Array Value)
 /-- any other thing, by what is true of its one object (a def of one's own: SetO a S n := HO.ext fun h => ..) -/
 |ext (φ:Heap→Prop)

noncomputable abbrev Hp:=Addr→Option HO
noncomputable def upd (H:Hp) (a:Addr) (o:HO):Hp:=fun b=>if b=a then some o else H b
theorem zw {H:Hp} {a:Addr} {o:HO}:upd H a o a=some o:=by unfold upd;rw [if_pos rfl]
theorem zm {H:Hp} {a b:Addr} {o:HO} (h:b≠a):upd H a o b=H b:=by unfold upd;rw [if_neg h]
theorem zi4 {H:Hp} {a b:Addr} {o u:HO} (h:H a=some o) (h':H b=some u) (d:o≠u):a≠b:=by
 intro e;subst e;rw [h] at h';exact d (Option.some.inj h')
theorem vc {H:Hp} {a b:Addr} {o:HO} (h:H a=some o) (h':H b=none):a≠b:=by
 intro e;subst e;rw [h] at h';cases h'

noncomputable def We (h:Heap) (a:Addr) (items:Array Value):Prop:=∃o,h.get? a=some o∧o.cls= .type "tuple"∧∃n,o.data= .seq items n∧o.dict=none
theorem We.tup {h:Heap} {a:Addr} {items:Array Value} (x:We h a items):IsTup h a items:=by
 obtain ⟨o,e,c,n,d,_⟩:=x
 exact ⟨o,e,c,n,d⟩
theorem We.new (h:Heap) (items:Array Value):We (h.push {cls:= .type "tuple",data:= .seq items}) h.objs.size items:=⟨_,Heap.get?_push_size _ rfl,rfl,_,rfl,rfl⟩
section
variable (P:Program) (w:World)
noncomputable def yI (H:Hp) (h:Heap) (a:Addr):HO→Prop
 | .lst xs=>xs.length≤sizeLine∧∃(its:List Value) (n:Nat),zO xs its∧h.get? a=some {cls:= .type "list",data:= .seq its.toArray n}
 | .tup xs=>xs.length≤sizeLine∧∃its:List Value,zO xs its∧We h a its.toArray
 | .dK kvs=>kvs.length≤sizeLine∧(a==sysModules)=false∧∃vs,KV kvs vs∧h.DictOf (xN P w) a vs
 | .dT kvs=>kvs.length≤sizeLine∧(a==sysModules)=false∧∃xs:List (List Key×Addr×Value),
   Paired (fun (p:List Key×V) (q:List Key×Addr×Value)=>p.1=q.1∧H q.2.1=some (.tup (p.1.map kV))∧zQ p.2 q.2.2) kvs xs∧
   ∃o es ep,h.get? a=some o∧o.ExactDict∧o.data= .dict es ep∧es.toList=xs.map (entryOfKey (tupleKind (xN P w)))∧(xs.map (·.1)).Nodup
 | .dN ks=>ks.length≤sizeLine∧(a==sysModules)=false∧∃xs:List (NK×Addr×Value),Paired (fun (p:NK×Addr×V) (q:NK×Addr×Value)=>p.1=q.1∧p.2.1=q.2.1∧zQ p.2.2 q.2.2) ks xs∧
   ∃o es ep,h.get? a=some o∧o.ExactDict∧o.data= .dict es ep∧es.toList=xs.map (zia w)∧(xs.map (·.1)).Nodup
 | .set S n=>h.SetOf (intKind P w) a S n
 | .ins C dx fs=>H dx=some (.own a)∧fs.length≤1000∧dx≠a∧h.get? a=some (PySem.W.instObj C dx)∧
   ∃mA,h.Ns1 dx mA∧(∀f,Yq (fs.lookup f) (mA f))∧PySem.Within mA (fs.map (·.1))
 | .own _=>∃o,h.get? a=some o
 | .xd fs=>∃mA,h.Ns1 a mA∧∀f,Yq (fs.lookup f) (mA f)
 | .rng lo hi=>∃t u v,h.get? a=some {cls:= .type "range",data:= .fields #[.int lo t,.int hi u,.int 1 v]}
 | .frz o u=>h.get? a=some o∧yI H h a u
 | .tbl ps=>h.get? a=some {cls:= .none,data:= .fields ps}
 | .met f x=>h.get? a=some (PySem.W.methodObj (.ref f) (.ref x))
 | .ext φ=>φ h∧(∃o,h.get? a=some o)∧∀h1 h2:Heap,φ h1→(∀o,h1.get? a=some o→h2.get? a=some o)→φ h2
noncomputable def HOk (H:Hp) (h:Heap):Prop:=∀a o,H a=some o→yI P w H h a o
end

section
variable {P:Program} {w:World} {H H':Hp} {h h':Heap} {a:Addr} {o:HO}
theorem yI.lt (x:yI P w H h a o):a<h.objs.size:=by
 cases o with
 |lst xs=>obtain ⟨_,_,_,_,e⟩:=x;exact Heap.lt_size e
 |tup xs=>obtain ⟨_,_,_,p⟩:=x;exact p.tup.lt
 |dK kvs=>obtain ⟨_,_,_,_,o,_,_,e,_⟩:=x;exact Heap.lt_size e
 |dT kvs=>obtain ⟨_,_,_,_,o,_,_,e,_⟩:=x;exact Heap.lt_size e
 |dN ks=>obtain ⟨_,_,_,_,o,_,_,e,_⟩:=x;exact Heap.lt_size e
 |set S n=>obtain ⟨o,_,_,_,e,_⟩:=x;exact Heap.lt_size e
 |ins C dx fs=>obtain ⟨_,_,_,e,_⟩:=x;exact Heap.lt_size e
 |own y=>obtain ⟨_,e⟩:=x;exact Heap.lt_size e
 |xd fs=>obtain ⟨_,⟨_,_,_,e,_⟩,_⟩:=x;exact Heap.lt_size e
 |rng lo hi=>obtain ⟨_,_,_,e⟩:=x;exact Heap.lt_size e
 |frz ob u=>obtain ⟨e,_⟩:=x;exact Heap.lt_size e
 |tbl ps=>exact Heap.lt_size (show h.get? a=some _ from x)
 |met f y=>exact Heap.lt_size (show h.get? a=some _ from x)
 |ext φ=>obtain ⟨_,⟨_,e⟩,_⟩:=x;exact Heap.lt_size e
theorem Paired.mapP {α β:Type} {F G:α→β→Prop}:∀{l₁:List α} {l₂:List β},Paired F l₁ l₂→(∀a b,F a b→G a b)→Paired G l₁ l₂
 |_,_,.nil,_=> .nil
 |_,_,.cons r t,f=> .cons (f _ _ r) (Paired.mapP t f)
theorem yI.stay (x:yI P w H h a o) (k:∀b u,(b=a∨H b=some (.own a))→h.get? b=some u→h'.get? b=some u)
  (ho:∀b,H b=some (.own a)→H' b=some (.own a)) (ht:∀b xs,H b=some (.tup xs)→H' b=some (.tup xs)):yI P w H' h' a o:=by
 induction o with
 |lst xs=>obtain ⟨z,its,n,r,e⟩:=x;exact ⟨z,its,n,r,k _ _ (.inl rfl) e⟩
 |tup xs=>obtain ⟨z,its,r,ob,e,c⟩:=x;exact ⟨z,its,r,ob,k _ _ (.inl rfl) e,c⟩
 |dK kvs=>obtain ⟨z,y,vs,r,ob,es,ep,e,c⟩:=x;exact ⟨z,y,vs,r,ob,es,ep,k _ _ (.inl rfl) e,c⟩
 |dT kvs=>
  obtain ⟨z,y,xs,r,ob,es,ep,e,c⟩:=x
  exact ⟨z,y,xs,Paired.mapP r fun p q z=>⟨z.1,ht _ _ z.2.1,z.2.2⟩,ob,es,ep,k _ _ (.inl rfl) e,c⟩
 |dN ks=>obtain ⟨z,y,xs,r,ob,es,ep,e,c⟩:=x;exact ⟨z,y,xs,r,ob,es,ep,k _ _ (.inl rfl) e,c⟩
 |set S n=>obtain ⟨ob,es,ep,t,e,c⟩:=x;exact ⟨ob,es,ep,t,k _ _ (.inl rfl) e,c⟩
 |ins C dx fs=>
  obtain ⟨d,z,ne,e,mA,⟨od,es,ep,e2,c⟩,r⟩:=x
  exact ⟨ho _ d,z,ne,k _ _ (.inl rfl) e,mA,⟨od,es,ep,k _ _ (.inr d) e2,c⟩,r⟩
 |own y=>obtain ⟨ob,e⟩:=x;exact ⟨ob,k _ _ (.inl rfl) e⟩
 |xd fs=>obtain ⟨mA,⟨od,es,ep,e,c⟩,r⟩:=x;exact ⟨mA,⟨od,es,ep,k _ _ (.inl rfl) e,c⟩,r⟩
 |rng lo hi=>obtain ⟨t,u,v,e⟩:=x;exact ⟨t,u,v,k _ _ (.inl rfl) e⟩
 |frz ob u ih=>obtain ⟨e,q⟩:=x;exact ⟨k _ _ (.inl rfl) e,ih q⟩
 |tbl ps=>
  have e:h.get? a=some {cls:= .none,data:= .fields ps}:=x
  show h'.get? a=some {cls:= .none,data:= .fields ps}
  exact k a _ (.inl rfl) e
 |met f y=>
  have e:h.get? a=some (PySem.W.methodObj (.ref f) (.ref y)):=x
  show h'.get? a=some (PySem.W.methodObj (.ref f) (.ref y))
  exact k a _ (.inl rfl) e
 |ext φ=>obtain ⟨p,⟨o,e⟩,st⟩:=x;exact ⟨st _ _ p fun o q=>k _ _ (.inl rfl) q,⟨o,k _ _ (.inl rfl) e⟩,st⟩
theorem HOk.lt (x:HOk P w H h) (e:H a=some o):a<h.objs.size:=(x a o e).lt
theorem HOk.fresh (x:HOk P w H h) (e:h.objs.size≤a):H a=none:=by
 cases q:H a with
 |none=>rfl
 |some u=>exact absurd (Nat.lt_of_lt_of_le (x.lt q) e) (Nat.lt_irrefl _)
theorem HOk.kept (x:HOk P w H h) (k:∀b u,h.get? b=some u→h'.get? b=some u):HOk P w H h':=fun a o e=>
 (x a o e).stay (fun b u _ q=>k b u q) (fun _ q=>q) fun _ _ q=>q
theorem HOk.laid (x:HOk P w H h) (k:∀b u,h.get? b=some u→h'.get? b=some u) (hp:h.objs.size≤a) (new:yI P w (upd H a o) h' a o):HOk P w (upd H a o) h':=fun b u e=>by
 have hn:=x.fresh hp
 by_cases hb:b=a
 ·subst hb;rw [zw] at e;cases e;exact new
 ·rw [zm hb] at e
  exact (x b u e).stay (fun c v _ q=>k c v q) (fun c q=>by rw [zm (vc q hn)];exact q) fun c xs q=>by rw [zm (vc q hn)];exact q
end

noncomputable def Rd (H:Hp) (a:Addr) (u:HO):Prop:=H a=some u∨∃o,H a=some (.frz o u)
theorem Rd.ok {P:Program} {w:World} {H:Hp} {h:Heap} {a:Addr} {u:HO} (r:Rd H a u) (x:HOk P w H h):yI P w H h a u:=by
 rcases r with r|⟨o,r⟩
 ·exact x a u r
 ·obtain ⟨_,q⟩:=x a _ r
  exact q
noncomputable def Mut:Option HO→Prop
 |some (.lst _)=>True
 |some (.dK _)=>True
 |some (.dT _)=>True
 |some (.dN _)=>True
 |some (.set _ _)=>True
 |some (.ins _ _ _)=>True
 |some (.ext _)=>True
 |_=>False
section
variable {P:Program} {w:World} {H:Hp} {h h':Heap} {x e:Addr} {o':HO}
theorem HOk.write (ok:HOk P w H h) (mu:Mut (H x)) (he:e=x∨H e=some (.own x)) (k:∀b u,b≠e→h.get? b=some u→h'.get? b=some u) (heo:∃u,h'.get? e=some u)
  (new:yI P w (upd H x o') h' x o'):HOk P w (upd H x o') h':=fun b u q=>by
 have nown:∀c y,H c=some (.own y)→c≠x:=fun c y r z=>by subst z;rw [r] at mu;exact mu
 have ntup:∀c xs,H c=some (.tup xs)→c≠x:=fun c xs r z=>by subst z;rw [r] at mu;exact mu
 by_cases hb:b=x
 ·subst hb;rw [zw] at q;cases q;exact new
 ·rw [zm hb] at q
  by_cases hbe:b=e
  ·have q':H b=some (.own x):=by
    rcases he with z|z
    ·exact absurd (hbe.trans z) hb
    ·rw [hbe];exact z
   rw [q] at q';cases q'
   obtain ⟨v,hv⟩:=heo
   exact ⟨v,by rw [hbe];exact hv⟩
  ·refine (ok b u q).stay (fun c v hc r=>k c v ?_ r) (fun c r=>by rw [zm (nown c b r)];exact r) fun c xs r=>by rw [zm (ntup c xs r)];exact r
   rcases hc with rfl|hc
   ·exact hbe
   ·rintro rfl
    rcases he with z|z
    ·exact nown c b hc z
    ·rw [hc] at z;cases z;exact hb rfl
end

structure Un (fs ex:List Addr) (H H':Hp) (h h':Heap):Prop where
 keep:∀b o,h.get? b=some o→H b=none→b∉fs→b∉ex→h'.get? b=some o
 slot:∀b o,h.get? b=some o→H b=none→b∈fs→b∉ex→∃sl,h'.get? b=some {o with slots:=sl}
 free:∀b o,h.get? b=some o→H b=none→b∉ex→H' b=none
 there:∀b o,h.get? b=some o→b∉ex→∃o',h'.get? b=some o'
 tups:∀b xs,H b=some (.tup xs)→H' b=some (.tup xs)
 frzs:∀b o u,H b=some (.frz o u)→H' b=some (.frz o u)
 tbls:∀b ps,H b=some (.tbl ps)→∃more,H' b=some (.tbl (ps++more))
section
variable {fs fs' ex ex':List Addr} {H H1 H2:Hp} {h h1 h2 h':Heap} {a x e:Addr} {o:HO}
theorem Un.any (u:Un fs ex H H1 h h1) {b:Addr} {ob:Obj} (q:h.get? b=some ob) (n:H b=none) (hx:b∉ex):∃sl,h1.get? b=some {ob with slots:=sl}:=by
 by_cases hb:b∈fs
 ·exact u.slot b ob q n hb hx
 ·exact ⟨ob.slots,u.keep b ob q n hb hx⟩
theorem Un.trans (a:Un fs ex H H1 h h1) (b:Un fs ex H1 H2 h1 h2):Un fs ex H H2 h h2 where
 keep:=fun c ob q n hc hx=>b.keep c ob (a.keep c ob q n hc hx) (a.free c ob q n hx) hc hx
 slot:=fun c ob q n hc hx=>by
  obtain ⟨sl,e1⟩:=a.slot c ob q n hc hx
  obtain ⟨sl',e2⟩:=b.slot c _ e1 (a.free c ob q n hx) hc hx
  exact ⟨sl',e2⟩
 free:=fun c ob q n hx=>by
  obtain ⟨o',e1⟩:=a.there c ob q hx
  exact b.free c o' e1 (a.free c ob q n hx) hx
 there:=fun c ob q hx=>by
  obtain ⟨o',e1⟩:=a.there c ob q hx
  exact b.there c o' e1 hx
 tups:=fun c xs q=>b.tups c xs (a.tups c xs q)
 frzs:=fun c ob xs q=>b.frzs c ob xs (a.frzs c ob xs q)
 tbls:=fun c ps q=>by
  obtain ⟨m1,e1⟩:=a.tbls c ps q
  obtain ⟨m2,e2⟩:=b.tbls c _ e1
  exact ⟨m1++m2,by rw [e2,Array.append_assoc]⟩
theorem Un.kept (k:∀b u,h.get? b=some u→h'.get? b=some u):Un fs ex H H h h':=
 ⟨fun b ob q _ _ _=>k b ob q,fun b ob q _ _ _=>⟨ob.slots,k b ob q⟩,fun _ _ _ n _=>n,fun b ob q _=>⟨ob,k b ob q⟩,fun _ _ q=>q,fun _ _ _ q=>q,fun _ ps q=>⟨#[],by rw [q];simp⟩⟩
theorem Un.refl:Un fs ex H H h h:=Un.kept fun _ _ q=>q
theorem Un.laid (k:∀b u,h.get? b=some u→h'.get? b=some u) (hp:h.objs.size≤a) (hn:H a=none):Un fs ex H (upd H a o) h h' where
 keep:=fun b u q _ _ _=>k b u q
 slot:=fun b u q _ _ _=>⟨u.slots,k b u q⟩
 free:=fun b u q n _=>by rw [zm (Nat.ne_of_lt (Nat.lt_of_lt_of_le (Heap.lt_size q) hp))];exact n
 there:=fun b u q _=>⟨u,k b u q⟩
 tups:=fun b xs q=>by rw [zm (vc q hn)];exact q
 frzs:=fun b u xs q=>by rw [zm (vc q hn)];exact q
 tbls:=fun b ps q=>⟨#[],by rw [zm (vc q hn),q];simp⟩
theorem Un.write (mu:Mut (H x)) (he:e=x∨H e=some (.own x)) (k:∀b u,b≠e→h.get? b=some u→h'.get? b=some u) (heo:∃u,h'.get? e=some u):Un fs ex H (upd H x o) h h':=by
 have hx:∀b,H b=none→b≠x:=fun b n z=>by subst z;rw [n] at mu;exact mu
 have hb:∀b,H b=none→b≠e:=fun b n z=>by
  subst z
  rcases he with r|r
  ·exact hx b n r
  ·rw [n] at r;cases r
 have hm:∀b u,H b=some u→¬Mut (some u)→b≠x:=fun b u q nm z=>by subst z;rw [q] at mu;exact nm mu
 refine ⟨fun b u q n _ _=>k b u (hb b n) q,fun b u q n _ _=>⟨u.slots,k b u (hb b n) q⟩,fun b u q n _=>by rw [zm (hx b n)];exact n,fun b u q _=> ?_,
  fun b xs q=>by rw [zm (hm b _ q fun z=>z)];exact q,fun b u xs q=>by rw [zm (hm b _ q fun z=>z)];exact q,fun b ps q=>⟨#[],by rw [zm (hm b _ q fun z=>z),q];simp⟩⟩
 by_cases hbe:b=e
 ·subst hbe;exact heo
 ·exact ⟨u,k b u hbe q⟩
end

noncomputable def trk (h:Heap) (H:Hp):List Addr:=(List.range h.objs.size).filter fun a=>(H a).isSome
noncomputable def zat (h:Heap) (H:Hp):Heap:=PySem.W.hideAll h (trk h H)
theorem zdX (h:Heap) (H:Hp):(zat h H).objs.size=h.objs.size:=PySem.W.hideAll_size _ _
theorem zeB {h:Heap} {H:Hp} {b:Addr} {o:Obj} (e:h.get? b=some o) (n:H b=none):(zat h H).get? b=some o:=
 PySem.W.hideAll_get _ e fun hm=>by
  have q:(H b).isSome=true:=(List.mem_filter.mp hm).2
  rw [n] at q;simp at q
theorem zgr {h:Heap} {H:Hp} {b:Addr} {o:Obj} (e:(zat h H).get? b=some o):h.get? b=some o∧H b=none:=by
 have e':h.get? b=some o:=PySem.W.of_hideAll (trk h H) e
 refine ⟨e',?_⟩
 cases q:H b with
 |none=>rfl
 |some x=>
  have hm:b∈trk h H:=List.mem_filter.mpr ⟨List.mem_range.mpr (Heap.lt_size e'),by simp [q]⟩
  have z:(zat h H).get? b=none:=PySem.W.hideAll_none (trk h H) hm
  rw [z] at e;cases e

end L2

namespace L2
open PySem PySem.Spec PyProof.Rows

structure Mod (K:PySem.W.Frag) (mg:Str→Option Value) (base:Heap):Prop where
 kin:K.In base
 glob:base.Ns mainGlobals mg
 blt:∃mb,base.Ns builtinsNs mb∧∀x:Str,x≠"__name__"→mb x=bootBuiltins x
 nolimit:base.NoLimit
 bmn:∃bm ob,mg "__builtins__"=some (.ref bm)∧bm≠builtinsNs∧base.get? bm=some ob∧ob.cls= .type "module"∧ob.dict=some builtinsNs∧ob.data= .plain

/-- the context: a def's body (or a comprehension's block) running. base: fixed through the whole law; s₀, H₀: the entry; outer: the frames whose slots others may change (a def's callers); stack: all frames that run;
   ex: iterators that were made ahead of the entry and are walked here (a comprehension's); fn: the names whose cells were made at the entry (a def: all; a comprehension's block: its own); calm: not within an except suite; pn: pins that every state bears; xe: what is wanted of an exception that leaves the code -/
structure Cx where
 prog:Program
 w:World
 K:PySem.W.Frag
 mg:Str→Option Value
 base:Heap
 A:Around
 N:List Str
 s₀:Shared
 H₀:Hp
 env:Env
 outer:List Env
 stack:List Env
 ex:List Addr
 fn:Str→Bool
 zn:Str→Bool
 calm:Bool
 pn:List (Addr×Obj)
 xe:Value→Shared→Prop
noncomputable def frs (l:List Env):List Addr:=l.filterMap (·.frame)
noncomputable abbrev Cx.fs (X:Cx):List Addr:=frs X.outer

noncomputable def Vis (sc:Scope) (x:Str):Prop:=sc.names.lookup x=some .local∨sc.names.lookup x=some .cell∨sc.names.lookup x=some .free
noncomputable def Loc (sc:Scope) (x:Str):Prop:=sc.names.lookup x=some .local∨sc.names.lookup x=some .cell
noncomputable def zkb (env:Env) (h:Heap) (m:Str→Option Value) (x:Str) (u:Value):Prop:=
 (env.kindOf x=some .local∧m x=some u)∨((env.kindOf x=some .cell∨env.kindOf x=some .free)∧∃c,env.cells.lookup x=some c∧h.IsCell c (some u))

structure Cx.Ok (X:Cx):Prop where
 mod:Mod X.K X.mg X.base
 kind:X.env.scope.kind= .function
 glob:X.env.globals=mainGlobals
 blt:X.env.builtins=builtinsNs
 above:X.s₀.heap.objs.size≤X.env.locals
 inj:∀x y c,X.env.cells.lookup x=some c→X.env.cells.lookup y=some c→x=y
 has:∀x,(X.env.kindOf x=some .cell∨X.env.kindOf x=some .free)→∃c,X.env.cells.lookup x=some c
 cab:∀x c,(X.fn x=true∨X.zn x=true)→X.env.cells.lookup x=some c→X.s₀.heap.objs.size≤c
 hd:X.calm=true→X.A.handled=none
 frames:X.A.frames=some X.stack
 stk:X.stack=X.outer∨(X.stack=X.env::X.outer∧X.env.frame=some X.env.locals)
 exf:∀b∈X.ex,b≠X.env.locals∧∀x c,X.env.cells.lookup x=some c→c≠b
 bs:∀b o,X.base.get? b=some o→X.s₀.heap.get? b=some o∧X.H₀ b=none
 bsz:X.base.objs.size≤X.s₀.heap.objs.size
 noex:∀b o,X.base.get? b=some o→b∉X.ex
 exfs:∀b∈X.ex,b∉X.fs
 funs:X.s₀.heap.FunFrames X.base X.outer
 frf:∀b∈X.fs,X.H₀ b=none

structure Inv (X:Cx) (pins:List (Addr×Obj)) (σ:List (Option V)) (H:Hp) (s:Shared):Prop where
 ok:X.Ok
 os:s.os=X.s₀.os
 bare:AllBare s.gens
 base:Un X.fs X.ex X.H₀ H X.s₀.heap s.heap
 loc:∃m,s.heap.Ns X.env.locals m∧∀(i:Nat) (x:Str) (v:V),X.N[i]? =some x→σ[i]? =some (some v)→Vis X.env.scope x→∃u,zQ v u∧zkb X.env s.heap m x u
 cell:∀x c,X.env.cells.lookup x=some c→∃v,s.heap.IsCell c v
 free:H X.env.locals=none
 freeC:∀x c,X.env.cells.lookup x=some c→H c=none∨(X.fn x=false∧∃o,H c=some (.frz o (.own 0)))
 pin:∀p∈X.pn++pins,s.heap.get? p.1=some p.2∧H p.1=none∧p.1≠X.env.locals∧p.1∉X.fs∧∀v,p.2.data≠ .cell v
 hok:HOk X.prog X.w H s.heap
 len:σ.length=X.N.length

section
variable {X:Cx} {pins:List (Addr×Obj)} {σ:List (Option V)} {H H':Hp} {s:Shared} {h':Heap}

theorem Cx.Ok.nofr (ok:X.Ok) {b:Addr} {o:Obj} (e:X.base.get? b=some o):b∉X.fs:=fun hb=>by
 have:=(ok.funs.mem hb).1
 rw [e] at this;cases this
theorem Inv.bs (I:Inv X pins σ H s):∀b o,X.base.get? b=some o→s.heap.get? b=some o∧H b=none:=fun b o e=>
 ⟨I.base.keep b o (I.ok.bs b o e).1 (I.ok.bs b o e).2 (I.ok.nofr e) (I.ok.noex b o e),I.base.free b o (I.ok.bs b o e).1 (I.ok.bs b o e).2 (I.ok.noex b o e)⟩
theorem Inv.bk (I:Inv X pins σ H s):∀b o,X.base.get? b=some o→s.heap.get? b=some o:=fun b o e=>(I.bs b o e).1
theorem Inv.mod (I:Inv X pins σ H s):Mod X.K X.mg X.base:=I.ok.mod
theorem Inv.kIn (I:Inv X pins σ H s):X.K.In s.heap:=I.ok.mod.kin.keeps I.bk
theorem Inv.lt (I:Inv X pins σ H s):X.env.locals<s.heap.objs.size:=let ⟨_,hn,_⟩:=I.loc;hn.lt
theorem Inv.sz (I:Inv X pins σ H s):X.s₀.heap.objs.size≤s.heap.objs.size:=Nat.le_trans I.ok.above (Nat.le_of_lt I.lt)
theorem Inv.nofs (I:Inv X pins σ H s) {a:Addr} (h:s.heap.objs.size≤a):a∉X.fs:=fun hb=>by
 obtain ⟨_,o,ho,_⟩:=I.ok.funs.mem hb
 exact absurd (Nat.lt_of_lt_of_le (Heap.lt_size ho) (Nat.le_trans I.sz h)) (Nat.lt_irrefl _)
theorem Inv.cne (I:Inv X pins σ H s):∀x c,X.env.cells.lookup x=some c→c≠X.env.locals:=fun x c e z=>by
 obtain ⟨v,o,ho,hd⟩:=I.cell x c e
 obtain ⟨m,⟨o',es,ep,ho',hd',_⟩,_⟩:=I.loc
 rw [z,ho'] at ho;cases ho;rw [hd'] at hd;cases hd
theorem Inv.funs (I:Inv X pins σ H s):s.heap.FunFrames X.base X.outer:=by
 have all:∀(l:List Env),(∀b∈frs l,b∈X.fs)→X.s₀.heap.FunFrames X.base l→s.heap.FunFrames X.base l:=by
  intro l
  induction l with
  |nil=>intro _ _;trivial
  |cons env r ih=>
   intro hs hl
   obtain ⟨hk,⟨L,o,hf,hn,ho,hd⟩,hr⟩:=hl
   have hL:L∈X.fs:=hs L (by unfold frs;rw [List.filterMap_cons,hf];exact List.mem_cons_self)
   obtain ⟨sl,e⟩:=I.base.slot L o ho (I.ok.frf L hL) hL fun z=>I.ok.exfs L z hL
   exact ⟨hk,⟨L,_,hf,hn,e,hd⟩,ih (fun b hb=>hs b (by unfold frs;rw [List.filterMap_cons,hf];exact List.mem_cons_of_mem _ hb)) hr⟩
 exact all X.outer (fun _ hb=>hb) I.ok.funs

theorem Inv.stack (I:Inv X pins σ H s):s.heap.FunFrames X.base X.stack:=by
 rcases I.ok.stk with e|⟨e,hf⟩
 ·rw [e];exact I.funs
 ·rw [e]
  obtain ⟨m,hn,_⟩:=I.loc
  refine .cons (by rw [I.ok.kind];decide) hf hn ?_ I.funs
  exact Heap.get?_none_of_le (Nat.le_trans I.ok.bsz I.ok.above)
theorem Inv.stkSub (I:Inv X pins σ H s):∀b∈frs X.stack,b∈X.env.locals::X.fs:=fun b hb=>by
 rcases I.ok.stk with e|⟨e,hf⟩
 ·rw [e] at hb;exact List.mem_cons_of_mem _ hb
 ·rw [e] at hb
  unfold frs at hb
  rw [List.filterMap_cons,hf] at hb
  exact hb
theorem Inv.stkFree (I:Inv X pins σ H s):∀b∈frs X.stack,H b=none:=fun b hb=>by
 rcases List.mem_cons.mp (I.stkSub b hb) with e|hb
 ·rw [e];exact I.free
 ·obtain ⟨_,o,ho,_⟩:=I.ok.funs.mem hb
  exact I.base.free b o ho (I.ok.frf b hb) fun z=>I.ok.exfs b z hb

theorem Inv.step {g':Array GenState} {t':Nat} {d':Drawn} {ch:List Addr} (I:Inv X pins σ H s)
  (hch:∀b∈ch,(b∈X.ex∨X.s₀.heap.objs.size≤b)∧b≠X.env.locals∧(∀x c,X.env.cells.lookup x=some c→c≠b)∧∀p∈X.pn++pins,p.1≠b)
  (keep:∀b o,b≠X.env.locals→b∉X.fs→b∉ch→s.heap.get? b=some o→H b=none→h'.get? b=some o)
  (slot:∀b o,b≠X.env.locals→b∈X.fs→b∉ch→s.heap.get? b=some o→H b=none→∃sl,h'.get? b=some {o with slots:=sl}) (free:∀b o,b∉ch→s.heap.get? b=some o→H b=none→H' b=none)
  (there:∀b o,b∉ch→s.heap.get? b=some o→∃o',h'.get? b=some o')
  (tups:∀b xs,H b=some (.tup xs)→H' b=some (.tup xs)) (frzs:∀b o u,H b=some (.frz o u)→H' b=some (.frz o u)) (tbls:∀b ps,H b=some (.tbl ps)→∃more,H' b=some (.tbl (ps++more)))
  (ns:∀m,s.heap.Ns X.env.locals m→h'.Ns X.env.locals m) (hok:HOk X.prog X.w H' h') (hg:AllBare g'):
  Inv X pins σ H' {s with heap:=h',gens:=g',drawn:=d',toks:=t'}:=by
 have neL:∀b o,X.s₀.heap.get? b=some o→b≠X.env.locals:=fun b o e=>Nat.ne_of_lt (Nat.lt_of_lt_of_le (Heap.lt_size e) I.ok.above)
 have neC:∀b o,X.s₀.heap.get? b=some o→b∉X.ex→b∉ch:=fun b o e hx hb=>by
  rcases (hch b hb).1 with z|z
  ·exact hx z
  ·exact absurd (Nat.lt_of_lt_of_le (Heap.lt_size e) z) (Nat.lt_irrefl _)
 have cellK:∀x c,X.env.cells.lookup x=some c→∀v,s.heap.IsCell c v→h'.IsCell c v:=fun x c e v ⟨o,ho,hd⟩=>by
  have nch:c∉ch:=fun z=>(hch c z).2.2.1 x c e rfl
  rcases I.freeC x c e with hf|⟨_,o',hf⟩
  ·by_cases hc:c∈X.fs
   ·obtain ⟨sl,q⟩:=slot c o (I.cne x c e) hc nch ho hf
    exact ⟨_,q,hd⟩
   ·exact ⟨o,keep c o (I.cne x c e) hc nch ho hf,hd⟩
  ·have h1:=(I.hok c _ hf).1
   rw [ho] at h1
   cases h1
   exact ⟨o,(hok c _ (frzs c _ _ hf)).1,hd⟩
 refine ⟨I.ok,I.os,hg,⟨fun b o e n hb hx=> ?_,fun b o e n hb hx=> ?_,fun b o e n hx=> ?_,fun b o e hx=> ?_,fun b xs e=>tups b xs (I.base.tups b xs e),fun b o xs e=>frzs b o xs (I.base.frzs b o xs e),fun b ps e=> ?_⟩,?_,fun x c e=> ?_,?_,fun x c e=> ?_,fun p hp=> ?_,hok,I.len⟩
 ·exact keep b o (neL b o e) hb (neC b o e hx) (I.base.keep b o e n hb hx) (I.base.free b o e n hx)
 ·obtain ⟨sl,e1⟩:=I.base.slot b o e n hb hx
  obtain ⟨sl',e2⟩:=slot b _ (neL b o e) hb (neC b o e hx) e1 (I.base.free b o e n hx)
  exact ⟨sl',e2⟩
 ·obtain ⟨o',e1⟩:=I.base.there b o e hx
  exact free b o' (neC b o e hx) e1 (I.base.free b o e n hx)
 ·obtain ⟨o',e1⟩:=I.base.there b o e hx
  exact there b o' (neC b o e hx) e1
 ·obtain ⟨m1,e1⟩:=I.base.tbls b ps e
  obtain ⟨m2,e2⟩:=tbls b _ e1
  exact ⟨m1++m2,by rw [e2,Array.append_assoc]⟩
 ·obtain ⟨m,hn,hl⟩:=I.loc
  refine ⟨m,ns m hn,fun i x v e1 e2 e3=> ?_⟩
  obtain ⟨u,r,l⟩:=hl i x v e1 e2 e3
  refine ⟨u,r,?_⟩
  rcases l with l|⟨k,c,e,z⟩
  ·exact .inl l
  ·exact .inr ⟨k,c,e,cellK x c e _ z⟩
 ·obtain ⟨v,z⟩:=I.cell x c e
  exact ⟨v,cellK x c e v z⟩
 ·obtain ⟨m,⟨o,_,_,ho,_⟩,_⟩:=I.loc
  exact free _ o (fun z=>(hch _ z).2.1 rfl) ho I.free
 ·obtain ⟨v,o,ho,hd⟩:=I.cell x c e
  rcases I.freeC x c e with hf|⟨z,o',hf⟩
  ·exact .inl (free c o (fun z=>(hch c z).2.2.1 x c e rfl) ho hf)
  ·exact .inr ⟨z,o',frzs c _ _ hf⟩
 ·obtain ⟨e,n,ne,nf,d⟩:=I.pin p hp
  have nch:p.1∉ch:=fun z=>(hch p.1 z).2.2.2 p hp rfl
  exact ⟨keep p.1 p.2 ne nf nch e n,free p.1 p.2 nch e n,ne,nf,d⟩
theorem Inv.un {t':Nat} (I:Inv X pins σ H s) (u:Un X.fs [] H H' s.heap h') (hok:HOk X.prog X.w H' h'):Inv X pins σ H' {s with heap:=h',toks:=t'}:=by
 obtain ⟨m,⟨o,es,ep,ho,r⟩,_⟩:=id I.loc
 obtain ⟨sl,hL⟩:=u.any ho I.free (by simp)
 exact I.step (g':=s.gens) (d':=s.drawn) (ch:=[]) (fun _ z=>nomatch z) (fun b o _ hb _ e n=>u.keep b o e n hb (by simp)) (fun b o _ hb _ e n=>u.slot b o e n hb (by simp)) (fun b o _ e n=>u.free b o e n (by simp)) (fun b o _ e=>u.there b o e (by simp)) u.tups u.frzs u.tbls (fun m' hm=>by
  obtain ⟨o',es',ep',ho',r'⟩:=hm
  rw [ho] at ho';cases ho'
  exact ⟨_,es',ep',hL,r'⟩) hok I.bare
theorem Inv.call {g':Array GenState} {t':Nat} {d':Drawn} {ch:List Addr} (I:Inv X pins σ H s) (u:Un (frs X.stack) ch H H' s.heap h') (hok:HOk X.prog X.w H' h') (hg:AllBare g')
  (hch:∀b∈ch,(b∈X.ex∨X.s₀.heap.objs.size≤b)∧b≠X.env.locals∧(∀x c,X.env.cells.lookup x=some c→c≠b)∧∀p∈X.pn++pins,p.1≠b):
  Inv X pins σ H' {s with heap:=h',gens:=g',drawn:=d',toks:=t'}:=by
 obtain ⟨m,⟨o,es,ep,ho,r⟩,_⟩:=id I.loc
 obtain ⟨sl,hL⟩:=u.any ho I.free fun z=>(hch _ z).2.1 rfl
 exact I.step (ch:=ch) hch (fun b o hL hb hc e n=>u.keep b o e n (fun z=>(List.mem_cons.mp (I.stkSub b z)).elim hL hb) hc) (fun b o _ _ hc e n=>u.any e n hc) (fun b o hc e n=>u.free b o e n hc) (fun b o hc e=>u.there b o e hc) u.tups u.frzs u.tbls (fun m' hm=>by
  obtain ⟨o',es',ep',ho',r'⟩:=hm
  rw [ho] at ho';cases ho'
  exact ⟨_,es',ep',hL,r'⟩) hok hg
theorem Inv.turned {t':Nat} {it:Addr} (I:Inv X pins σ H s) (k:∀b o,b≠it→s.heap.get? b=some o→h'.get? b=some o) (hn:H it=none) (hL:it≠X.env.locals)
  (h1:it∈X.ex∨X.s₀.heap.objs.size≤it) (h2:∀x c,X.env.cells.lookup x=some c→c≠it) (h3:∀p∈X.pn++pins,p.1≠it):Inv X pins σ H {s with heap:=h',toks:=t'}:=by
 have nit:∀b u,H b=some u→b≠it:=fun b u e z=>by rw [z,hn] at e;cases e
 refine I.step (g':=s.gens) (d':=s.drawn) (ch:=[it]) (fun b hb=> ?_) (fun b o _ _ hc e _=>k b o (fun z=>hc (by simp [z])) e) (fun b o _ _ hc e _=>⟨o.slots,k b o (fun z=>hc (by simp [z])) e⟩) (fun _ _ _ _ n=>n)
  (fun b o hc e=>⟨o,k b o (fun z=>hc (by simp [z])) e⟩) (fun _ _ e=>e) (fun _ _ _ e=>e) (fun b ps e=>⟨#[],by rw [e];simp⟩) (fun m hm=> ?_) (fun b u e=> ?_) I.bare
 ·have e:b=it:=by simpa using hb
  subst e
  exact ⟨h1,hL,h2,h3⟩
 ·obtain ⟨o,es,ep,ho,r⟩:=hm
  exact ⟨o,es,ep,k _ o (Ne.symm hL) ho,r⟩
 ·refine (I.hok b u e).stay (fun c v hc q=>k c v ?_ q) (fun _ q=>q) fun _ _ q=>q
  rcases hc with z|z
  ·rw [z];exact nit b u e
  ·exact nit c _ z
theorem Inv.tok (I:Inv X pins σ H s) (t:Nat):Inv X pins σ H {s with toks:=t}:=I.un (h':=s.heap) (t':=t) Un.refl I.hok
theorem Inv.kept {t':Nat} (I:Inv X pins σ H s) (k:∀b u,s.heap.get? b=some u→h'.get? b=some u):Inv X pins σ H {s with heap:=h',toks:=t'}:=I.un (Un.kept k) (I.hok.kept k)
theorem Inv.laid {a:Addr} {o:HO} {t':Nat} (I:Inv X pins σ H s) (k:∀b u,s.heap.get? b=some u→h'.get? b=some u) (hp:s.heap.objs.size≤a) (new:yI X.prog X.w (upd H a o) h' a o):
  Inv X pins σ (upd H a o) {s with heap:=h',toks:=t'}:=I.un (Un.laid k hp (I.hok.fresh hp)) (I.hok.laid k hp new)
theorem Inv.write {x e:Addr} {o:HO} {t':Nat} (I:Inv X pins σ H s) (mu:Mut (H x)) (he:e=x∨H e=some (.own x)) (k:∀b u,b≠e→s.heap.get? b=some u→h'.get? b=some u) (heo:∃u,h'.get? e=some u)
  (new:yI X.prog X.w (upd H x o) h' x o):Inv X pins σ (upd H x o) {s with heap:=h',toks:=t'}:=I.un (Un.write mu he k heo) (I.hok.write mu he k heo new)
theorem Inv.weak {σ':List (Option V)} (I:Inv X pins σ H s) (hl:σ'.length=σ.length) (w:∀(i:Nat) v,σ'[i]? =some (some v)→σ[i]? =some (some v)):Inv X pins σ' H s:=
 ⟨I.ok,I.os,I.bare,I.base,let ⟨m,hn,hl'⟩:=I.loc;⟨m,hn,fun i x v e1 e2 e3=>hl' i x v e1 (w i v e2) e3⟩,I.cell,I.free,I.freeC,I.pin,I.hok,hl.trans I.len⟩
theorem Inv.pins_of {pins':List (Addr×Obj)} (I:Inv X pins σ H s) (h:∀p∈pins',s.heap.get? p.1=some p.2∧H p.1=none∧p.1≠X.env.locals∧p.1∉X.fs∧∀v,p.2.data≠ .cell v):Inv X pins' σ H s:=
 ⟨I.ok,I.os,I.bare,I.base,I.loc,I.cell,I.free,I.freeC,fun p hp=>(List.mem_append.mp hp).elim (fun z=>I.pin p (List.mem_append_left _ z)) (h p),I.hok,I.len⟩

theorem zbn {N:List Str} (hN:N.Nodup) {i j:Nat} {x:Str} (a:N[i]? =some x) (b:N[j]? =some x):i=j:=by
 obtain ⟨h1,e1⟩:=List.getElem?_eq_some_iff.mp a
 obtain ⟨h2,e2⟩:=List.getElem?_eq_some_iff.mp b
 exact (List.getElem_inj hN).mp (e1.trans e2.symm)

theorem TH {M:Model} {A:Around} {E:Value→Shared→Prop} {i:Nat} {x:Str} {v:V} {u:Value} {Q:Unit→Shared→Prop} (I:Inv X pins σ H s) (hN:X.N.Nodup) (hi:X.N[i]? =some x) (hx:Loc X.env.scope x) (r:zQ v u)
  (h:∀s',Inv X pins (σ.set i (some v)) H s'→(∃a,Heap.SameBut a s.heap s'.heap∧(a=X.env.locals∨X.env.cells.lookup x=some a))→Q () s') (hf:X.fn x=true∨X.env.scope.names.lookup x=some .local:=by first|exact .inl rfl|exact .inr rfl|assumption):wpAny M A (storeName X.env x u) Q E s:=by
 obtain ⟨m,hn,hl⟩:=id I.loc
 have hcls:(X.env.scope.kind== .class||(X.env.scope.kind== .module&&X.env.locals !=X.env.globals))=false:=by rw [I.ok.kind];rfl
 have hiσ:i<σ.length:=by rw [I.len];exact (List.getElem?_eq_some_iff.mp hi).1
 have cne:=I.cne
 have tracked:∀{a:Addr} {h':Heap},(∃o,s.heap.get? a=some o∧H a=none)→Heap.SameBut a s.heap h'→HOk X.prog X.w H h':=fun {a h'} ha hs b ob e=>by
  obtain ⟨_,_,hfree⟩:=ha
  refine (I.hok b ob e).stay (fun c w' hc q=>(hs.2 c ?_).trans q) (fun _ q=>q) fun _ _ q=>q
  rintro rfl
  rcases hc with rfl|hc
  ·rw [hfree] at e;cases e
  ·rw [hfree] at hc;cases hc
 rcases hx with hk|hk
 ·refine wpAny_storeName_local hk hn (fun h' hn' hs=> ?_) hcls
  obtain ⟨oL,_,_,hoL,_⟩:=id hn
  refine h _ ⟨I.ok,I.os,I.bare,⟨fun b o e n hb hx=> ?_,fun b o e n hb hx=> ?_,I.base.free,fun b o e hx=> ?_,I.base.tups,I.base.frzs,I.base.tbls⟩,⟨_,hn',fun j y v' e1 e2 e3=> ?_⟩,fun y c e=> ?_,I.free,I.freeC,fun p hp=> ?_,tracked ⟨oL,hoL,I.free⟩ hs,by simpa using I.len⟩ ⟨_,hs,.inl rfl⟩
  ·exact (hs.2 b (Nat.ne_of_lt (Nat.lt_of_lt_of_le (Heap.lt_size e) I.ok.above))).trans (I.base.keep b o e n hb hx)
  ·obtain ⟨sl,e1⟩:=I.base.slot b o e n hb hx
   exact ⟨sl,(hs.2 b (Nat.ne_of_lt (Nat.lt_of_lt_of_le (Heap.lt_size e) I.ok.above))).trans e1⟩
  ·obtain ⟨o',e1⟩:=I.base.there b o e hx
   exact ⟨o',(hs.2 b (Nat.ne_of_lt (Nat.lt_of_lt_of_le (Heap.lt_size e) I.ok.above))).trans e1⟩
  ·by_cases hj:j=i
   ·subst hj
    rw [hi] at e1;cases e1
    rw [List.getElem?_set_self hiσ] at e2
    cases e2
    exact ⟨u,r,.inl ⟨hk,by simp⟩⟩
   ·rw [List.getElem?_set_ne (Ne.symm hj)] at e2
    obtain ⟨u',r',q⟩:=hl j y v' e1 e2 e3
    refine ⟨u',r',?_⟩
    rcases q with ⟨k,e⟩|⟨k,c,e,z⟩
    ·refine .inl ⟨k,?_⟩
     have:y≠x:=fun e=>hj (zbn hN e1 (e ▸ hi))
     simp [this,e]
    ·exact .inr ⟨k,c,e,z.sameBut hs (cne y c e)⟩
  ·obtain ⟨w',z⟩:=I.cell y c e
   exact ⟨w',z.sameBut hs (cne y c e)⟩
  ·obtain ⟨e,n,ne,nf,d⟩:=I.pin p hp
   exact ⟨(hs.2 p.1 ne).trans e,n,ne,nf,d⟩
 ·have hfn:X.fn x=true:=by
   rcases hf with z|z
   ·exact z
   ·rw [z] at hk;cases hk
  obtain ⟨c,hc⟩:=I.ok.has x (.inl hk)
  have hcn:H c=none:=(I.freeC x c hc).elim (fun z=>z) fun z=>by rw [hfn] at z;cases z.1
  obtain ⟨w',z⟩:=I.cell x c hc
  refine wpAny_storeName_cell I.ok.kind hk hc z (fun h' hc' hs=> ?_)
  obtain ⟨oc,hoc,hocd⟩:=id z
  refine h {s with heap:=h'} ⟨I.ok,I.os,I.bare,⟨fun b o e n hb hx=> ?_,fun b o e n hb hx=> ?_,I.base.free,fun b o e hx=> ?_,I.base.tups,I.base.frzs,I.base.tbls⟩,⟨m,hn.sameBut hs (Ne.symm (cne x c hc)),fun j y v' e1 e2 e3=> ?_⟩,fun y c' e=> ?_,I.free,I.freeC,fun p hp=> ?_,tracked ⟨oc,hoc,hcn⟩ hs,by simpa using I.len⟩ ⟨c,hs,.inr hc⟩
  ·exact (hs.2 b (Nat.ne_of_lt (Nat.lt_of_lt_of_le (Heap.lt_size e) (I.ok.cab x c (.inl hfn) hc)))).trans (I.base.keep b o e n hb hx)
  ·obtain ⟨sl,e1⟩:=I.base.slot b o e n hb hx
   exact ⟨sl,(hs.2 b (Nat.ne_of_lt (Nat.lt_of_lt_of_le (Heap.lt_size e) (I.ok.cab x c (.inl hfn) hc)))).trans e1⟩
  ·obtain ⟨o',e1⟩:=I.base.there b o e hx
   exact ⟨o',(hs.2 b (Nat.ne_of_lt (Nat.lt_of_lt_of_le (Heap.lt_size e) (I.ok.cab x c (.inl hfn) hc)))).trans e1⟩
  ·by_cases hj:j=i
   ·subst hj
    rw [hi] at e1;cases e1
    rw [List.getElem?_set_self hiσ] at e2
    cases e2
    exact ⟨u,r,.inr ⟨.inl hk,c,hc,hc'⟩⟩
   ·rw [List.getElem?_set_ne (Ne.symm hj)] at e2
    obtain ⟨u',r',q⟩:=hl j y v' e1 e2 e3
    refine ⟨u',r',?_⟩
    rcases q with q|⟨k,c',e,z'⟩
    ·exact .inl q
    ·refine .inr ⟨k,c',e,z'.sameBut hs ?_⟩
     rintro rfl
     exact hj (zbn hN e1 (I.ok.inj _ _ _ e hc ▸ hi))
  ·by_cases hcc:c'=c
   ·subst hcc;exact ⟨_,hc'⟩
   ·obtain ⟨w2,z2⟩:=I.cell y c' e
    exact ⟨w2,z2.sameBut hs hcc⟩
  ·obtain ⟨e,n,ne,nf,d⟩:=I.pin p hp
   refine ⟨(hs.2 p.1 ?_).trans e,n,ne,nf,d⟩
   intro q
   rw [q,hoc] at e
   have q':oc=p.2:=Option.some.inj e
   exact d w' (by rw [←q'];exact hocd)
theorem zbo {M:Model} {A:Around} {E:Value→Shared→Prop} {i:Nat} {x:Str} {v:V} {u:Value} {Q:Unit→Shared→Prop} (I:Inv X pins σ H s) (hN:X.N.Nodup) (hi:X.N[i]? =some x) (hx:Loc X.env.scope x) (r:zQ v u)
  (h:∀s',Inv X pins (σ.set i (some v)) H s'→Q () s') (hf:X.fn x=true∨X.env.scope.names.lookup x=some .local:=by first|exact .inl rfl|exact .inr rfl|assumption):wpAny M A (storeName X.env x u) Q E s:=
 TH I hN hi hx r (fun s' I' _=>h s' I') hf
theorem Inv.call' {s':Shared} {ch:List Addr} (I:Inv X pins σ H s) (ho:s'.os=s.os) (u:Un (frs X.stack) ch H H' s.heap s'.heap) (hok:HOk X.prog X.w H' s'.heap) (hg:AllBare s'.gens)
  (hch:∀b∈ch,(b∈X.ex∨X.s₀.heap.objs.size≤b)∧b≠X.env.locals∧(∀x c,X.env.cells.lookup x=some c→c≠b)∧∀p∈X.pn++pins,p.1≠b):Inv X pins σ H' s':=by
 obtain ⟨h',g',d',t',o'⟩:=s'
 have e:o'=s.os:=ho
 subst e
 exact I.call (g':=g') (t':=t') (d':=d') u hok hg hch
end

noncomputable abbrev XK:=Value→Option Addr→Hp→Prop
noncomputable abbrev St:=List (Option V)
noncomputable abbrev VK:=V→Hp→Prop
noncomputable abbrev TE:=St→Hp→VK→Prop
noncomputable abbrev TT:=St→Hp→(Bool→Hp→Prop)→Prop
noncomputable abbrev TA:=St→Hp→(List V→Hp→Prop)→Prop
structure Vd where
 nx:St→Hp→Prop
 rt:VK
 bk:St→Hp→Prop:=fun _ _=>False
 ct:St→Hp→Prop:=fun _ _=>False
noncomputable abbrev TS:=Vd→St→Hp→Prop

noncomputable def EP (X:Cx) (pins:List (Addr×Obj)) (σ:St) (Q:VK) (u:Value) (s':Shared):Prop:=∃v H',Inv X pins σ H' s'∧zQ v u∧Q v H'
noncomputable def TP (X:Cx) (pins:List (Addr×Obj)) (σ:St) (Q:Bool→Hp→Prop) (b:Bool) (s':Shared):Prop:=∃H',Inv X pins σ H' s'∧Q b H'
noncomputable def AP (X:Cx) (pins:List (Addr×Obj)) (σ:St) (Q:List V→Hp→Prop) (us:List Value) (s':Shared):Prop:=∃vs H',Inv X pins σ H' s'∧zO vs us∧Q vs H'
noncomputable def SP (X:Cx) (pins:List (Addr×Obj)) (D:Vd) (f:Flow) (s':Shared):Prop:=
 match f with
 | .next=>∃σ' H',Inv X pins σ' H' s'∧D.nx σ' H'
 | .brk=>∃σ' H',Inv X pins σ' H' s'∧D.bk σ' H'
 | .cont=>∃σ' H',Inv X pins σ' H' s'∧D.ct σ' H'
 | .ret u=>∃v σ' H',Inv X pins σ' H' s'∧zQ v u∧D.rt v H'

noncomputable def PE (X:Cx) (e:Expr) (t:TE):Prop:=
 ∀(pins:List (Addr×Obj)) (s:Shared) (σ:St) (H:Hp) (Q:VK),Inv X pins σ H s→t σ H Q→wpAny (model X.prog X.w) X.A (eval e X.env) (EP X pins σ Q) X.xe s
noncomputable def PT (X:Cx) (e:Expr) (t:TT):Prop:=
 ∀(pins:List (Addr×Obj)) (s:Shared) (σ:St) (H:Hp) (Q:Bool→Hp→Prop),Inv X pins σ H s→t σ H Q→wpAny (model X.prog X.w) X.A (isTrue e X.env (eval e X.env)) (TP X pins σ Q) X.xe s
noncomputable def PW (X:Cx) (e:Expr) (t:TT):Prop:=
 ∀(whole:Sem Value) (pins:List (Addr×Obj)) (s:Shared) (σ:St) (H:Hp) (Q:Bool→Hp→Prop),Inv X pins σ H s→t σ H Q→wpAny (model X.prog X.w) X.A (isTrue e X.env whole) (TP X pins σ Q) X.xe s
theorem PW.pt {X:Cx} {e:Expr} {t:TT} (h:PW X e t):PT X e t:=h _
noncomputable def PA (X:Cx) (es:List Expr) (t:TA):Prop:=
 ∀(pos:Pos) (pins:List (Addr×Obj)) (s:Shared) (σ:St) (H:Hp) (Q:List V→Hp→Prop),Inv X pins σ H s→t σ H Q→wpAny (model X.prog X.w) X.A (spliced (backTo pos (starEach es X.env))) (AP X pins σ Q) X.xe s
noncomputable def PS (X:Cx) (st:Stmt) (t:TS):Prop:=
 ∀(pins:List (Addr×Obj)) (s:Shared) (σ:St) (H:Hp) (D:Vd),Inv X pins σ H s→t D σ H→wpAny (model X.prog X.w) X.A (exec st X.env) (SP X pins D) X.xe s
noncomputable def PSs (X:Cx) (st:List Stmt) (t:TS):Prop:=
 ∀(pins:List (Addr×Obj)) (s:Shared) (σ:St) (H:Hp) (D:Vd),Inv X pins σ H s→t D σ H→wpAny (model X.prog X.w) X.A (execs st X.env) (SP X pins D) X.xe s
theorem thn {α:Type} {t:Sem α} {Q Q':α→Shared→Prop} {M:Model} {A:Around} {E:Value→Shared→Prop} {s:Shared} (h:wpAny M A t Q E s) (hQ:∀a s,Q a s→Q' a s):wpAny M A t Q' E s:=wpAny_mono h hQ fun _ _ x=>x
end L2

namespace L2
open PySem PySem.Spec PyProof.Rows
section
variable {X:Cx}

theorem bin {a b:Expr} {ta tb:TE} (ha:PE X a ta) (hb:PE X b tb) {pins:List (Addr×Obj)} {s:Shared} {σ:St} {H:Hp} {R:V→V→Hp→Prop} (I:Inv X pins σ H s) (h:ta σ H fun x H1=>tb σ H1 fun y H2=>R x y H2)
  {α:Type} {Q:α→Shared→Prop} {f:Value→Value→Sem α}
  (hf:∀v u s2 x y H2,Inv X pins σ H2 s2→zQ x v→zQ y u→R x y H2→wpAny (model X.prog X.w) X.A (f v u) Q X.xe s2):
  wpAny (model X.prog X.w) X.A (eval a X.env) (fun v s₁=>wpAny (model X.prog X.w) X.A (eval b X.env) (fun u s₂=>wpAny (model X.prog X.w) X.A (f v u) Q X.xe s₂) X.xe s₁) X.xe s:=by
 refine thn (ha pins s σ H _ I h) ?_
 rintro v s1 ⟨x,H1,I1,r1,q1⟩
 refine thn (hb pins s1 σ H1 _ I1 q1) ?_
 rintro u s2 ⟨y,H2,I2,r2,q2⟩
 exact hf v u s2 x y H2 I2 r1 r2 q2

noncomputable def zib (i:Nat):TE:=fun σ H Q=>∃v,σ[i]? =some (some v)∧Q v H
noncomputable def tC (v:V):TE:=fun _ H Q=>Q v H
theorem zeC {i:Nat} {x:Str} {pos:Pos} (hN:X.N[i]? =some x) (hv:Vis X.env.scope x) (hd:(x==("__debug__":Str))=false:=by decide) (hcd:(x==("__classdict__":Str))=false:=by decide):PE X (.Name x pos) (zib i):=by
 intro pins s σ H Q I h
 obtain ⟨v,e,h⟩:=h
 obtain ⟨m,hn,hl⟩:=I.loc
 obtain ⟨u,r,l⟩:=hl i x v hN e hv
 have fin:EP X pins σ Q u s:=⟨v,H,I,r,h⟩
 rcases l with ⟨hk,hm⟩|⟨hk,c,hc,hcell⟩
 ·exact wpAny_Name (wpAny_loadName_local I.ok.kind hk hn hm fin) hd
 ·rcases hk with hk|hk
  ·exact wpAny_Name (wpAny_loadName_cell I.ok.kind hk hc hcell fin) hd
  ·exact wpAny_Name (wpAny_loadName_free I.ok.kind hk hc hcell fin hcd) hd
theorem zg {i j pos}:PE X (.Constant (.int i) j pos) (tC (.int i)):=fun _ _ _ H _ I h=>wpAny_Constant_int ⟨.int i,H,I.tok _,⟨_,rfl⟩,h⟩
theorem TJ {b j pos}:PE X (.Constant (.bool b) j pos) (tC (.bl b)):=fun _ _ _ H _ I h=>Constant_bool ⟨.bl b,H,I,rfl,h⟩
theorem zic {j pos}:PE X (.Constant .none j pos) (tC .non):=fun _ _ _ H _ I h=>Constant_none ⟨.non,H,I,rfl,h⟩
theorem yl {x j pos}:PE X (.Constant (.str x) j pos) (tC (.str x)):=fun _ _ _ H _ I h=>Calls.Constant_str ⟨.str x,H,I.tok _,⟨_,rfl⟩,h⟩

noncomputable def Gl (X:Cx) (x:Str):Prop:=X.env.kindOf x=some .globalImplicit
theorem zdh {E:Value→Shared→Prop} {pins:List (Addr×Obj)} {s:Shared} {σ:St} {H:Hp} {x:Str} {u:Value} {pos:Pos} {Q:Value→Shared→Prop} (I:Inv X pins σ H s) (hg:Gl X x) (hm:X.mg x=some u) (h:Q u s)
  (hd:(x==("__debug__":Str))=false:=by decide):wpAny (model X.prog X.w) X.A (eval (.Name x pos) X.env) Q E s:=
 Calls.Name_function_global I.ok.kind hg (Calls.loadGlobal_global (by rw [I.ok.glob];exact I.mod.glob.keeps I.bk) hm h) hd
theorem Ve {E:Value→Shared→Prop} {pins:List (Addr×Obj)} {s:Shared} {σ:St} {H:Hp} {x:Str} {u:Value} {pos:Pos} {Q:Value→Shared→Prop} (I:Inv X pins σ H s) (hg:Gl X x) (hm:X.mg x=none) (hv:bootBuiltins x=some u) (h:Q u s)
  (hn:x≠"__name__":=by decide) (hd:(x==("__debug__":Str))=false:=by decide):wpAny (model X.prog X.w) X.A (eval (.Name x pos) X.env) Q E s:=by
 obtain ⟨mb,h1,h2⟩:=I.mod.blt
 exact Calls.Name_function_global I.ok.kind hg (Calls.loadGlobal_builtin (by rw [I.ok.glob];exact I.mod.glob.keeps I.bk) hm (by rw [I.ok.blt];exact h1.keeps I.bk) ((h2 x hn).trans hv) h) hd
theorem vn {x:Str} {v:V} {u:Value} {pos:Pos} (hg:Gl X x) (hm:X.mg x=none) (hv:bootBuiltins x=some u) (r:zQ v u) (hn:x≠"__name__":=by decide) (hd:(x==("__debug__":Str))=false:=by decide):PE X (.Name x pos) (tC v):=
 fun _ _ _ H _ I h=>Ve I hg hm hv ⟨v,H,I,r,h⟩ hn hd

noncomputable def t2I (ta tb:TE) (k:Int→Int→Hp→Prop):St→Hp→Prop:=fun σ H=>ta σ H fun x H1=>tb σ H1 fun y H2=>∃i j,x= .int i∧y= .int j∧k i j H2
variable {a b:Expr} {ta tb:TE} {pos:Pos}

noncomputable def PC (X:Cx) (op:CmpOp) (a b:Expr) (t:TE):Prop:=
 ∀(pins:List (Addr×Obj)) (s:Shared) (σ:St) (H:Hp) (Q:VK),Inv X pins σ H s→t σ H Q→
  wpAny (model X.prog X.w) X.A (eval a X.env) (fun v s₁=>wpAny (model X.prog X.w) X.A (eval b X.env) (fun u s₂=>wpAny (model X.prog X.w) X.A (compareOp op v u) (EP X pins σ Q) X.xe s₂) X.xe s₁) X.xe s
theorem zbp (b:Expr) {op:CmpOp} (h:op≠ .In) (h2:op≠ .NotIn):behindInMarks op b=false:=by
 have e1:(op==CmpOp.In)=false:=by cases op<;>first|rfl|exact absurd rfl h
 have e2:(op==CmpOp.NotIn)=false:=by cases op<;>first|rfl|exact absurd rfl h2
 cases b<;>simp [behindInMarks,e1,e2]
noncomputable def zbq (p:Int→Int→Bool) (ta tb:TE):TE:=fun σ H Q=>t2I ta tb (fun i j H2=>Q (.bl (p i j)) H2) σ H
noncomputable abbrev tLt:TE→TE→TE:=zbq fun i j=>decide (i<j)
noncomputable abbrev tLe:TE→TE→TE:=zbq fun i j=>decide (i≤j)
noncomputable abbrev tGt:TE→TE→TE:=zbq fun i j=>decide (j<i)
noncomputable abbrev tGe:TE→TE→TE:=zbq fun i j=>decide (j≤i)
noncomputable abbrev zi5:TE→TE→TE:=zbq fun i j=>decide (i=j)
noncomputable abbrev zi6:TE→TE→TE:=zbq fun i j=> !decide (i=j)
theorem zau {op:CmpOp} {p:Int→Int→Bool} (ha:PE X a ta) (hb:PE X b tb)
  (rule:∀(i j:Int) (t u:Tok) (Q:Value→Shared→Prop) (s:Shared),Q (.bool (p i j)) s→wpAny (model X.prog X.w) X.A (compareOp op (.int i t) (.int j u)) Q X.xe s):PC X op a b (zbq p ta tb):=by
 intro pins s σ H Q I h
 refine bin ha hb I h fun v u s2 x y H2 I2 rx ry q=> ?_
 obtain ⟨i,j,rfl,rfl,q⟩:=q
 obtain ⟨t,rfl⟩:=rx
 obtain ⟨t',rfl⟩:=ry
 exact rule i j t t' _ s2 ⟨.bl _,H2,I2,rfl,q⟩
theorem zbr (ha:PE X a ta) (hb:PE X b tb):PC X .Lt a b (tLt ta tb):=zau ha hb fun _ _ _ _ _ _ h=>lt_int h
theorem zeD (ha:PE X a ta) (hb:PE X b tb):PC X .Gt a b (tGt ta tb):=zau ha hb fun _ _ _ _ _ _ h=>gt_int h
theorem YZ (ha:PE X a ta) (hb:PE X b tb):PC X .Eq a b (zi5 ta tb):=zau ha hb fun _ _ _ _ _ _ h=>eq_int (by rw [Bool.beq_eq_decide_eq];exact h)
theorem Uq (ha:PE X a ta) (hb:PE X b tb):PC X .NotEq a b (zi6 ta tb):=zau ha hb fun _ _ _ _ _ _ h=>ne_int (by rw [bne,Bool.beq_eq_decide_eq];exact h)
noncomputable def zi7 (ta:TE):TE:=fun σ H Q=>ta σ H fun x H1=>Q (.bl (decide (x= .non))) H1
theorem zQ.none_iff {x:V} {v:Value} (r:zQ x v):(v==Value.none)=decide (x= .non):=by
 cases x with
 |non=>cases r;rfl
 |bl _=>cases r;rfl
 |int _=>obtain ⟨t,rfl⟩:=r;rfl
 |str _=>obtain ⟨t,rfl⟩:=r;rfl
 |byt _=>obtain ⟨t,rfl⟩:=r;rfl
 |flt _=>obtain ⟨t,rfl⟩:=r;rfl
 |ref _=>cases r;rfl
 |ty _=>cases r;rfl
theorem zcv {j pos'} (ha:PE X a ta):PC X .Is a (.Constant .none j pos') (zi7 ta):=by
 intro pins s σ H Q I h
 refine thn (ha pins s σ H _ I h) ?_
 rintro v s1 ⟨x,H1,I1,r1,q1⟩
 exact Constant_none (is_none_gen ⟨.bl _,H1,I1,by rw [r1.none_iff];rfl,q1⟩)
noncomputable def tB (t:TE):TT:=fun σ H Q=>t σ H fun x H1=>∃c,x= .bl c∧Q c H1
theorem zcw {op:CmpOp} {t:TE} (h:PC X op a b t) (h1:behindInMarks op b=false:=by first|exact zbp _ (by decide) (by decide)|rfl):PE X (.Compare a [op] [b] pos) t:=fun pins s σ H Q I hw=>wpAny_Compare1 (h pins s σ H Q I hw) h1
theorem yJ {op:CmpOp} {t:TE} (h:PC X op a b t) (h1:behindInMarks op b=false:=by first|exact zbp _ (by decide) (by decide)|rfl):PT X (.Compare a [op] [b] pos) (tB t):=by
 intro pins s σ H Q I hw
 refine wpAny_isTrue_Compare1 (thn (h pins s σ H _ I hw) fun v s1 h1=>thn h1 fun u s2 h2=>thn h2 ?_) h1
 rintro c s3 ⟨x,H1,I1,r1,q1⟩
 obtain ⟨d,rfl,q⟩:=q1
 cases r1
 exact wpAny_truthy_bool ⟨H1,I1,q⟩
theorem Zf {e:Expr} {t:TE} (h:PE X e t) (he:∀whole,isTrue e X.env whole=(do let v ←whole;standAt e.pos;holding [v] (truthy v)):=by intro _;rfl):PT X e (tB t):=by
 intro pins s σ H Q I hw
 refine isTrue_plain (thn (h pins s σ H _ I hw) ?_) (he _)
 rintro v s1 ⟨x,H1,I1,r1,q1⟩
 obtain ⟨d,rfl,q⟩:=q1
 cases r1
 exact wpAny_truthy_bool ⟨H1,I1,q⟩

variable {tA tB':TT} {rest:List Expr}
noncomputable def zi8 (t u:TT):TT:=fun σ H Q=>t σ H fun c H1=>if c=true then u σ H1 Q else Q false H1
noncomputable def tOr (t u:TT):TT:=fun σ H Q=>t σ H fun c H1=>if c=true then Q true H1 else u σ H1 Q
noncomputable def zi9 (t:TT):TT:=fun σ H Q=>t σ H fun c H1=>Q (!c) H1
theorem zdi (ha:PT X a tA):PW X (.BoolOp .And [a] pos) tA:=by
 intro wh pins s σ H Q I h
 refine isTrue_and (thn (ha pins s σ H Q I h) fun c s1 e=> ?_)
 cases c with
 |true=>exact isTrue_and_nil e
 |false=>exact e
theorem zeE (ha:PT X a tA):PW X (.BoolOp .Or [a] pos) tA:=by
 intro wh pins s σ H Q I h
 refine isTrue_or (thn (ha pins s σ H Q I h) fun c s1 e=> ?_)
 cases c with
 |false=>exact isTrue_or_nil e
 |true=>exact e
theorem zeF (ha:PT X a tA) (hb:PW X (.BoolOp .And (b::rest) pos) tB'):PW X (.BoolOp .And (a::b::rest) pos) (zi8 tA tB'):=by
 intro wh pins s σ H Q I h
 refine isTrue_and (thn (ha pins s σ H _ I h) ?_)
 rintro c s1 ⟨H1,I1,q1⟩
 cases c with
 |true=>exact hb wh pins s1 σ H1 Q I1 q1
 |false=>exact ⟨H1,I1,q1⟩
theorem zhG (ha:PT X a tA) (hb:PW X (.BoolOp .Or (b::rest) pos) tB'):PW X (.BoolOp .Or (a::b::rest) pos) (tOr tA tB'):=by
 intro wh pins s σ H Q I h
 refine isTrue_or (thn (ha pins s σ H _ I h) ?_)
 rintro c s1 ⟨H1,I1,q1⟩
 cases c with
 |true=>exact ⟨H1,I1,q1⟩
 |false=>exact hb wh pins s1 σ H1 Q I1 q1
theorem Ur (ha:PT X a tA):PT X (.UnaryOp .Not a pos) (zi9 tA):=by
 intro pins s σ H Q I h
 exact isTrue_not (ha pins s σ H (fun c H1=>Q (!c) H1) I h)
noncomputable def zhH (ta tb:TE):TE:=fun σ H Q=>ta σ H fun x H1=>∃c,x= .bl c∧if c=true then tb σ H1 Q else Q (.bl false) H1
noncomputable def zhI (ta:TE):TE:=fun σ H Q=>ta σ H fun x H1=>∃c,x= .bl c∧Q (.bl (!c)) H1
theorem zcx {op} {t:TE} (h:PE X a t):PE X (.BoolOp op [a] pos) t:=fun pins s σ H Q I hw=>BoolOp_one (h pins s σ H Q I hw)
theorem zav (ha:PE X a ta) (hb:PE X (.BoolOp .And (b::rest) pos) tb):PE X (.BoolOp .And (a::b::rest) pos) (zhH ta tb):=by
 intro pins s σ H Q I h
 refine BoolOp_and (thn (ha pins s σ H _ I h) ?_)
 rintro v s1 ⟨x,H1,I1,r1,q1⟩
 obtain ⟨c,rfl,q1⟩:=q1
 cases r1
 refine wpAny_truthy_bool ?_
 cases c with
 |true=>exact hb pins s1 σ H1 Q I1 q1
 |false=>exact ⟨.bl false,H1,I1,rfl,q1⟩
theorem zeG (ha:PE X a ta):PE X (.UnaryOp .Not a pos) (zhI ta):=by
 intro pins s σ H Q I h
 refine UnaryOp_ (thn (ha pins s σ H _ I h) ?_)
 rintro v s1 ⟨x,H1,I1,r1,q1⟩
 obtain ⟨c,rfl,q1⟩:=q1
 cases r1
 exact not_of (wpAny_truthy_bool ⟨.bl (!c),H1,I1,rfl,q1⟩)
noncomputable def tIf (t:TT) (ta tb:TE):TE:=fun σ H Q=>t σ H fun c H1=>if c=true then ta σ H1 Q else tb σ H1 Q
theorem Xb {c:Expr} (hc:PT X c tA) (ha:PE X a ta) (hb:PE X b tb):PE X (.IfExp c a b pos) (tIf tA ta tb):=by
 intro pins s σ H Q I h
 refine wpAny_IfExp (thn (hc pins s σ H _ I h) ?_)
 rintro d s1 ⟨H1,I1,q1⟩
 cases d with
 |true=>exact ha pins s1 σ H1 Q I1 q1
 |false=>exact hb pins s1 σ H1 Q I1 q1
end
end L2

namespace L2
open PySem PySem.Spec PyProof.Rows

noncomputable def SqL (K:PySem.W.Frag) (H:Hp) (a:Addr) (xs:List V):Prop:=
 Rd H a (.lst xs)∨
  ∃(o:Obj) (its:Array Value) (n:Nat),K.lookup a=some o∧o.cls= .type "list"∧o.dict=none∧o.data= .seq its n∧its.size≤sizeLine∧zO xs its.toList
noncomputable def SqT (K:PySem.W.Frag) (H:Hp) (a:Addr) (xs:List V):Prop:=
 Rd H a (.tup xs)∨
  ∃(o:Obj) (its:Array Value) (n:Nat),K.lookup a=some o∧o.cls= .type "tuple"∧o.data= .seq its n∧its.size≤sizeLine∧zO xs its.toList
noncomputable def SqX (K:PySem.W.Frag) (H:Hp) (a:Addr) (xs:List V):Prop:=
 Rd H a (.lst xs)∨∃(its:Array Value) (n:Nat),K.lookup a=some {cls:= .type "list",data:= .seq its n}∧its.size≤sizeLine∧zO xs its.toList
theorem SqX.sql {K:PySem.W.Frag} {H:Hp} {a:Addr} {xs:List V} (h:SqX K H a xs):SqL K H a xs:=by
 rcases h with h|⟨its,n,hk,hz,r⟩
 ·exact .inl h
 ·exact .inr ⟨_,its,n,hk,rfl,rfl,rfl,hz,r⟩
theorem SqX.of {K:PySem.W.Frag} {H:Hp} {a:Addr} {xs:List V} (h:H a=some (.lst xs)):SqX K H a xs:= .inl (.inl h)
noncomputable def zkc:Value→Option V
 | .none=>some .non
 | .bool b=>some (.bl b)
 | .int i _=>some (.int i)
 | .str x _=>some (.str x)
 | .bytes b _=>some (.byt b)
 | .float b _=>some (.flt b)
 | .ref a=>some (.ref a)
 | .type n=>some (.ty n)
 |_=>none
theorem zQ.abs {x:V} {u:Value} (r:zQ x u):zkc u=some x:=by
 cases x with
 |non=>cases r;rfl
 |bl _=>cases r;rfl
 |int _=>obtain ⟨t,rfl⟩:=r;rfl
 |str _=>obtain ⟨t,rfl⟩:=r;rfl
 |byt _=>obtain ⟨t,rfl⟩:=r;rfl
 |flt _=>obtain ⟨t,rfl⟩:=r;rfl
 |ref _=>cases r;rfl
 |ty _=>cases r;rfl
theorem zQ.inj {x y:V} {u:Value} (r:zQ x u) (q:zQ y u):x=y:=Option.some.inj (r.abs.symm.trans q.abs)
theorem zO.inj:∀{xs ys:List V} {us:List Value},zO xs us→zO ys us→xs=ys
 |_,_,_,.nil,.nil=>rfl
 |_,_,_,.cons r t,.cons r' t'=>by rw [r.inj r',zO.inj t t']
section
variable {X:Cx} {pins:List (Addr×Obj)} {σ:St} {H:Hp} {s:Shared} {a:Addr} {xs ys:List V}
theorem SqT.of {K:PySem.W.Frag} (h:H a=some (.tup xs)):SqT K H a xs:= .inl (.inl h)
theorem Inv.list (I:Inv X pins σ H s) (h:SqL X.K H a xs):∃its:List Value,zO xs its∧PlainL s.heap a its.toArray∧xs.length≤sizeLine:=by
 rcases h with h|⟨o,its,n,hk,hc,hd,hs,hz,r⟩
 ·obtain ⟨z,its,n,r,e⟩:=h.ok I.hok
  exact ⟨its,r,⟨_,n,e,rfl,rfl,rfl⟩,z⟩
 ·refine ⟨its.toList,r,⟨o,n,I.kIn a o hk,hc,hd,by simpa using hs⟩,?_⟩
  have e:=r.length
  simp only [Array.length_toList] at e
  omega
theorem Inv.tuple (I:Inv X pins σ H s) (h:SqT X.K H a xs):∃its:List Value,zO xs its∧IsTup s.heap a its.toArray∧xs.length≤sizeLine:=by
 rcases h with h|⟨o,its,n,hk,hc,hs,hz,r⟩
 ·obtain ⟨z,its,r,p⟩:=h.ok I.hok
  exact ⟨its,r,p.tup,z⟩
 ·refine ⟨its.toList,r,⟨o,I.kIn a o hk,hc,n,by simpa using hs⟩,?_⟩
  have e:=r.length
  simp only [Array.length_toList] at e
  omega
theorem Inv.list_inj (I:Inv X pins σ H s) (h:SqL X.K H a xs) (h':SqL X.K H a ys):xs=ys:=by
 obtain ⟨its,r,⟨o,n,e,_,_,d⟩,_⟩:=I.list h
 obtain ⟨its',r',⟨o',n',e',_,_,d'⟩,_⟩:=I.list h'
 rw [e] at e';cases e'
 rw [d] at d'
 injection d' with d1 _
 have:its=its':=by simpa using congrArg Array.toList d1
 subst this
 exact r.inj r'
theorem Inv.tuple_inj (I:Inv X pins σ H s) (h:SqT X.K H a xs) (h':SqT X.K H a ys):xs=ys:=by
 obtain ⟨its,r,⟨o,e,_,n,d⟩,_⟩:=I.tuple h
 obtain ⟨its',r',⟨o',e',_,n',d'⟩,_⟩:=I.tuple h'
 rw [e] at e';cases e'
 rw [d] at d'
 injection d' with d1 _
 have:its=its':=by simpa using congrArg Array.toList d1
 subst this
 exact r.inj r'
end

noncomputable abbrev Cx.wish (X:Cx) (E:Value→Shared→Prop):Cx:={X with xe:=E}
noncomputable abbrev Cx.nox (X:Cx):Cx:=X.wish fun _ _=>False
section
variable {X:Cx} {pins:List (Addr×Obj)} {σ:St} {H:Hp} {s:Shared} {E:Value→Shared→Prop}
end

section
variable {X:Cx} {st:Stmt} {rest:List Stmt} {t u:TS} {e:Expr} {te:TE} {pos:Pos}
noncomputable def zhJ:TS:=fun D σ H=>D.nx σ H
noncomputable def zja (t u:TS):TS:=fun D σ H=>t {D with nx:=u D} σ H
theorem zU:PSs X [] zhJ:=fun _ _ σ H _ I h=>wpAny_execs_nil ⟨σ,H,I,h⟩
theorem zeH (h1:PS X st t) (h2:PSs X rest u):PSs X (st::rest) (zja t u):=by
 intro pins s σ H D I h
 refine wpAny_execs_cons (thn (h1 pins s σ H {D with nx:=u D} I h) fun f s1 q=> ?_)
 cases f with
 |next=>
  obtain ⟨σ',H',I',q⟩:=q
  exact h2 pins s1 σ' H' D I' q
 |ret v=>exact q
 |brk=>exact q
 |cont=>exact q
theorem zgs (h1:PS X st t):PSs X [st] t:=by
 intro pins s σ H D I h
 refine wpAny_execs_cons (thn (h1 pins s σ H D I h) fun f s1 q=> ?_)
 cases f with
 |next=>exact wpAny_execs_nil q
 |ret v=>exact q
 |brk=>exact q
 |cont=>exact q
theorem Inv.quiet {pins:List (Addr×Obj)} {σ:St} {H:Hp} {s:Shared} (I:Inv X pins σ H s):interactive X.env=false:=by simp [interactive,I.ok.kind]
noncomputable def zhK (te:TE):TS:=fun D σ H=>te σ H fun _ H1=>D.nx σ H1
theorem Zw (he:PE X e te) (hs:swapsWith e none pos.line X.env=pure false:=by rfl):PS X (.Expr e pos) (zhK te):=by
 intro pins s σ H D I h
 refine wpAny_Expr_any (thn (he pins s σ H _ I h) ?_) I.quiet hs
 rintro v s1 ⟨x,H1,I1,r1,q1⟩
 exact ⟨σ,H1,I1,q1⟩
noncomputable def zjb (te:TE):TS:=fun D σ H=>te σ H D.rt
theorem zid (he:PE X e te):PS X (.Return (some e) pos) (zjb te):=by
 intro pins s σ H D I h
 refine wpAny_Return_some (thn (he pins s σ H _ I h) ?_)
 rintro v s1 ⟨x,H1,I1,r1,q1⟩
 exact ⟨x,σ,H1,I1,r1,q1⟩
noncomputable def zjc (c:TT) (t u:TS):TS:=fun D σ H=>c σ H fun b H1=>if b=true then t D σ H1 else u D σ H1
theorem yT {c:Expr} {a b:List Stmt} {tc:TT} (hc:PT X c tc) (ha:PSs X a t) (hb:PSs X b u):PS X (.If c a b pos) (zjc tc t u):=by
 intro pins s σ H D I h
 refine wpAny_If (thn (hc pins s σ H _ I h) ?_)
 rintro d s1 ⟨H1,I1,q1⟩
 cases d with
 |true=>exact ha pins s1 σ H1 D I1 q1
 |false=>exact hb pins s1 σ H1 D I1 q1
end

noncomputable abbrev TG:=V→St→Hp→(St→Hp→Prop)→Prop
noncomputable abbrev TGs:=List V→St→Hp→(St→Hp→Prop)→Prop
noncomputable def PG (X:Cx) (target:Expr) (t:TG):Prop:=
 ∀(pins:List (Addr×Obj)) (s:Shared) (σ:St) (H:Hp) (v:V) (u:Value) (Q:St→Hp→Prop),Inv X pins σ H s→zQ v u→t v σ H Q→
  wpAny (model X.prog X.w) X.A (assign target X.env u) (fun _ s'=>∃σ' H',Inv X pins σ' H' s'∧Q σ' H') X.xe s
noncomputable abbrev zkq:=V→V→V→Hp→(Hp→Prop)→Prop
noncomputable abbrev TIp:=V→V→Hp→VK→Prop
section
variable {X:Cx} {pos:Pos}
noncomputable def zdj (i:Nat):TG:=fun v σ H Q=>Q (σ.set i (some v)) H
theorem zV {i:Nat} {x:Str} (hN:X.N.Nodup) (hi:X.N[i]? =some x) (hx:Loc X.env.scope x) (hf:X.fn x=true∨X.env.scope.names.lookup x=some .local:=by first|exact .inl rfl|exact .inr rfl|assumption):PG X (.Name x pos) (zdj i):=by
 intro pins s σ H v u Q I r h
 exact wpAny_assign_Name (zbo I hN hi hx r (fun s' I'=>⟨_,H,I',h⟩) hf)
noncomputable def zjd (te:TE) (g:TG):TS:=fun D σ H=>te σ H fun x H1=>g x σ H1 D.nx
theorem zie {i:Nat} {x:Str} {e:Expr} {te:TE} {pos':Pos} (hN:X.N.Nodup) (hi:X.N[i]? =some x) (hx:Loc X.env.scope x) (he:PE X e te) (hs:swapsWith e (some (.Name x pos')) pos.line X.env=pure false:=by rfl) (hf:X.fn x=true∨X.env.scope.names.lookup x=some .local:=by first|exact .inl rfl|exact .inr rfl|assumption):
  PS X (.Assign [.Name x pos'] e pos) (zjd te (zdj i)):=by
 intro pins s σ H D I h
 refine wpAny_Assign_Name (thn (he pins s σ H _ I h) ?_) hs
 rintro v s1 ⟨y,H1,I1,r1,q1⟩
 exact zbo I1 hN hi hx r1 (fun s2 I2=>⟨_,H1,I2,q1⟩) hf
end

section
variable {X:Cx} {pos:Pos}
noncomputable def zeI (c:TT) (tb:TS):TS:=fun D σ H=>∃W:Nat→St→Hp→Prop,(∃m,W m σ H)∧∀m σ H,W m σ H→
 c σ H fun b H1=>if b=true then ∃N:St→Hp→Prop,(∀σ' H',N σ' H'→∃m',m'<m∧W m' σ' H')∧tb {D with nx:=N,ct:=N,bk:=D.nx} σ H1 else D.nx σ H1
theorem Us {c:Expr} {body:List Stmt} {tc:TT} {tb:TS} (hp:PassesOwn (model X.prog X.w) X.A X.env X.xe) (hc:PT X c tc) (hb:PSs X body tb):PS X (.While c body [] pos) (zeI tc tb):=by
 intro pins s σ H D I h
 obtain ⟨W,⟨m0,w0⟩,turn⟩:=h
 refine wpAny_While (codeAny_whileLoop (fun n s'=>∃σ' H',Inv X pins σ' H' s'∧W n σ' H') ?_ m0 ⟨σ,H,I,w0⟩)
 rintro n s1 ⟨σ1,H1,I1,w1⟩
 refine wpAny_passesOwn hp (thn (hc pins s1 σ1 H1 _ I1 (turn n σ1 H1 w1)) ?_)
 rintro b s2 ⟨H2,I2,q2⟩
 cases b with
 |true=>
  obtain ⟨N,hN,q2⟩:=q2
  rw [if_pos rfl]
  refine wpAny_passesOwn hp (thn (hb pins s2 σ1 H2 _ I2 q2) fun f s3 q3=> ?_)
  cases f with
  |next=>
   obtain ⟨σ3,H3,I3,n3⟩:=q3
   obtain ⟨m',hm,w3⟩:=hN σ3 H3 n3
   exact ⟨m',hm,σ3,H3,I3,w3⟩
  |cont=>
   obtain ⟨σ3,H3,I3,n3⟩:=q3
   obtain ⟨m',hm,w3⟩:=hN σ3 H3 n3
   exact ⟨m',hm,σ3,H3,I3,w3⟩
  |brk=>exact q3
  |ret v=>exact q3
 |false=>
  rw [if_neg Bool.false_ne_true]
  exact wpAny_execs_nil ⟨σ1,H2,I2,q2⟩
end

structure It where
 go:Nat→Hp→Prop
 yld:Nat→Hp→V→Hp→Prop
 stop:Nat→Hp→Prop
noncomputable def zbs (X:Cx) (pins:List (Addr×Obj)) (H:Hp) (b:Addr):Prop:=
 H b=none∧b≠X.env.locals∧b∉X.fs∧(b∈X.ex∨X.s₀.heap.objs.size≤b)∧(∀x c,X.env.cells.lookup x=some c→c≠b)∧∀p∈X.pn++pins,p.1≠b
theorem Inv.fpOk {X:Cx} {pins:List (Addr×Obj)} {σ:St} {H H':Hp} {s:Shared} {b:Addr} (I:Inv X pins σ H s) (hb:s.heap.objs.size≤b) (hn:H' b=none):zbs X pins H' b:=by
 refine ⟨hn,Nat.ne_of_gt (Nat.lt_of_lt_of_le I.lt hb),I.nofs hb,.inr (Nat.le_trans I.sz hb),fun x c e z=> ?_,fun p hp z=> ?_⟩
 ·obtain ⟨v,q⟩:=I.cell x c e
  exact absurd (Nat.lt_of_lt_of_le q.lt (by rw [z];exact hb)) (Nat.lt_irrefl _)
 ·exact absurd (Nat.lt_of_lt_of_le (Heap.lt_size (I.pin p hp).1) (by rw [z];exact hb)) (Nat.lt_irrefl _)
structure zgt (P:Program) (w:World) (K:PySem.W.Frag) (tg:Expr) (J:It) (fp:List Addr) (it:Addr) (tn:Nat→Heap→Prop):Prop where
 mem:it∈fp
 obj:∀i h,tn i h→∀b∈fp,∃o,h.get? b=some o∧∀v,o.data≠ .cell v
 keep:∀i h h',tn i h→(∀b∈fp,∀o,h.get? b=some o→h'.get? b=some o)→tn i h'
 item:∀(X:Cx),X.prog=P→X.w=w→X.K=K→X.calm=true→∀(i:Nat) (pins:List (Addr×Obj)) (s:Shared) (σ:St) (H:Hp) (E:Value→Shared→Prop),Inv X pins σ H s→(∀b∈fp,zbs X pins H b)→tn i s.heap→J.go i H→
  wpAny (model P w) X.A (pyNext (.ref it)) (fun r s1=>∃u,r=some u∧
   wpAny (model P w) X.A (letOwnedTupleGo tg (.ref it) u) (fun _ s2=>∃x H',Inv X pins σ H' s2∧zQ x u∧J.yld i H x H'∧tn (i+1) s2.heap∧∀b∈fp,H' b=none) E s1) E s
 done:∀(X:Cx),X.prog=P→X.w=w→X.K=K→X.calm=true→∀(i:Nat) (pins:List (Addr×Obj)) (s:Shared) (σ:St) (H:Hp) (E:Value→Shared→Prop),Inv X pins σ H s→(∀b∈fp,zbs X pins H b)→tn i s.heap→J.stop i H→
  wpAny (model P w) X.A (pyNext (.ref it)) (fun r s1=>r=none∧Inv X pins σ H s1) E s
 self:∀(A:Around) (i:Nat) (s:Shared) (Q:Value→Shared→Prop) (E:Value→Shared→Prop),tn i s.heap→Q (.ref it) s→wpAny (model P w) A (pyIter (.ref it)) Q E s
noncomputable abbrev TI:=St→Hp→(It→Hp→Prop)→Prop
noncomputable def PIE (X:Cx) (pins:List (Addr×Obj)) (σ:St) (tg:Expr) (R:It→Hp→Prop) (itv:Value) (s2:Shared):Prop:=
 ∃(it:Addr) (fp:List Addr) (tn:Nat→Heap→Prop) (J:It) (H':Hp),itv= .ref it∧Inv X pins σ H' s2∧zgt X.prog X.w X.K tg J fp it tn∧tn 0 s2.heap∧(∀b∈fp,zbs X pins H' b)∧R J H'
noncomputable def PI (X:Cx) (tg iter:Expr) (wi:TI):Prop:=
 ∀(pins:List (Addr×Obj)) (s:Shared) (σ:St) (H:Hp) (R:It→Hp→Prop),Inv X pins σ H s→wi σ H R→
  wpAny (model X.prog X.w) X.A (eval iter X.env) (fun v s1=>wpAny (model X.prog X.w) X.A (pyIter v) (PIE X pins σ tg R) X.xe s1) X.xe s

theorem zeJ {M:Model} {A:Around} {E:Value→Shared→Prop} {s:Shared} {tg:Expr} {it:Addr} {u:Value} {o:Obj} {n:String} {vs:Array Value} {Q:Unit→Shared→Prop} (ho:s.heap.get? it=some o) (hc:o.cls= .type n) (hd:o.data= .fields vs)
    (hn:["enumerate","zip","dict_itemiterator","dict_reverseitemiterator","odict_iterator","itertools.zip_longest","itertools.pairwise"].contains n=false) (hQ:Q () s):wpAny M A (letOwnedTupleGo tg (.ref it) u) Q E s:=by
  unfold letOwnedTupleGo
  cases tg<;>first
    |exact wpAny_pure hQ
    | (cases u <;> first
        |exact wpAny_pure hQ
        | (refine wpAny_bind (wpAny_load ho ?_)
           rw [hc,hd]
           show wpAny M A (if (["enumerate","zip","dict_itemiterator","dict_reverseitemiterator","odict_iterator","itertools.zip_longest","itertools.pairwise"].contains n&&vs[0]? ==some (rawInt _))=true then _ else _) Q E s
           rw [if_neg (by intro h;rw [hn,Bool.false_and] at h;cases h)]
           exact wpAny_pure hQ))

noncomputable def Itl (K:PySem.W.Frag) (a:Addr):It:=
 ⟨fun i H=>∃xs x,SqL K H a xs∧xs[i]? =some x,fun i H x H'=>H'=H∧∀xs,SqL K H a xs→xs[i]? =some x,fun i H=>∃xs,SqL K H a xs∧xs.length≤i⟩
noncomputable def Itt (K:PySem.W.Frag) (a:Addr):It:=
 ⟨fun i H=>∃xs x,SqT K H a xs∧xs[i]? =some x,fun i H x H'=>H'=H∧∀xs,SqT K H a xs→xs[i]? =some x,fun i H=>∃xs,SqT K H a xs∧xs.length≤i⟩
noncomputable def Itr (lo:Int) (n:Nat):It:=⟨fun i _=>i<n,fun i H x H'=>H'=H∧x= .int (lo+i),fun i _=>n≤i⟩
theorem zdY {P:Program} {w:World} {K:PySem.W.Frag} {tg:Expr} (a it:Addr):zgt P w K tg (Itl K a) [it] it (fun i h=>h.IsListIter it a i) where
 mem:=by simp
 obj:=fun i h st b hb=>by
  have e:b=it:=by simpa using hb
  subst e
  obtain ⟨o,e,c,d⟩:=st
  exact ⟨o,e,fun v z=>by rw [d] at z;cases z⟩
 keep:=fun i h h' st k=>st.at fun o e=>k it (by simp) o e
 item:=by
  intro X hP hw hK hc i pins s σ H E I hf st hg
  subst hP hw hK
  obtain ⟨xs,x,hq,hx⟩:=hg
  obtain ⟨its,rv,p,hz⟩:=I.list hq
  obtain ⟨u,hu,ru⟩:=rv.get hx
  obtain ⟨f0,f1,f2,f3,f4,f5⟩:=hf it (by simp)
  refine wpAny_pyNext_list_item st p.isList (x:=u) (by simpa using hu) fun h' st' sb=> ?_
  have I1:Inv X pins σ H {s with heap:=h'}:=I.turned (t':=s.toks) (fun b o hb e=>(sb.2 b hb).trans e) f0 f1 f3 f4 f5
  obtain ⟨o,e,c,d⟩:=id st'
  exact ⟨u,rfl,zeJ (s:={s with heap:=h'}) e c d (by decide) ⟨x,H,I1,ru,⟨rfl,fun ys hy=>by rw [I.list_inj hy hq];exact hx⟩,st',fun b hb=>(hf b hb).1⟩⟩
 done:=by
  intro X hP hw hK hc i pins s σ H E I hf st hg
  subst hP hw hK
  obtain ⟨xs,hq,hx⟩:=hg
  obtain ⟨its,rv,p,hz⟩:=I.list hq
  obtain ⟨f0,f1,f2,f3,f4,f5⟩:=hf it (by simp)
  have hl:=rv.length
  exact wpAny_pyNext_list_end (I.ok.hd hc) st p.isList (by simp;omega) fun h' eb=>⟨rfl,I.turned (t':=s.toks) (fun b o hb e=>eb b o hb e) f0 f1 f3 f4 f5⟩
 self:=fun _ _ _ _ _ st h=>wpAny_pyIter_listiter st h
theorem zcy {P:Program} {w:World} {K:PySem.W.Frag} {tg:Expr} (a it:Addr):zgt P w K tg (Itt K a) [it] it (fun i h=>h.IsTupleIter it a i) where
 mem:=by simp
 obj:=fun i h st b hb=>by
  have e:b=it:=by simpa using hb
  subst e
  obtain ⟨o,e,c,d⟩:=st
  exact ⟨o,e,fun v z=>by rw [d] at z;cases z⟩
 keep:=fun i h h' st k=>st.at fun o e=>k it (by simp) o e
 item:=by
  intro X hP hw hK hc i pins s σ H E I hf st hg
  subst hP hw hK
  obtain ⟨xs,x,hq,hx⟩:=hg
  obtain ⟨its,rv,p,hz⟩:=I.tuple hq
  obtain ⟨u,hu,ru⟩:=rv.get hx
  obtain ⟨f0,f1,f2,f3,f4,f5⟩:=hf it (by simp)
  refine wpAny_pyNext_tuple_item st (show s.heap.IsTuple a its.toArray from p) (x:=u) (by simpa using hu) fun h' st' sb=> ?_
  have I1:Inv X pins σ H {s with heap:=h'}:=I.turned (t':=s.toks) (fun b o hb e=>(sb.2 b hb).trans e) f0 f1 f3 f4 f5
  obtain ⟨o,e,c,d⟩:=id st'
  exact ⟨u,rfl,zeJ (s:={s with heap:=h'}) e c d (by decide) ⟨x,H,I1,ru,⟨rfl,fun ys hy=>by rw [I.tuple_inj hy hq];exact hx⟩,st',fun b hb=>(hf b hb).1⟩⟩
 done:=by
  intro X hP hw hK hc i pins s σ H E I hf st hg
  subst hP hw hK
  obtain ⟨xs,hq,hx⟩:=hg
  obtain ⟨its,rv,p,hz⟩:=I.tuple hq
  obtain ⟨f0,f1,f2,f3,f4,f5⟩:=hf it (by simp)
  have hl:=rv.length
  exact wpAny_pyNext_tuple_end (I.ok.hd hc) st (show s.heap.IsTuple a its.toArray from p) (by simp;omega) fun h' eb=>⟨rfl,I.turned (t':=s.toks) (fun b o hb e=>eb b o hb e) f0 f1 f3 f4 f5⟩
 self:=fun _ _ _ _ _ st h=>wpAny_pyIter_tupleiter st h
theorem zcz {P:Program} {w:World} {K:PySem.W.Frag} {tg:Expr} (it:Addr) (lo:Int) (n:Nat):zgt P w K tg (Itr lo n) [it] it (fun i h=>IsRangeIter h it (lo+(i:Nat)*1) ((n:Int)-(i:Nat)) 1) where
 mem:=by simp
 obj:=fun i h st b hb=>by
  have e:b=it:=by simpa using hb
  subst e
  exact ⟨_,st,fun v z=>by
   have z':Data.fields _=Data.cell v:=z
   cases z'⟩
 keep:=fun i h h' st k=>k it (by simp) _ st
 item:=by
  intro X hP hw hK hc i pins s σ H E I hf st hg
  subst hP hw hK
  obtain ⟨f0,f1,f2,f3,f4,f5⟩:=hf it (by simp)
  have W:=Walks.range (prog:=X.prog) (w:=X.w) (I.ok.hd hc) it lo 1 n
  refine W.item i s _ _ hg st fun v h' tk hv st' kk=> ?_
  obtain ⟨t,rfl⟩:=hv
  have I1:Inv X pins σ H {s with heap:=h',toks:=tk}:=I.turned (fun b o hb e=>kk b o (by simpa using hb) e) f0 f1 f3 f4 f5
  refine ⟨_,rfl,zeJ (s:={s with heap:=h',toks:=tk}) (n:="range_iterator") st' rfl rfl (by decide) ⟨.int (lo+i),H,I1,⟨t,?_⟩,⟨rfl,rfl⟩,st',fun b hb=>(hf b hb).1⟩⟩
  rw [Int.mul_one]
 done:=by
  intro X hP hw hK hc i pins s σ H E I hf st hg
  subst hP hw hK
  obtain ⟨f0,f1,f2,f3,f4,f5⟩:=hf it (by simp)
  exact wpAny_pyNext_range_end (I.ok.hd hc) st (by have:n≤i:=hg;omega) fun h' eb=>⟨rfl,I.turned (t':=s.toks) (fun b o hb e=>eb b o hb e) f0 f1 f3 f4 f5⟩
 self:=fun _ _ _ _ _ st h=>wpAny_pyIter_rangeiter st h
end L2

namespace L2
open PySem PySem.Spec PyProof.Rows
section
variable {X:Cx} {tg:Expr}
noncomputable def zeK (K:PySem.W.Frag) (tl:TE):TI:=fun σ H R=>tl σ H fun x H1=>∃a,x= .ref a∧(∃xs,SqL K H1 a xs)∧R (Itl K a) H1
noncomputable def zif (K:PySem.W.Frag) (tl:TE):TI:=fun σ H R=>tl σ H fun x H1=>∃a,x= .ref a∧(∃xs,SqT K H1 a xs)∧R (Itt K a) H1
theorem zgu {l:Expr} {tl:TE} (hl:PE X l tl):PI X tg l (zeK X.K tl):=by
 intro pins s σ H R I h
 refine thn (hl pins s σ H _ I h) ?_
 rintro v s1 ⟨x,H1,I1,r1,q1⟩
 obtain ⟨a,e,⟨xs,hq⟩,q⟩:=q1
 subst e
 cases r1
 obtain ⟨its,rv,p,hz⟩:=I1.list hq
 refine wpAny_pyIter_list p.isList ?_
 refine ⟨s1.heap.objs.size,[s1.heap.objs.size],_,_,H1,rfl,I1.kept (t':=s1.toks) fun b o e=>Heap.get?_push_of_some _ e,zdY a _,⟨_,Heap.get?_push_size _ rfl,rfl,rfl⟩,fun b hb=> ?_,q⟩
 have e:b=s1.heap.objs.size:=by simpa using hb
 subst e
 exact I1.fpOk (Nat.le_refl _) (I1.hok.fresh (Nat.le_refl _))
theorem zig {l:Expr} {tl:TE} (hl:PE X l tl):PI X tg l (zif X.K tl):=by
 intro pins s σ H R I h
 refine thn (hl pins s σ H _ I h) ?_
 rintro v s1 ⟨x,H1,I1,r1,q1⟩
 obtain ⟨a,e,⟨xs,hq⟩,q⟩:=q1
 subst e
 cases r1
 obtain ⟨its,rv,p,hz⟩:=I1.tuple hq
 refine wpAny_pyIter_tuple (show s1.heap.IsTuple a its.toArray from p) ?_
 refine ⟨s1.heap.objs.size,[s1.heap.objs.size],_,_,H1,rfl,I1.kept (t':=s1.toks) fun b o e=>Heap.get?_push_of_some _ e,zcy a _,⟨_,Heap.get?_push_size _ rfl,rfl,rfl⟩,fun b hb=> ?_,q⟩
 have e:b=s1.heap.objs.size:=by simpa using hb
 subst e
 exact I1.fpOk (Nat.le_refl _) (I1.hok.fresh (Nat.le_refl _))
theorem zeL {pins:List (Addr×Obj)} {σ:St} {H:Hp} {s:Shared} {R:It→Hp→Prop} {E:Value→Shared→Prop} {lo hi:Int} {t u v:Tok} {tk:Nat} (I:Inv X pins σ H s) (h1: -(2^62)≤lo) (h2:lo<2^62) (h3: -(2^62)≤hi) (h4:hi<2^62)
  (q:R (Itr lo (hi-lo).toNat) H):wpAny (model X.prog X.w) X.A (pyIter (.ref s.heap.objs.size)) (PIE X pins σ tg R) E {s with heap:=s.heap.push {cls:= .type "range",data:= .fields #[.int lo t,.int hi u,.int 1 v]},toks:=tk}:=by
 refine wpAny_pyIter_range (IsRange.new ..) (small_one h1 h2 h3 h4) ?_
 have I1:Inv X pins σ H {s with heap:=s.heap.push {cls:= .type "range",data:= .fields #[.int lo t,.int hi u,.int 1 v]},toks:=tk}:=I.kept fun b o e=>Heap.get?_push_of_some _ e
 refine ⟨(s.heap.push {cls:= .type "range",data:= .fields #[.int lo t,.int hi u,.int 1 v]}).objs.size,[(s.heap.push {cls:= .type "range",data:= .fields #[.int lo t,.int hi u,.int 1 v]}).objs.size],_,_,H,rfl,
  I1.kept (t':=tk) fun b o e=>Heap.get?_push_of_some _ e,zcz _ lo (hi-lo).toNat,?_,fun b hb=> ?_,q⟩
 ·have e1:lo+((0:Nat):Int)*1=lo:=by simp
  have e2:(((hi-lo).toNat:Nat):Int)-((0:Nat):Int)=Builtin.Range.rangeSize lo hi 1:=by rw [rangeSize_one];split<;>omega
  show IsRangeIter _ _ (lo+((0:Nat):Int)*1) ((((hi-lo).toNat:Nat):Int)-((0:Nat):Int)) 1
  rw [e1,e2]
  exact Heap.get?_push_size _ rfl
 ·have e:b=(s.heap.push {cls:= .type "range",data:= .fields #[.int lo t,.int hi u,.int 1 v]}).objs.size:=by simpa using hb
  subst e
  exact I1.fpOk (Nat.le_refl _) (I1.hok.fresh (Nat.le_refl _))
noncomputable def zhL (ta:TA):TI:=fun σ H R=>ta σ H fun vs H1=>∃j:Int,vs=[.int j]∧ -(2^62)≤j∧j<2^62∧R (Itr 0 j.toNat) H1
theorem yt {a:Expr} {ta:TA} {p pos:Pos} (hg:Gl X "range") (hm:X.mg "range"=none) (ha:PA X [a] ta) (hs:starEach [a] X.env=[(false,eval a X.env)]:=by rfl):PI X tg (.Call (.Name "range" p) [a] [] pos) (zhL ta):=by
 intro pins s σ H R I h
 refine Call_ (Ve I hg hm boot_range (PyProof.Rows.callWith_type1 (thn (ha pos pins s σ H _ I h) ?_) hs rfl))
 rintro us s1 ⟨vs,H1,I1,r1,q1⟩
 obtain ⟨j,e,q1,q2,q⟩:=q1
 subst e
 cases r1 with
 |cons r rr=>
  cases rr
  obtain ⟨t,rfl⟩:=r
  exact call_range_1 (zeL I1 (by omega) (by omega) q1 q2 (by simpa using q))

noncomputable def zje (wi:TI) (g:TG) (tb:TS):TS:=fun D σ H=>wi σ H fun J H1=>∃W:Nat→Nat→St→Hp→Prop,(∃m,W 0 m σ H1)∧∀i m σ H,W i m σ H→
 (J.stop i H∧D.nx σ H)∨(J.go i H∧∃N:St→Hp→Prop,(∀σ' H',N σ' H'→∃m',m'<m∧W (i+1) m' σ' H')∧∀x H',J.yld i H x H'→g x σ H' fun σ2 H2=>tb {D with nx:=N,ct:=N,bk:=D.nx} σ2 H2)
noncomputable def Ut (fp:List Addr) (h:Heap):List (Addr×Obj):=fp.filterMap fun b=>(h.get? b).map fun o=>(b,o)
theorem Yr {fp:List Addr} {h:Heap} {b:Addr} {o:Obj} (hb:b∈fp) (e:h.get? b=some o):(b,o)∈Ut fp h:=List.mem_filterMap.mpr ⟨b,hb,by rw [e];rfl⟩
theorem zdZ {fp:List Addr} {h:Heap} {p:Addr×Obj} (hp:p∈Ut fp h):p.1∈fp∧h.get? p.1=some p.2:=by
 obtain ⟨b,hb,e⟩:=List.mem_filterMap.mp hp
 cases q:h.get? b with
 |none=>rw [q] at e;cases e
 |some o=>
  rw [q] at e
  have e':(b,o)=p:=Option.some.inj e
  subst e'
  exact ⟨hb,q⟩
theorem Inv.pinned {pins:List (Addr×Obj)} {σ:St} {H:Hp} {s:Shared} {fp:List Addr} (I:Inv X pins σ H s) (hf:∀b∈fp,zbs X pins H b) (ho:∀b∈fp,∃o,s.heap.get? b=some o∧∀v,o.data≠ .cell v):Inv X (pins++Ut fp s.heap) σ H s:=
 I.pins_of fun p hp=>(List.mem_append.mp hp).elim (fun z=>I.pin p (List.mem_append_right _ z)) fun z=>by
  obtain ⟨hb,e⟩:=zdZ z
  obtain ⟨f0,f1,f2,_⟩:=hf p.1 hb
  obtain ⟨o,e',d⟩:=ho p.1 hb
  rw [e] at e';cases e'
  exact ⟨e,f0,f1,f2,d⟩
theorem Inv.unpinned {pins pl:List (Addr×Obj)} {σ:St} {H:Hp} {s:Shared} (I:Inv X (pins++pl) σ H s):Inv X pins σ H s:=I.pins_of fun p hp=>I.pin p (List.mem_append_right _ (List.mem_append_left _ hp))
theorem Ys {iter:Expr} {body:List Stmt} {wi:TI} {g:TG} {tb:TS} {pos:Pos} (hp:PassesOwn (model X.prog X.w) X.A X.env X.xe) (hc:X.calm=true) (hi:PI X tg iter wi) (hg:PG X tg g) (hb:PSs X body tb)
  (hs:∀x,foldedSetIterable iter X.env x=pure x:=by intro _;rfl):PS X (.For tg iter body [] pos) (zje wi g tb):=by
 intro pins s σ H D I h
 refine wpAny_For (thn (hi pins s σ H _ I h) fun v s1 h1=>thn h1 fun itv s2 h2=> ?_) hs
 obtain ⟨it,fp,tn,J,H2,e,I2,T,st2,f2,W,⟨m0,w0⟩,turn⟩:=h2
 subst e
 have stat:∀{H':Hp},(∀b∈fp,H' b=none)→∀b∈fp,zbs X pins H' b:=fun hn b hb=>⟨hn b hb,(f2 b hb).2⟩
 refine codeAny_forLoop_any (fun n s'=>∃i σ' H',Inv X pins σ' H' s'∧tn i s'.heap∧(∀b∈fp,H' b=none)∧W i n σ' H') ?_ m0 ⟨0,σ,H2,I2,st2,fun b hb=>(f2 b hb).1,w0⟩
 rintro n s3 ⟨i,σ3,H3,I3,st3,fr3,w3⟩
 rcases turn i n σ3 H3 w3 with ⟨stop,qn⟩|⟨go,N,hN,step⟩
 ·refine wpAny_passesOwn hp (thn (T.done X rfl rfl rfl hc i pins s3 σ3 H3 X.xe I3 (stat fr3) st3 stop) fun r s4 ⟨hr,I4⟩=> ?_)
  subst hr
  exact wpAny_execs_nil ⟨σ3,H3,I4,qn⟩
 ·refine wpAny_passesOwn hp (thn (T.item X rfl rfl rfl hc i pins s3 σ3 H3 X.xe I3 (stat fr3) st3 go) fun r s4 ⟨u,hr,h4⟩=> ?_)
  subst hr
  refine wpAny_passesOwn hp (thn h4 ?_)
  rintro _ s5 ⟨x,H5,I5,r5,y5,st5,fr5⟩
  have I5':=I5.pinned (stat fr5) (T.obj _ _ st5)
  refine wpAny_passesOwn hp (thn (hg _ s5 σ3 H5 x u _ I5' r5 (step x H5 y5)) ?_)
  rintro _ s6 ⟨σ6,H6,I6,q6⟩
  refine wpAny_passesOwn hp (thn (hb _ s6 σ6 H6 _ I6 q6) fun f s7 q7=> ?_)
  have again:∀{σ7:St} {H7:Hp},Inv X (pins++Ut fp s5.heap) σ7 H7 s7→N σ7 H7→∃m,m<n∧∃i σ' H',Inv X pins σ' H' s7∧tn i s7.heap∧(∀b∈fp,H' b=none)∧W i m σ' H':=fun {σ7 H7} I7 n7=>by
   obtain ⟨m',hm,w7⟩:=hN σ7 H7 n7
   refine ⟨m',hm,i+1,σ7,H7,I7.unpinned,T.keep _ _ _ st5 fun b hb o e=>(I7.pin (b,o) (List.mem_append_right _ (List.mem_append_right _ (Yr hb e)))).1,fun b hb=> ?_,w7⟩
   obtain ⟨o,e,d⟩:=T.obj _ _ st5 b hb
   exact (I7.pin (b,o) (List.mem_append_right _ (List.mem_append_right _ (Yr hb e)))).2.1
  cases f with
  |next=>obtain ⟨σ7,H7,I7,n7⟩:=q7;exact again I7 n7
  |cont=>obtain ⟨σ7,H7,I7,n7⟩:=q7;exact again I7 n7
  |brk=>obtain ⟨σ7,H7,I7,q7⟩:=q7;exact ⟨σ7,H7,I7.unpinned,q7⟩
  |ret v=>obtain ⟨x7,σ7,H7,I7,r7,q7⟩:=q7;exact ⟨x7,σ7,H7,I7.unpinned,r7,q7⟩
end

end L2

namespace L2
open PySem PySem.Spec PyProof.Rows

noncomputable abbrev R2:=V→V→Hp→VK→Prop
noncomputable def OpR (X:Cx) (f:Value→Value→Sem Value) (r:R2):Prop:=
 ∀(pins:List (Addr×Obj)) (s:Shared) (σ:St) (H:Hp) (x y:V) (v u:Value) (Q:VK),Inv X pins σ H s→zQ x v→zQ y u→r x y H Q→
  wpAny (model X.prog X.w) X.A (f v u) (EP X pins σ Q) X.xe s
noncomputable def UnR (X:Cx) (f:Value→Sem Value) (r:V→Hp→VK→Prop):Prop:=
 ∀(pins:List (Addr×Obj)) (s:Shared) (σ:St) (H:Hp) (x:V) (v:Value) (Q:VK),Inv X pins σ H s→zQ x v→r x H Q→
  wpAny (model X.prog X.w) X.A (f v) (EP X pins σ Q) X.xe s
noncomputable def Ya (X:Cx) (f:Value) (r:List V→Hp→VK→Prop):Prop:=
 ∀(pins:List (Addr×Obj)) (s:Shared) (σ:St) (H:Hp) (xs:List V) (us:List Value) (Q:VK),Inv X pins σ H s→zO xs us→r xs H Q→
  wpAny (model X.prog X.w) X.A (call f us) (EP X pins σ Q) X.xe s

noncomputable def tOp (r:R2) (ta tb:TE):TE:=fun σ H Q=>ta σ H fun x H1=>tb σ H1 fun y H2=>r x y H2 Q
noncomputable def tUn (r:V→Hp→VK→Prop) (ta:TE):TE:=fun σ H Q=>ta σ H fun x H1=>r x H1 Q
noncomputable def rI (C:Int→Int→Prop) (g:Int→Int→V):R2:=fun x y H Q=>∃i j,x= .int i∧y= .int j∧C i j∧Q (g i j) H
noncomputable def rI0 (g:Int→Int→V):R2:=fun x y H Q=>∃i j,x= .int i∧y= .int j∧Q (g i j) H
noncomputable def rU (g:Int→V):V→Hp→VK→Prop:=fun x H Q=>∃i,x= .int i∧Q (g i) H

section
variable {X:Cx} {a b c:Expr} {ta tb tc:TE} {pos:Pos}

theorem zih (ha:PE X a ta) (hb:PE X b tb) {pins:List (Addr×Obj)} {s:Shared} {σ:St} {H:Hp} {R:V→V→Hp→Prop} (I:Inv X pins σ H s)
  (h:ta σ H fun x H1=>tb σ H1 fun y H2=>R x y H2) {Q:Value→Shared→Prop} {f:Value→Value→Sem Value}
  (hf:∀v u s2 x y H2,Inv X pins σ H2 s2→zQ x v→zQ y u→R x y H2→wpAny (model X.prog X.w) X.A (f v u) Q X.xe s2):
  wpAny (model X.prog X.w) X.A (eval a X.env) (fun v s₁=>wpAny (model X.prog X.w) X.A (eval b X.env) (fun u s₂=>wpAny (model X.prog X.w) X.A (f v u) Q X.xe s₂) X.xe s₁) X.xe s:=by
 refine thn (ha pins s σ H _ I h) ?_
 rintro v s1 ⟨x,H1,I1,r1,q1⟩
 refine thn (hb pins s1 σ H1 _ I1 q1) ?_
 rintro u s2 ⟨y,H2,I2,r2,q2⟩
 exact hf v u s2 x y H2 I2 r1 r2 q2

theorem zk {op:Operator} {r:R2} (ho:OpR X (binaryOp op) r) (ha:PE X a ta) (hb:PE X b tb):PE X (.BinOp a op b pos) (tOp r ta tb):=by
 intro pins s σ H Q I h
 exact wpAny_BinOp (zih ha hb I h fun v u s2 x y H2 I2 rx ry q=>ho pins s2 σ H2 x y v u Q I2 rx ry q)
theorem zjf {op:UnaryOp} {r:V→Hp→VK→Prop} (ho:UnR X (unaryOp op) r) (ha:PE X a ta):PE X (.UnaryOp op a pos) (tUn r ta):=by
 intro pins s σ H Q I h
 refine UnaryOp_ (thn (ha pins s σ H _ I h) ?_)
 rintro v s1 ⟨x,H1,I1,r1,q1⟩
 exact ho pins s1 σ H1 x v Q I1 r1 q1

theorem opI {f:Value→Value→Sem Value} {C:Int→Int→Prop} {g:Int→Int→Int}
  (rule:∀(i j:Int) (t u:Tok) (s:Shared) (Q:Value→Shared→Prop) (E:Value→Shared→Prop),C i j→Q (.int (g i j) s.toks) {s with toks:=s.toks+1}→wpAny (model X.prog X.w) X.A (f (.int i t) (.int j u)) Q E s):
  OpR X f (rI C fun i j=> .int (g i j)):=by
 intro pins s σ H x y v u Q I rx ry h
 obtain ⟨i,j,rfl,rfl,hc,q⟩:=h
 obtain ⟨t,rfl⟩:=rx
 obtain ⟨t',rfl⟩:=ry
 exact rule i j t t' s _ _ hc ⟨.int (g i j),H,I.tok _,⟨_,rfl⟩,q⟩
theorem zjg {f:Value→Value→Sem Value} {g:Int→Int→Int}
  (rule:∀(i j:Int) (t u:Tok) (s:Shared) (Q:Value→Shared→Prop) (E:Value→Shared→Prop),Q (.int (g i j) s.toks) {s with toks:=s.toks+1}→wpAny (model X.prog X.w) X.A (f (.int i t) (.int j u)) Q E s):
  OpR X f (rI0 fun i j=> .int (g i j)):=by
 intro pins s σ H x y v u Q I rx ry h
 obtain ⟨i,j,rfl,rfl,q⟩:=h
 obtain ⟨t,rfl⟩:=rx
 obtain ⟨t',rfl⟩:=ry
 exact rule i j t t' s _ _ ⟨.int (g i j),H,I.tok _,⟨_,rfl⟩,q⟩

noncomputable def zii (i j:Int):Prop:=0<j∧j<1073741824
noncomputable def zij (i j:Int):Prop:=0≤j∧j≤1000000∧i.natAbs<2^64
noncomputable def zeM (i j:Int):Prop:=(-(2^64)<i∧i<2^64)∨(-(2^64)<j∧j<2^64)
theorem zeM.ok {i j:Int} (h:zeM i j):IntMulOk i j:=by
 rcases h with ⟨h1,h2⟩|⟨h1,h2⟩
 ·exact .of_left (intBits_le_64 h1 h2)
 ·exact .of_right (intBits_le_64 h1 h2)

theorem yX:OpR X (binaryOp .Add) (rI0 fun i j=> .int (i+j)):=zjg fun _ _ _ _ _ _ _ q=>add_int q
theorem Uu:OpR X (binaryOp .Sub) (rI0 fun i j=> .int (i-j)):=zjg fun _ _ _ _ _ _ _ q=>sub_int q
theorem zik:OpR X (binaryOp .Mult) (rI zeM fun i j=> .int (i*j)):=opI fun _ _ _ _ _ _ _ hc q=>mul_int q hc.ok
theorem VR:OpR X (binaryOp .FloorDiv) (rI zii fun i j=> .int (i / j)):=opI fun i j _ _ _ _ _ hc q=>by
 have h1:(0:Int)<j:=hc.1
 have h2:j<1073741824:=hc.2
 exact floordiv_int (by omega) (by rw [Int.fdiv_eq_ediv_of_nonneg i (by omega)];exact q) (.inl (PyProof.noPylong_small (by omega)))
theorem xV:OpR X (binaryOp .Mod) (rI (fun _ j=>0<j) fun i j=> .int (i % j)):=opI fun i j _ _ _ _ _ hc q=>by
 have h1:(0:Int)<j:=hc
 exact mod_int' (by omega) (by rw [Int.fmod_eq_emod_of_nonneg i (by omega)];exact q)
theorem zaw:OpR X (binaryOp .Pow) (rI zij fun i j=> .int (i^j.toNat)):=opI fun _ _ _ _ _ _ _ hc q=>pow_int_small hc.1 hc.2.1 hc.2.2 q


theorem unI {f:Value→Sem Value} {g:Int→Int}
  (rule:∀(i:Int) (t:Tok) (s:Shared) (Q:Value→Shared→Prop) (E:Value→Shared→Prop),Q (.int (g i) s.toks) {s with toks:=s.toks+1}→wpAny (model X.prog X.w) X.A (f (.int i t)) Q E s):
  UnR X f (rU fun i=> .int (g i)):=by
 intro pins s σ H x v Q I rx h
 obtain ⟨i,rfl,q⟩:=h
 obtain ⟨t,rfl⟩:=rx
 exact rule i t s _ _ ⟨.int (g i),H,I.tok _,⟨_,rfl⟩,q⟩
theorem zil:UnR X (unaryOp .USub) (rU fun i=> .int (-i)):=unI fun _ _ _ _ _ q=>neg_int q

end

noncomputable def zkd:V→V→Bool
 | .non,.non=>true| .non,.int _=>true| .int _,.non=>true| .non,.bl _=>true| .bl _,.non=>true| .non,.str _=>true| .str _,.non=>true
 | .int _,.int _=>true| .bl _,.bl _=>true| .str _,.str _=>true| .byt _,.byt _=>true
 | .int _,.str _=>true| .str _,.int _=>true| .bl _,.str _=>true| .str _,.bl _=>true
 |_,_=>false
noncomputable def rEq:R2:=fun x y H Q=>zkd x y=true∧Q (.bl (decide (x=y))) H

theorem zgv {i j:Int}:decide (V.int i=V.int j)=(i==j):=by
 rw [Bool.eq_iff_iff]
 simp
theorem zim {i j:Bool}:decide (V.bl i=V.bl j)=(i==j):=by
 rw [Bool.eq_iff_iff]
 simp
theorem zgw {i j:Str}:decide (V.str i=V.str j)=(i==j):=by
 rw [Bool.eq_iff_iff]
 simp
theorem zgx {i j:Array UInt8}:decide (V.byt i=V.byt j)=(i.toList==j.toList):=by
 rw [Bool.eq_iff_iff]
 cases i
 cases j
 simp

section
variable {X:Cx} {a b c:Expr} {ta tb tc:TE} {pos:Pos}
theorem wq {pins:List (Addr×Obj)} {σ:St} {H:Hp} {s:Shared} {Q:VK} {k k':Bool} (I:Inv X pins σ H s) (q:Q (.bl k) H) (e:k=k'):EP X pins σ Q (.bool k') s:=by
 subst e
 exact ⟨.bl k,H,I,rfl,q⟩
theorem XO:OpR X (compareOp .Eq) rEq:=by
 intro pins s σ H x y v u Q I rx ry h
 obtain ⟨hs,q⟩:=h
 cases x with
 |non=>
  cases rx
  cases y with
  |non=>cases ry;exact PySem.EqNone.eq_none_none (wq I q (by simp))
  |bl j=>cases ry;exact PySem.EqNone.eq_none_bool (wq I q (by simp))
  |int j=>obtain ⟨t',rfl⟩:=ry;exact PySem.EqNone.eq_none_int (wq I q (by simp))
  |str j=>obtain ⟨t',rfl⟩:=ry;exact PySem.EqNone.eq_none_str (wq I q (by simp))
  |_=>exact absurd (show false=true from hs) Bool.false_ne_true
 |bl i=>
  cases rx
  cases y with
  |non=>cases ry;exact PySem.EqNone.eq_bool_none (wq I q (by simp))
  |bl j=>cases ry;exact eq_bool (wq I q zim)
  |str j=>obtain ⟨t',rfl⟩:=ry;exact PySem.EqMixed.eq_bool_str (wq I q (by simp))
  |_=>exact absurd (show false=true from hs) Bool.false_ne_true
 |int i=>
  obtain ⟨t,rfl⟩:=rx
  cases y with
  |non=>cases ry;exact PySem.EqNone.eq_int_none (wq I q (by simp))
  |int j=>obtain ⟨t',rfl⟩:=ry;exact eq_int (wq I q zgv)
  |str j=>obtain ⟨t',rfl⟩:=ry;exact PySem.EqMixed.eq_int_str (wq I q (by simp))
  |_=>exact absurd (show false=true from hs) Bool.false_ne_true
 |str i=>
  obtain ⟨t,rfl⟩:=rx
  cases y with
  |non=>cases ry;exact PySem.EqNone.eq_str_none (wq I q (by simp))
  |bl j=>cases ry;exact PySem.EqMixed.eq_str_bool (wq I q (by simp))
  |int j=>obtain ⟨t',rfl⟩:=ry;exact PySem.EqMixed.eq_str_int (wq I q (by simp))
  |str j=>obtain ⟨t',rfl⟩:=ry;exact eq_str (wq I q zgw)
  |_=>exact absurd (show false=true from hs) Bool.false_ne_true
 |byt i=>
  obtain ⟨t,rfl⟩:=rx
  cases y with
  |byt j=>obtain ⟨t',rfl⟩:=ry;exact PySem.W.eq_bytes (wq I q zgx)
  |_=>exact absurd (show false=true from hs) Bool.false_ne_true
 |_=>cases y<;>exact absurd (show false=true from hs) Bool.false_ne_true





theorem zax {op:CmpOp} {r:R2} (ho:OpR X (compareOp op) r) (ha:PE X a ta) (hb:PE X b tb) (hm:behindInMarks op b=false):PE X (.Compare a [op] [b] pos) (tOp r ta tb):=by
 intro pins s σ H Q I h
 exact wpAny_Compare1 (zih ha hb I h fun v u s2 x y H2 I2 rx ry q=>ho pins s2 σ H2 x y v u Q I2 rx ry q) hm
noncomputable def zhM (t:TE):TT:=fun σ H Q=>t σ H fun x H'=>∃k,x= .bl k∧Q k H'
theorem Yt {op:CmpOp} {r:R2} (ho:OpR X (compareOp op) r) (ha:PE X a ta) (hb:PE X b tb) (hm:behindInMarks op b=false):PT X (.Compare a [op] [b] pos) (zhM (tOp r ta tb)):=by
 intro pins s σ H Q I h
 refine wpAny_isTrue_Compare1 (thn (ha pins s σ H _ I h) fun v s1 ⟨x,H1,I1,r1,q1⟩=>thn (hb pins s1 σ H1 _ I1 q1) fun u s2 ⟨y,H2,I2,r2,q2⟩=>
  thn (ho pins s2 σ H2 x y v u _ I2 r1 r2 q2) fun c s3 ⟨z,H3,I3,r3,k,e,q3⟩=> ?_) hm
 subst e
 cases r3
 exact wpAny_truthy_bool ⟨H3,I3,q3⟩

theorem zay:(sizeLine:Nat)<2^63:=by rw [sizeLine_eq];decide

theorem Wf:OpR X (binaryOp .Add) (fun x y H Q=>∃i j,x= .str i∧y= .str j∧i.length+j.length≤sizeLine∧Q (.str (i++j)) H):=by
 intro pins s σ H x y v u Q I rx ry h
 obtain ⟨i,j,rfl,rfl,hz,q⟩:=h
 obtain ⟨t,rfl⟩:=rx
 obtain ⟨t',rfl⟩:=ry
 exact add_str (fun t' tk=>⟨.str (i++j),H,I.tok _,⟨_,rfl⟩,q⟩) hz


theorem Uv {x:V} {us:List Value} (r:zO [x] us):∃u,us=[u]∧zQ x u:=by
 cases r with
 |cons r1 r2=>cases r2;exact ⟨_,rfl,r1⟩
theorem zhN {x y:V} {us:List Value} (r:zO [x,y] us):∃u w',us=[u,w']∧zQ x u∧zQ y w':=by
 cases r with
 |cons r1 r2=>
  cases r2 with
  |cons r3 r4=>cases r4;exact ⟨_,_,rfl,r1,r3⟩
theorem Uw:Ya X (.builtin "abs") (fun xs H Q=>∃i,xs=[.int i]∧Q (.int (if i<0 then -i else i)) H):=by
 intro pins s σ H xs us Q I r h
 obtain ⟨i,rfl,q⟩:=h
 obtain ⟨u,rfl,t,rfl⟩:=Uv r
 exact call_abs_int fun u tk=>⟨.int (if i<0 then -i else i),H,I.tok _,⟨_,rfl⟩,q⟩
theorem zd0 (hc:X.calm=true):Ya X (.builtin "min") (fun xs H Q=>∃i j,xs=[.int i,.int j]∧Q (.int (if j<i then j else i)) H):=by
 intro pins s σ H xs us Q I r h
 obtain ⟨i,j,rfl,q⟩:=h
 obtain ⟨u,w',rfl,⟨t,rfl⟩,⟨t',rfl⟩⟩:=zhN r
 refine min_two_ints (I.ok.hd hc) fun h' tk k=>⟨_,H,I.kept k,?_,q⟩
 by_cases hj:j<i
 ·rw [if_pos hj,if_pos hj];exact ⟨_,rfl⟩
 ·rw [if_neg hj,if_neg hj];exact ⟨_,rfl⟩
end
end L2

namespace L2
open PySem PySem.Spec PyProof.Rows

structure zcA (h:Heap) (x dx C:Addr) (mA:Str→Option Value):Prop where
 obj:h.get? x=some (PySem.W.instObj C dx)
 ns:h.Ns1 dx mA
 ne:dx≠x

theorem zd1 {h:Heap} {dx:Addr} {mA:Str→Option Value} (n:h.Ns1 dx mA):∃od,h.get? dx=some od∧∀name,PySem.W.lookIn name od=some (mA name):=by
 obtain ⟨o,es,ep,ho,hd,hk,_,hm⟩:=n
 refine ⟨o,ho,fun name=> ?_⟩
 have e:=hm name
 unfold nsFind findBy at e
 rw [←Array.find?_toList] at e
 unfold PySem.W.lookIn
 rw [hd]
 dsimp only
 split
 ·rename_i y q
  rw [q] at e
  exact congrArg some e
 ·rename_i q
  rw [q] at e
  have a:es.toList.any (·.refKey)=false:=by
   rw [List.any_eq_false]
   intro y hy
   obtain ⟨z,t,hkey⟩:=hk y (Array.mem_toList_iff.mp hy)
   simp [DictEntry.refKey,hkey]
  have a':¬es.toList.any (·.refKey)=true:=by rw [a];exact Bool.false_ne_true
  rw [if_neg a']
  exact congrArg some e

theorem zcA.look {h:Heap} {x dx C:Addr} {mA:Str→Option Value} (I:zcA h x dx C mA):∃od,PySem.W.InstAt h x (PySem.W.instObj C dx) C (some od)∧∀name,PySem.W.lookIn name od=some (mA name):=
 let ⟨od,ho,hl⟩:=zd1 I.ns
 ⟨od,⟨I.obj,rfl,rfl,ho⟩,hl⟩

section
variable {prog:Program} {w:World} {A:Around} {E:Value→Shared→Prop} {s:Shared} {K:PySem.W.Frag} {x dx C f:Addr} {mA:Str→Option Value} {name:Str} {v:Value}

theorem zgy {expr:Bool} {Q:Value→Shared→Prop} (X:K.In s.heap) (I:zcA s.heap x dx C mA) (hg:PySem.W.plainGet K C name=true) (hh:PySem.W.hasDictIn K C=true)
  (ha:PySem.W.findIn K (.ref C) name=some none) (hv:mA name=some v) (hv':PySem.W.handedIn v=true) (h:Q v {s with toks:=s.toks+1}):
  wpAny (model prog w) A (getAttr (.ref x) name expr) Q E s:=by
 obtain ⟨od,J,hl⟩:=I.look
 exact PySem.W.get_value X J (PySem.W.plainGet_of hg).1 (PySem.W.findObj_own hh ha rfl (by rw [hl,hv])) hv' h


theorem zeN {pl:Sem Bool} {Q:Value×List Value→Shared→Prop} (X:K.In s.heap) (I:zcA s.heap x dx C mA) (hg:PySem.W.plainGet K C name=true)
  (hf:PySem.W.findIn K (.ref C) name=some (some (.ref f))) (ht:PySem.W.isFn K (.ref f)=true) (hv:mA name=none) (h:Q (.ref f,[.ref x]) s):
  wpAny (model prog w) A (getMethod (.ref x) name pl) Q E s:=by
 obtain ⟨od,J,hl⟩:=I.look
 exact PySem.W.method_fn X J (PySem.W.plainGet_of hg).1 (PySem.W.plainGet_of hg).2 hf (beq_iff_eq.mp ht) (by show (PySem.W.lookIn name od).map (·.isSome)=some false;rw [hl,hv];rfl) h

theorem zgz {ns:List Str} {Q:Unit→Shared→Prop} (X:K.In s.heap) (I:zcA s.heap x dx C mA)
  (hs:PySem.W.findIn K (.ref C) "__setattr__"=some (some (.builtin "object.__setattr__"))) (hp:PySem.W.plainOver K C=true) (ht:PySem.W.takerIn K C name=some none) (hh:PySem.W.hasDictIn K C=true)
  (hw:PySem.Within mA ns) (hsz:ns.length≤sizeLine)
  (h:∀h',zcA h' x dx C (fun y=>if y=name then some v else mA y)→Heap.SameBut dx s.heap h'→Q () {s with heap:=h',toks:=s.toks+2}):
  wpAny (model prog w) A (setAttr (.ref x) name v) Q E s:=by
 obtain ⟨od,J,hl⟩:=I.look
 refine PySem.W.set_plain X J hs (PySem.W.osa_open (s:={s with toks:=s.toks+1}) (r:=none) X J hp ht fun b=> ?_)
 obtain ⟨cd,hc,hd'⟩:=PySem.W.any_some hh
 have hx:s.heap.get? x=some ⟨.ref C,some dx,.plain,#[]⟩:=I.obj
 refine wpAny_bind (wpAny_pure (wpAny_bind (wpAny_bind (wpAny_loadPart hx (wpAny_bind (PySem.W.Looks.here (s:={s with toks:=s.toks+1}) (PySem.W.looks_clsIn X hc) ?_))))))
 rw [hd']
 refine wpAny_pure (a:=some dx) (wpAny_bind (wpAny_pure (wpAny_bind ?_)))
 refine wpAny_nsSet1 (s:={s with toks:=s.toks+1}) I.ns fun h' hn2 hs2=> ?_
 obtain ⟨oD,esD,epD,hoD,hdD,hcD⟩:=hn2.count (PySem.Within.cons name v hw)
 refine wpAny_bind (wpAny_lookBehind hoD (by rw [hdD];exact pastItsLine_dict (Nat.le_trans hcD (by rw [List.length_cons];omega))) ?_)
 exact wpAny_pure (h _ ⟨(hs2.2 _ (Ne.symm I.ne)).trans I.obj,hn2,I.ne⟩ hs2)

theorem zeO {R:Result→Shared→Prop} {vs:List Value} {kw:List (Str×Value)} (X:K.In s.heap) (hm:PySem.W.makesIn K C=true)
  (hi:PySem.W.findIn K (.ref C) "__init__"=some (some (.ref f))) (hf:PySem.W.typeIn K (.ref f)=some (.type "function"))
  (h:codeAny (model prog w) (A.under (.builtin "type.__call__" ⟨.ref C::vs,kw⟩)) (.call (.ref f) ⟨.ref (s.heap.objs.size+1)::vs,kw⟩) (PySem.W.InitBack (s.heap.objs.size+1) R)
   {s with heap:=(s.heap.push PySem.W.emptyDict).push (PySem.W.instObj C s.heap.objs.size)}):
  codeAny (model prog w) A (.call (.ref C) ⟨vs,kw⟩) R s:=by
 obtain ⟨hh,g,d,t,os⟩:=s
 exact PySem.W.make_core (PySem.W.makes_of X hm) (PySem.W.looks_findIn X hi) (fun self=>PySem.W.bind_fn X self hf) (.inl rfl) h
end

noncomputable def Yu (f:Str) (v:V):List (Str×V)→List (Str×V)
 |[]=>[(f,v)]
 |(g,x)::r=>if g=f then (g,v)::r else (g,x)::Yu f v r
theorem Vt (f g:Str) (v:V):∀fs:List (Str×V),(Yu f v fs).lookup g=if g=f then some v else fs.lookup g
 |[]=>by
  show List.lookup g [(f,v)]=_
  by_cases h:g=f
  ·have hb:(g==f)=true:=beq_iff_eq.mpr h
   simp only [List.lookup,hb,if_pos h]
  ·have hb:(g==f)=false:=beq_eq_false_iff_ne.mpr h
   simp only [List.lookup,hb,if_neg h]
 |(k,x)::r=>by
  have ih:=Vt f g v r
  rw [show Yu f v ((k,x)::r)=(if k=f then (k,v)::r else (k,x)::Yu f v r) from rfl]
  by_cases hk:k=f
  ·rw [if_pos hk]
   by_cases h:g=k
   ·have hb:(g==k)=true:=beq_iff_eq.mpr h
    simp only [List.lookup,hb,if_pos (h.trans hk)]
   ·have hb:(g==k)=false:=beq_eq_false_iff_ne.mpr h
    simp only [List.lookup,hb,if_neg (fun e:g=f=>h (e.trans hk.symm))]
  ·rw [if_neg hk]
   by_cases h:g=k
   ·have hb:(g==k)=true:=beq_iff_eq.mpr h
    simp only [List.lookup,hb,if_neg (fun e:g=f=>hk (h.symm.trans e))]
   ·have hb:(g==k)=false:=beq_eq_false_iff_ne.mpr h
    simp only [List.lookup,hb]
    exact ih
theorem Vf (f:Str) (v:V):∀fs:List (Str×V),f∈(Yu f v fs).map (·.1)∧∀g,g∈fs.map (·.1)→g∈(Yu f v fs).map (·.1)
 |[]=>⟨by simp [Yu],fun g h=>by simp at h⟩
 |(k,x)::r=>by
  obtain ⟨i1,i2⟩:=Vf f v r
  rw [show Yu f v ((k,x)::r)=(if k=f then (k,v)::r else (k,x)::Yu f v r) from rfl]
  by_cases hk:k=f
  ·rw [if_pos hk]
   subst hk
   exact ⟨by simp,fun g h=>by simpa using h⟩
  ·rw [if_neg hk]
   refine ⟨?_,fun g h=> ?_⟩
   ·rw [List.map_cons]
    exact List.mem_cons_of_mem _ i1
   ·rw [List.map_cons] at h ⊢
    rcases List.mem_cons.mp h with e|e
    ·exact List.mem_cons.mpr (.inl e)
    ·exact List.mem_cons_of_mem _ (i2 g e)
theorem Vu (f:Str) (v:V):∀fs:List (Str×V),(Yu f v fs).length≤fs.length+1
 |[]=>by simp [Yu]
 |(k,x)::r=>by
  have ih:=Vu f v r
  rw [show Yu f v ((k,x)::r)=(if k=f then (k,v)::r else (k,x)::Yu f v r) from rfl]
  by_cases hk:k=f
  ·rw [if_pos hk,List.length_cons,List.length_cons];omega
  ·rw [if_neg hk,List.length_cons,List.length_cons];omega

theorem Yq.some_of {v:V} {o:Option Value} (r:Yq (some v) o):∃u,o=some u∧zQ v u:=by
 cases o with
 |none=>exact (show False from r).elim
 |some u=>exact ⟨u,rfl,r⟩
theorem Yq.none_of {o:Option Value} (r:Yq none o):o=none:=by
 cases o with
 |none=>rfl
 |some u=>exact (show False from r).elim
theorem zd2 {v:V} {u:Value} (r:zQ v u):PySem.W.handedIn u=true:=by
 cases v with
 |non=>cases (show u=Value.none from r);rfl
 |bl b=>cases (show u=Value.bool b from r);rfl
 |int i=>obtain ⟨t,e⟩:=(show ∃t,u=Value.int i t from r);cases e;rfl
 |str x=>obtain ⟨t,e⟩:=(show ∃t,u=Value.str x t from r);cases e;rfl
 |byt b=>obtain ⟨t,e⟩:=(show ∃t,u=Value.bytes b t from r);cases e;rfl
 |flt b=>obtain ⟨t,e⟩:=(show ∃t,u=Value.float b t from r);cases e;rfl
 |ref a=>cases (show u=Value.ref a from r);rfl
 |ty n=>cases (show u=Value.type n from r);rfl

section
variable {P:Program} {w:World} {H H':Hp} {h h':Heap} {a C dx:Addr} {fs fs':List (Str×V)}
theorem VS (hok:HOk P w H h) (e:H a=some (.ins C dx fs)):∃mA,zcA h a dx C mA∧(∀f,Yq (fs.lookup f) (mA f))∧PySem.Within mA (fs.map (·.1))∧fs.length≤1000∧H dx=some (.own a):=by
 obtain ⟨d,z,ne,ob,mA,n,r,q⟩:=(show yI P w H h a (.ins C dx fs) from hok a _ e)
 exact ⟨mA,⟨ob,n,ne⟩,r,q,z,d⟩
end

structure Cls (K:PySem.W.Frag) (C:Addr):Prop where
 pg:PySem.W.plainGet K C Str.empty=true
 hd:PySem.W.hasDictIn K C=true
 po:PySem.W.plainOver K C=true
 sa:PySem.W.findIn K (.ref C) "__setattr__"=some (some (.builtin "object.__setattr__"))
theorem Cls.get {K:PySem.W.Frag} {C:Addr} (c:Cls K C) (f:Str):PySem.W.plainGet K C f=true:=c.pg
noncomputable def Zg (K:PySem.W.Frag) (C:Addr) (f:Str):Prop:=PySem.W.findIn K (.ref C) f=some none
theorem Zg.taker {K:PySem.W.Frag} {C:Addr} {f:Str} (n:Zg K C f):PySem.W.takerIn K C f=some none:=by
 unfold PySem.W.takerIn
 rw [show PySem.W.findIn K (.ref C) f=some none from n]
 rfl
structure Con (K:PySem.W.Frag) (C:Addr) (f:Str) (v:V) (u:Value):Prop where
 at_:PySem.W.findIn K (.ref C) f=some (some u)
 rel:zQ v u
 get:PySem.W.specialIn K u "__get__"=some none
 cp:PySem.W.copiedNames.contains f=false
structure zin (K:PySem.W.Frag) (C:Addr) (m:Str) (f:Addr):Prop where
 at_:PySem.W.findIn K (.ref C) m=some (some (.ref f))
 fn:PySem.W.isFn K (.ref f)=true
 kp:PySem.W.keepIn K (.ref f)=true

section
variable {X:Cx} {pins:List (Addr×Obj)} {σ:St} {H:Hp} {s:Shared} {a C dx:Addr} {fs:List (Str×V)} {f:Str} {v:V} {A:Around} {E:Value→Shared→Prop}

theorem zcB {b:Bool} {Q:Value→Shared→Prop} (I:Inv X pins σ H s) (e:H a=some (.ins C dx fs)) (c:Cls X.K C) (n:Zg X.K C f) (l:fs.lookup f=some v)
  (h:∀u s',Inv X pins σ H s'→zQ v u→Q u s'):wpAny (model X.prog X.w) A (getAttr (.ref a) f b) Q E s:=by
 obtain ⟨mA,O,r,_,_,_⟩:=VS I.hok e
 obtain ⟨u,hu,ru⟩:=Yq.some_of (v:=v) (o:=mA f) (by rw [←l];exact r f)
 exact zgy I.kIn O (c.get f) c.hd n hu (zd2 ru) (h u _ (I.tok _) ru)


theorem zcC {m:Str} {g:Addr} {pl:Sem Bool} {Q:Value×List Value→Shared→Prop} (I:Inv X pins σ H s) (e:H a=some (.ins C dx fs)) (c:Cls X.K C) (k:zin X.K C m g) (l:fs.lookup m=none)
  (h:Q (.ref g,[.ref a]) s):wpAny (model X.prog X.w) A (getMethod (.ref a) m pl) Q E s:=by
 obtain ⟨mA,O,r,_,_,_⟩:=VS I.hok e
 have hn:mA m=none:=Yq.none_of (by rw [←l];exact r m)
 exact zeN I.kIn O (c.get m) k.at_ k.fn hn h

theorem zcD {y:V} {u:Value} {Q:Unit→Shared→Prop} (I:Inv X pins σ H s) (e:H a=some (.ins C dx fs)) (c:Cls X.K C) (n:Zg X.K C f) (hl:fs.length<1000) (ry:zQ y u)
  (h:∀s',Inv X pins σ (upd H a (.ins C dx (Yu f y fs))) s'→Q () s'):wpAny (model X.prog X.w) A (setAttr (.ref a) f u) Q E s:=by
 obtain ⟨mA,O,r,wi,_,ho⟩:=VS I.hok e
 have hz:(fs.map (·.1)).length≤sizeLine:=by rw [List.length_map,sizeLine_eq];omega
 refine zgz I.kIn O c.sa c.po n.taker c.hd wi hz fun h' O' sb=>h _ ?_
 have hd:∃o,h'.get? dx=some o:=let ⟨o,_,_,e',_⟩:=O'.ns;⟨o,e'⟩
 refine I.write (x:=a) (e:=dx) (by rw [e];exact True.intro) (.inr ho) (fun b q hb z=>(sb.2 b hb).trans z) hd ?_
 refine ⟨by rw [zm O.ne];exact ho,?_,O.ne,O'.obj,_,O'.ns,fun g=> ?_,fun g hg=> ?_⟩
 ·have:=Vu f y fs;omega
 ·show Yq ((Yu f y fs).lookup g) (if g=f then some u else mA g)
  rw [Vt]
  by_cases q:g=f
  ·rw [if_pos q,if_pos q];exact ry
  ·rw [if_neg q,if_neg q];exact r g
 ·by_cases q:g=f
  ·rw [q];exact (Vf f y fs).1
  ·refine (Vf f y fs).2 g (wi g fun z=>hg ?_)
   show (if g=f then some u else mA g)=none
   rw [if_neg q];exact z

theorem Inv.made (I:Inv X pins σ H s):Inv X pins σ (upd (upd H s.heap.objs.size (.own (s.heap.objs.size+1))) (s.heap.objs.size+1) (.ins C s.heap.objs.size []))
  {s with heap:=(s.heap.push PySem.W.emptyDict).push (PySem.W.instObj C s.heap.objs.size)}:=by
 have e1:(s.heap.push PySem.W.emptyDict).get? s.heap.objs.size=some PySem.W.emptyDict:=Heap.get?_push_size s.heap rfl
 have e2:((s.heap.push PySem.W.emptyDict).push (PySem.W.instObj C s.heap.objs.size)).get? (s.heap.objs.size+1)=some (PySem.W.instObj C s.heap.objs.size):=by
  have:=Heap.get?_push_size (s.heap.push PySem.W.emptyDict) (o:=PySem.W.instObj C s.heap.objs.size) rfl
  rwa [Heap.size_push] at this
 have e3:(s.heap.push PySem.W.emptyDict).Ns s.heap.objs.size (fun _=>none):=⟨PySem.W.emptyDict,#[],_,e1,rfl,(fun e he=>absurd he (by simp)),fun _=>rfl⟩
 have I1:=I.laid (a:=s.heap.objs.size) (o:= .own (s.heap.objs.size+1)) (h':=s.heap.push PySem.W.emptyDict) (t':=s.toks) (fun b u q=>Heap.get?_push_of_some _ q) (Nat.le_refl _) ⟨_,e1⟩
 refine I1.laid (a:=s.heap.objs.size+1) (o:= .ins C s.heap.objs.size []) (t':=s.toks) (fun b u q=>Heap.get?_push_of_some _ q) (Nat.le_of_eq (Heap.size_push _ _)) ?_
 have ne:s.heap.objs.size≠s.heap.objs.size+1:=Nat.ne_of_lt (Nat.lt_succ_self _)
 refine ⟨by rw [zm ne,zw],Nat.zero_le _,ne,e2,fun _=>none,(Heap.Ns1.of_empty e3).at fun o q=>Heap.get?_push_of_some _ q,fun _=>True.intro,fun y hy=>absurd rfl hy⟩

theorem zgA {prog:Program} {w:World} {env:Env} {e:Expr} {f:Str} {pos:Pos} {s:Shared} {Q:Value→Shared→Prop} (hb:attributeBase e f env (eval e env)=eval e env)
  (h:wpAny (model prog w) A (eval e env) (fun o s₁=>wpAny (model prog w) A (getAttr o f true) Q E s₁) E s):wpAny (model prog w) A (eval (.Attribute e f pos) env) Q E s:=
 Attribute_any_ h (by rw [arm_eval_Attribute,hb])
end

noncomputable def zjh (K:PySem.W.Frag) (ta:TE) (f:Str):TE:=fun σ H Q=>ta σ H fun x H1=>∃a C dx fs v,x= .ref a∧H1 a=some (.ins C dx fs)∧Cls K C∧Zg K C f∧fs.lookup f=some v∧Q v H1
noncomputable def zji (K:PySem.W.Frag) (ta tv:TE) (f:Str):TS:=fun D σ H=>tv σ H fun y H1=>ta σ H1 fun x H2=>∃a C dx fs,x= .ref a∧H2 a=some (.ins C dx fs)∧Cls K C∧Zg K C f∧fs.length<1000∧
 D.nx σ (upd H2 a (.ins C dx (Yu f y fs)))

section
variable {X:Cx} {o e value:Expr} {f:Str} {pos pos' tpos:Pos} {ta tv:TE}
theorem vG (he:PE X e ta) (hb:attributeBase e f X.env (eval e X.env)=eval e X.env):PE X (.Attribute e f pos) (zjh X.K ta f):=by
 intro pins s σ H Q I h
 refine zgA hb (thn (he pins s σ H _ I h) ?_)
 rintro u s1 ⟨x,H1,I1,rx,a,C,dx,fs,v,ex,ea,c,n,l,q⟩
 subst ex
 obtain rfl:u=Value.ref a:=rx
 exact zcB I1 ea c n l fun u' s2 I2 ru=>⟨v,H1,I2,ru,q⟩
theorem zcE (ha:PE X o ta) (hv:PE X value tv) (hs:swapsWith value (some (.Attribute o f pos')) pos.line X.env=pure false):PS X (.Assign [.Attribute o f pos'] value pos) (zji X.K ta tv f):=by
 intro pins s σ H D I h
 refine plainObj_wpAny_Assign_Attribute (thn (hv pins s σ H _ I h) ?_) hs
 rintro u s1 ⟨y,H1,I1,ry,q⟩
 refine thn (ha pins s1 σ H1 _ I1 q) ?_
 rintro ov s2 ⟨x,H2,I2,rx,a,C,dx,fs,ex,ea,c,n,l,q2⟩
 subst ex
 obtain rfl:ov=Value.ref a:=rx
 exact zcD I2 ea c n l ry fun s3 I3=>⟨σ,_,I3,q2⟩

end

section
variable {X:Cx} {pins:List (Addr×Obj)} {σ:St} {H:Hp} {s:Shared} {A:Around} {E:Value→Shared→Prop} {Q:Value→Shared→Prop} {c:Value} {b:Bool}
inductive VE (K:PySem.W.Frag) (H:Hp):V→Value→Prop where
 |non:VE K H .non (.type "NoneType")
 |bl (x:Bool):VE K H (.bl x) (.type "bool")
 |int (i:Int):VE K H (.int i) (.type "int")
 |str (x:Str):VE K H (.str x) (.type "str")
 |flt (x:UInt64):VE K H (.flt x) (.type "float")
 |lst {a:Addr} {xs:List V} (e:H a=some (.lst xs)):VE K H (.ref a) (.type "list")
 |frz {a:Addr} {o:Obj} {xs:List V} (e:H a=some (.frz o (.lst xs))):VE K H (.ref a) (.type "list")
 |tup {a:Addr} {xs:List V} (e:H a=some (.tup xs)):VE K H (.ref a) (.type "tuple")
 |dK {a:Addr} {kvs:List (Key×V)} (e:H a=some (.dK kvs)):VE K H (.ref a) (.type "dict")
 |dT {a:Addr} {kvs:List (List Key×V)} (e:H a=some (.dT kvs)):VE K H (.ref a) (.type "dict")
 |ins {a C dx:Addr} {fs:List (Str×V)} (e:H a=some (.ins C dx fs)) (cl:Cls K C) (ha:PySem.W.findIn K (.ref C) "__class__"=some (some (.builtin "object.__class__")))
   (hn:PySem.W.specialIn K (.builtin "object.__class__") "__get__"=some (some (.builtin "getset_descriptor.__get__"))) (htk:PySem.W.takesIn K (.builtin "object.__class__")=some true)
   (hm:PySem.W.mroIn K C (.type "object")=some true):VE K H (.ref a) (.ref C)
end
end L2

namespace L2
open PySem PySem.Spec PyProof.Rows

structure wc (k:Nat) (A:Around):Prop where
 hd:A.handled=none
 dp:A.depth+3*k+5<recursionLimit
 un:A.units+16*k+200<cLine
 gd:A.guards=some []
theorem wc.mono {j k:Nat} {A:Around} (r:wc k A) (h:j≤k):wc j A:=⟨r.hd,by have:=r.dp;omega,by have:=r.un;omega,r.gd⟩
theorem wc.deeper {k:Nat} {A:Around} (r:wc (k+1) A) (env:Env):wc k (A.deeper env):=
 ⟨r.hd,by have:=r.dp;show A.depth+1+3*k+5<_;omega,by have:=r.un;show A.units+3+16*k+200<_;omega,r.gd⟩
theorem zcF {A:Around} {C:Addr} {us:List Value} {kw:List (Str×Value)}:(A.under (.builtin "type.__call__" ⟨.ref C::us,kw⟩)).depth=A.depth+1:=by
 first|rfl|simp [Around.under,Code.weight,Code.isCreation,Code.isGuard,Code.isCaller,Code.frames,Code.isFrame,guardIds]
theorem zcG {A:Around} {C:Addr} {us:List Value} {kw:List (Str×Value)}:(A.under (.builtin "type.__call__" ⟨.ref C::us,kw⟩)).units=A.units+1:=by
 first|rfl|simp [Around.under,Code.cUnits,Code.frames,Code.isFrame]
theorem wc.make {k:Nat} {A:Around} (r:wc (k+1) A) (C:Addr) (us:List Value) (kw:List (Str×Value)):wc k (A.under (.builtin "type.__call__" ⟨.ref C::us,kw⟩)):=
 ⟨r.hd,by have:=r.dp;rw [zcF];omega,by have:=r.un;rw [zcG];omega,r.gd⟩
theorem wc.depth {k:Nat} {A:Around} (r:wc k A):A.depth<recursionLimit:=by have:=r.dp;omega

noncomputable def zgB:TA:=fun _ H Q=>Q [] H
noncomputable def zbt (ta:TE) (tr:TA):TA:=fun σ H Q=>ta σ H fun x H1=>tr σ H1 fun xs H2=>Q (x::xs) H2
section
variable {X:Cx} {e:Expr} {es:List Expr} {te:TE} {t:TA} {pos:Pos}
theorem zf:PA X [] zgB:=fun _ _ _ _ H Q I h=>Calls.spliced_nil ⟨[],H,I,.nil,h⟩
theorem zE (ha:PE X e te) (hr:PA X es t) (hs:starEach (e::es) X.env=(false,eval e X.env)::starEach es X.env:=by rfl):PA X (e::es) (zbt te t):=by
 intro pos pins s σ H Q I h
 rw [hs]
 show wpAny _ _ (spliced ((false,eval e X.env)::backTo pos (starEach es X.env))) _ _ s
 refine Calls.spliced_cons (thn (ha pins s σ H _ I h) ?_)
 rintro u s1 ⟨x,H1,I1,r1,q1⟩
 refine thn (hr pos pins s1 σ H1 _ I1 q1) ?_
 rintro us s2 ⟨xs,H2,I2,r2,q2⟩
 exact ⟨x::xs,H2,I2,.cons r1 r2,q2⟩

noncomputable def zjj (t:TA):TE:=fun σ H Q=>t σ H fun xs H1=>xs.length≤sizeLine∧∀p,H1 p=none→Q (.ref p) (upd H1 p (.tup xs))
noncomputable def zjk (t:TA):TE:=fun σ H Q=>t σ H fun xs H1=>xs.length≤sizeLine∧∀p,H1 p=none→Q (.ref p) (upd H1 p (.lst xs))
theorem zio {x1} (h:PA X es t):PE X (.Tuple es x1 pos) (zjj t):=by
 intro pins s σ H Q I hq
 refine wpAny_Tuple_spliced (thn (h pos pins s σ H _ I hq) fun us s1 ⟨xs,H1,I1,r,z,q⟩=>⟨by rw [←r.length];exact z,?_⟩)
 have hf:H1 s1.heap.objs.size=none:=I1.hok.fresh (Nat.le_refl _)
 refine ⟨.ref s1.heap.objs.size,upd H1 s1.heap.objs.size (.tup xs),I1.laid (t':=s1.toks) (fun b u e=>Heap.get?_push_of_some _ e) (Nat.le_refl _) ?_,rfl,q _ hf⟩
 exact ⟨z,us,r,⟨_,Heap.get?_push_size _ rfl,rfl,_,rfl,rfl⟩⟩
theorem ZK (h:PA X es t):PE X (.List es pos) (zjk t):=by
 intro pins s σ H Q I hq
 refine wpAny_List_spliced (thn (h pos pins s σ H _ I hq) fun us s1 ⟨xs,H1,I1,r,z,q⟩=>⟨by rw [←r.length];exact z,?_⟩)
 have hf:H1 s1.heap.objs.size=none:=I1.hok.fresh (Nat.le_refl _)
 refine ⟨.ref s1.heap.objs.size,upd H1 s1.heap.objs.size (.lst xs),I1.laid (t':=s1.toks) (fun b u e=>Heap.get?_push_of_some _ e) (Nat.le_refl _) ?_,rfl,q _ hf⟩
 exact ⟨z,us,0,r,Heap.get?_push_size _ rfl⟩
end

noncomputable abbrev Sp:=List V→Hp→VK→XK→Prop
noncomputable abbrev CXT:=List Env→Hp→Shared→XK→Value→Shared→Prop

structure Tg (P:Program) (w:World) (K:PySem.W.Frag) (mg:Str→Option Value) (base:Heap) (A:Around) (outer:List Env) (s:Shared) (H:Hp):Prop where
 frames:A.frames=some outer
 mod:Mod K mg base
 bs:∀b o,base.get? b=some o→s.heap.get? b=some o∧H b=none
 bsz:base.objs.size≤s.heap.objs.size
 funs:s.heap.FunFrames base outer
 frf:∀b∈frs outer,H b=none
 hok:HOk P w H s.heap
 bare:AllBare s.gens
noncomputable def CE (outer:List Env) (P:Program) (w:World) (H:Hp) (s:Shared) (Q:VK) (u:Value) (s':Shared):Prop:=
 ∃v H',s'.os=s.os∧AllBare s'.gens∧Un (frs outer) [] H H' s.heap s'.heap∧HOk P w H' s'.heap∧zQ v u∧Q v H'
noncomputable def CR (CX:CXT) (outer:List Env) (P:Program) (w:World) (H:Hp) (s:Shared) (Q:VK) (E:XK) (r:Result) (s':Shared):Prop:=
 match r with
 | .ok (.ret u)=>CE outer P w H s Q u s'
 | .ok _=>False
 | .error e=>CX outer H s E e s'
structure yj (P:Program) (w:World) (K:PySem.W.Frag) (mg:Str→Option Value) (base:Heap) (CX:CXT) (k:Nat) (f:Addr) (fd:FuncData) (ps:List Str) (sp:Sp):Prop where
 len:∀vs H Q E,sp vs H Q E→vs.length=ps.length
 run:∀(A:Around) (outer:List Env) (s:Shared) (H:Hp) (args:Args) (us:List Value) (vs:List V) (Q:VK) (E:XK),wc k A→Tg P w K mg base A outer s H→BindsTo s fd args (ps.zip us)→zO vs us→sp vs H Q E→
  codeAny (model P w) A (.call (.ref f) args) (CR CX outer P w H s Q E) s
theorem yj.imp {P:Program} {w:World} {K:PySem.W.Frag} {mg:Str→Option Value} {base:Heap} {CX:CXT} {k:Nat} {f:Addr} {fd:FuncData} {ps:List Str} {sp sp':Sp} (F:yj P w K mg base CX k f fd ps sp)
  (h:∀vs H Q E,sp' vs H Q E→sp vs H Q E):yj P w K mg base CX k f fd ps sp':=
 ⟨fun vs H Q E q=>F.len vs H Q E (h _ _ _ _ q),fun A outer s H args us vs Q E hr he hb hv hs=>F.run A outer s H args us vs Q E hr he hb hv (h _ _ _ _ hs)⟩

theorem Tg.make {P:Program} {w:World} {K:PySem.W.Frag} {mg:Str→Option Value} {base:Heap} {A:Around} {outer:List Env} {s:Shared} {H:Hp} (e:Tg P w K mg base A outer s H) (C:Addr) (us:List Value) (kw:List (Str×Value)):
  Tg P w K mg base (A.under (.builtin "type.__call__" ⟨.ref C::us,kw⟩)) outer s H:=⟨by first|exact e.frames|(simpa [Around.under,Code.envs,Code.isFrame,pushEnvs] using e.frames),e.mod,e.bs,e.bsz,e.funs,e.frf,e.hok,e.bare⟩

section
variable {X:Cx} {pins:List (Addr×Obj)} {σ:St} {H:Hp} {s s':Shared}
theorem Inv.env0 (I:Inv X pins σ H s):Tg X.prog X.w X.K X.mg X.base X.A X.stack s H:=
 ⟨I.ok.frames,I.ok.mod,I.bs,Nat.le_trans I.ok.bsz I.sz,I.stack,I.stkFree,I.hok,I.bare⟩
theorem Inv.after {Q:VK} {u:Value} (I:Inv X pins σ H s) (h:CE X.stack X.prog X.w H s Q u s'):EP X pins σ Q u s':=by
 obtain ⟨v,H',os,bare,un,hok,r,q⟩:=h
 obtain ⟨hh,g,d,t,os'⟩:=s'
 obtain rfl:os'=s.os:=os
 exact ⟨v,H',I.call (h':=hh) (g':=g) (d':=d) (t':=t) (ch:=[]) un hok bare (fun b z=>absurd z (by simp)),r,q⟩
end

noncomputable def zhO (sp:Sp) (dvs:List V) (E:XK) (t:TA):TE:=fun σ H Q=>t σ H fun vs H1=>sp (vs++dvs) H1 Q E
noncomputable def zeP (C:Addr) (m:Str) (sp:Sp) (dvs:List V) (E:XK) (ta:TE) (t:TA):TE:=fun σ H Q=>ta σ H fun x H1=>∃a dx fs,x= .ref a∧H1 a=some (.ins C dx fs)∧fs.lookup m=none∧
 t σ H1 fun vs H2=>sp (x::(vs++dvs)) H2 Q E
noncomputable def zhP (C:Addr) (sp:Sp) (dvs:List V) (E:XK) (t:TA):TE:=fun σ H Q=>t σ H fun vs H1=>∀x dx,H1 x=none→H1 dx=none→dx≠x→
 sp (.ref x::(vs++dvs)) (upd (upd H1 dx (.own x)) x (.ins C dx [])) (fun v H2=>v= .non∧Q (.ref x) H2) E

noncomputable def XQ (K:PySem.W.Frag) (fd:FuncData) (ps:List Str) (ds:List Value):Prop:=
 ∀(s:Shared) (us:List Value),K.In s.heap→(us++ds).length=ps.length→BindsTo s fd ⟨us,[]⟩ (ps.zip (us++ds))
theorem XQ.all {K:PySem.W.Frag} {fd:FuncData} {ps:List Str} (h:∀us:List Value,us.length=ps.length→bindArgs fd ⟨us,[]⟩=pure (ps.zip us)):XQ K fd ps []:=fun s us _ hl=>by
 rw [List.append_nil] at hl ⊢
 exact .of_eq (h us hl)

noncomputable def Wg (CX:CXT) (X:Cx) (E:XK):Prop:=∀(pins:List (Addr×Obj)) (σ:St) (H:Hp) (s:Shared) (e:Value) (s':Shared),Inv X pins σ H s→CX X.stack H s E e s'→X.xe e s'

section
variable {X:Cx} {CX:CXT} {k:Nat} {f C:Addr} {fd:FuncData} {ps:List Str} {sp:Sp} {dvs:List V} {ds:List Value} {E:XK} {x m:Str} {p pos apos:Pos} {e o:Expr} {es:List Expr} {ta:TE} {t:TA}

theorem zeQ {pins:List (Addr×Obj)} {σ:St} {H:Hp} {s:Shared} {Q:VK} {us:List Value} {vs:List V} (F:yj X.prog X.w X.K X.mg X.base CX k f fd ps sp) (hr:wc k X.A) (hb:XQ X.K fd ps ds) (hd:zO dvs ds) (hx:Wg CX X E)
  (I:Inv X pins σ H s) (r:zO vs us) (h:sp (vs++dvs) H Q E):wpAny (model X.prog X.w) X.A (call (.ref f) us) (EP X pins σ Q) X.xe s:=by
 have r2:zO (vs++dvs) (us++ds):=r.append hd
 have hl:(us++ds).length=ps.length:=by rw [←r2.length];exact F.len _ _ _ _ h
 refine wpAny_call (codeAny_mono (F.run X.A X.stack s H ⟨us,[]⟩ (us++ds) (vs++dvs) Q E hr I.env0 (hb s us I.kIn hl) r2 h) fun r s' hq=> ?_)
 cases r with
 |error e=>exact hx pins σ H s e s' I hq
 |ok fl=>
  cases fl with
  |ret u=>exact I.after hq
  |next=>exact False.elim hq
  |brk=>exact False.elim hq
  |cont=>exact False.elim hq

theorem zgC (F:yj X.prog X.w X.K X.mg X.base CX k f fd ps sp) (hr:wc k X.A) (hg:Gl X x) (hm:X.mg x=some (.ref f)) (hk:PySem.W.keepIn X.K (.ref f)=true) (hb:XQ X.K fd ps ds) (hd:zO dvs ds) (hx:Wg CX X E)
  (ha:PA X (e::es) t) (hdb:(x==("__debug__":Str))=false:=by decide) (he:starEach (e::es) X.env=(false,eval e X.env)::starEach es X.env:=by rfl) (hpl:(backTo pos (starEach es X.env)).any (·.1)=false:=by rfl):
  PE X (.Call (.Name x p) (e::es) [] pos) (zhO sp dvs E t):=by
 intro pins s σ H Q I h
 refine wpAny_Call_Name_kw (zdh I hg hm ?_ hdb)
 refine PySem.W.callWith_K (h₀:=X.base) I.ok.mod.kin hk (thn (ha pos pins s σ H _ I h) ?_) he hpl
 rintro us s1 ⟨vs,H1,I1,r,q⟩
 refine ⟨I1.kIn,?_⟩
 exact zeQ F hr hb hd hx I1 r q

theorem ye {pl:Sem Bool} (he:PE X o ta) (c:Cls X.K C) (hm:zin X.K C m f) (F:yj X.prog X.w X.K X.mg X.base CX k f fd ps sp) (hr:wc k X.A) (hb:XQ X.K fd ps ds) (hd:zO dvs ds) (hx:Wg CX X E) (ha:PA X (e::es) t)
  (hst:starEach (e::es) X.env=(false,eval e X.env)::starEach es X.env:=by rfl) (hpl:(backTo pos (starEach es X.env)).any (·.1)=false:=by rfl)
  (ht:eval (.Call (.Attribute o m apos) (e::es) [] pos) X.env=(do
   let ov ←eval o X.env
   standAt apos.atName
   let (f,first) ←holding [ov] (getMethod ov m pl)
   callWith pos f first (backTo pos (starEach (e::es) X.env)) (backToKw pos (keywordEach [] X.env))):=by rfl):
  PE X (.Call (.Attribute o m apos) (e::es) [] pos) (zeP C m sp dvs E ta t):=by
 intro pins s σ H Q I h
 refine PySem.W.methodCall_KW (pl:=pl) (thn (he pins s σ H _ I h) ?_) ht
 rintro u s1 ⟨x,H1,I1,rx,a,dx,fs,ex,ea,l,q⟩
 subst ex
 obtain rfl:u=Value.ref a:=rx
 refine zcC I1 ea c hm l ?_
 refine PySem.W.callWith_K (first:=[.ref a]) (h₀:=X.base) I.ok.mod.kin hm.kp (thn (ha pos pins s1 σ H1 _ I1 q) ?_) hst hpl
 rintro us s2 ⟨vs,H2,I2,r,q2⟩
 refine ⟨I2.kIn,?_⟩
 exact zeQ (us:= .ref a::us) (vs:= .ref a::vs) F hr hb hd hx I2 (.cons rfl r) q2

structure Mk (K:PySem.W.Frag) (C f:Addr):Prop where
 makes:PySem.W.makesIn K C=true
 init:PySem.W.findIn K (.ref C) "__init__"=some (some (.ref f))
 fn:PySem.W.isFn K (.ref f)=true
 kp:PySem.W.keepIn K (.ref C)=true

theorem zeR {pins:List (Addr×Obj)} {σ:St} {H:Hp} {s:Shared} {Q:VK} {us:List Value} {vs:List V} (M:Mk X.K C f) (F:yj X.prog X.w X.K X.mg X.base CX k f fd ps sp) (hr:wc (k+1) X.A) (hb:XQ X.K fd ps ds) (hd:zO dvs ds)
  (hx:Wg CX X E) (I:Inv X pins σ H s) (r:zO vs us)
  (h:∀x dx,H x=none→H dx=none→dx≠x→sp (.ref x::(vs++dvs)) (upd (upd H dx (.own x)) x (.ins C dx [])) (fun v H2=>v= .non∧Q (.ref x) H2) E):
  wpAny (model X.prog X.w) X.A (call (.ref C) us) (EP X pins σ Q) X.xe s:=by
 have hq:=h (s.heap.objs.size+1) s.heap.objs.size (I.hok.fresh (Nat.le_succ _)) (I.hok.fresh (Nat.le_refl _)) (Nat.ne_of_lt (Nat.lt_succ_self _))
 have I2:=Inv.made (C:=C) I
 have r2:zO (V.ref (s.heap.objs.size+1)::(vs++dvs)) (Value.ref (s.heap.objs.size+1)::(us++ds)):= .cons rfl (r.append hd)
 have hl:(Value.ref (s.heap.objs.size+1)::us++ds).length=ps.length:=by
  have e:=r2.length
  rw [F.len _ _ _ _ hq] at e
  exact e.symm
 refine wpAny_call (zeO (f:=f) I.kIn M.makes M.init (beq_iff_eq.mp M.fn) (codeAny_mono (F.run _ X.stack _ _ ⟨Value.ref (s.heap.objs.size+1)::us,[]⟩ (Value.ref (s.heap.objs.size+1)::(us++ds)) _ _ E (hr.make C us [])
  (I2.env0.make C us []) (hb _ (Value.ref (s.heap.objs.size+1)::us) I2.kIn hl) r2 hq) fun r s' hq'=> ?_))
 cases r with
 |error e=>exact hx pins σ _ _ e s' I2 hq'
 |ok fl=>
  cases fl with
  |ret u=>
   obtain ⟨v,H',I3,rv,ev,q3⟩:=I2.after hq'
   subst ev
   exact ⟨rv,⟨V.ref (s.heap.objs.size+1),H',I3,rfl,q3⟩⟩
  |next=>exact False.elim hq'
  |brk=>exact False.elim hq'
  |cont=>exact False.elim hq'
theorem zgD (M:Mk X.K C f) (F:yj X.prog X.w X.K X.mg X.base CX k f fd ps sp) (hr:wc (k+1) X.A) (hg:Gl X x) (hm:X.mg x=some (.ref C)) (hb:XQ X.K fd ps ds) (hd:zO dvs ds) (hx:Wg CX X E)
  (ha:PA X (e::es) t) (hdb:(x==("__debug__":Str))=false:=by decide) (he:starEach (e::es) X.env=(false,eval e X.env)::starEach es X.env:=by rfl) (hpl:(backTo pos (starEach es X.env)).any (·.1)=false:=by rfl):
  PE X (.Call (.Name x p) (e::es) [] pos) (zhP C sp dvs E t):=by
 intro pins s σ H Q I h
 refine wpAny_Call_Name_kw (zdh I hg hm ?_ hdb)
 refine PySem.W.callWith_K (h₀:=X.base) I.ok.mod.kin M.kp (thn (ha pos pins s σ H _ I h) ?_) he hpl
 rintro us s1 ⟨vs,H1,I1,r,q⟩
 refine ⟨I1.kIn,?_⟩
 exact zeR M F hr hb hd hx I1 r q
end

section
variable {X:Cx} {CX:CXT} {k:Nat} {f C:Addr} {fd:FuncData} {ps ks:List Str} {sp:Sp} {E:XK} {x m:Str} {p pos apos kpos:Pos} {e o:Expr} {es:List Expr} {kws:List Keyword} {te ta:TE} {t tk:TA} {nm:Option Str}

structure zke (K:PySem.W.Frag) (fd:FuncData) (ps ks:List Str) (g:List Value→List Value→List Value) (gV:List V→List V→List V):Prop where
 to:∀(s:Shared) (us ws:List Value),K.In s.heap→(g us ws).length=ps.length→BindsTo s fd ⟨us,ks.zip ws⟩ (ps.zip (g us ws))
 rel:∀{vs:List V} {us:List Value} {zs:List V} {ws:List Value},zO vs us→zO zs ws→zO (gV vs zs) (g us ws)
variable {g:List Value→List Value→List Value} {gV:List V→List V→List V}
end

structure zv (N P:List Str) (sc:Scope):Prop where
 kind:sc.kind= .function
 co:sc.isCoroutine=false
 gen:sc.isGenerator=false
 nd:N.Nodup
 pre:N.take P.length=P
 par:∀x∈P,sc.names.lookup x=some .local∨sc.names.lookup x=some .cell
 nofree:∀y∈sc.names,y.2≠ .free

theorem TK {kindOf:Str→Option NameKind} {x:Str}:∀{binds:List (Str×Value)} {m:Str→Option Value},(∀v,(x,v)∉binds)→bindL kindOf binds m x=m x
 |[],_,_=>rfl
 |(n,v)::r,m,h=>by
  unfold bindL
  rw [TK fun w hw=>h w (List.mem_cons_of_mem _ hw)]
  split
  ·have:x≠n:=by rintro rfl;exact h v List.mem_cons_self
   simp [this]
  ·rfl
theorem TL {kindOf:Str→Option NameKind} {x:Str}:∀{binds:List (Str×Value)} {m:Str→Option Value},(∀v,(x,v)∉binds)→bindC kindOf binds m x=m x
 |[],_,_=>rfl
 |(n,v)::r,m,h=>by
  unfold bindC
  rw [TL fun w hw=>h w (List.mem_cons_of_mem _ hw)]
  split
  ·rfl
  ·have:x≠n:=by rintro rfl;exact h v List.mem_cons_self
   simp [this]
theorem TM {kindOf:Str→Option NameKind} {x:Str} {v:Value}:∀{P:List Str} {vs:List Value} {i:Nat} {m:Str→Option Value},P.Nodup→P[i]? =some x→vs[i]? =some v→kindOf x=some .local→
  bindL kindOf (P.zip vs) m x=some v
 |[],_,_,_,_,h,_,_=>by simp at h
 |_::_,[],_,_,_,_,h,_=>by simp at h
 |p::P,w::vs,0,m,nd,h1,h2,hk=>by
  simp at h1 h2;subst h1;subst h2
  show bindL kindOf ((p,w)::P.zip vs) m p=_
  unfold bindL
  rw [TK fun v hv=>(List.nodup_cons.mp nd).1 (List.of_mem_zip hv).1,if_pos hk]
  simp
 |p::P,w::vs,i+1,m,nd,h1,h2,hk=>by
  show bindL kindOf ((p,w)::P.zip vs) m x=_
  unfold bindL
  exact TM (i:=i) (List.nodup_cons.mp nd).2 (by simpa using h1) (by simpa using h2) hk
theorem TN {kindOf:Str→Option NameKind} {x:Str} {v:Value}:∀{P:List Str} {vs:List Value} {i:Nat} {m:Str→Option Value},P.Nodup→P[i]? =some x→vs[i]? =some v→kindOf x≠some .local→
  bindC kindOf (P.zip vs) m x=some v
 |[],_,_,_,_,h,_,_=>by simp at h
 |_::_,[],_,_,_,_,h,_=>by simp at h
 |p::P,w::vs,0,m,nd,h1,h2,hk=>by
  simp at h1 h2;subst h1;subst h2
  show bindC kindOf ((p,w)::P.zip vs) m p=_
  unfold bindC
  rw [TL fun v hv=>(List.nodup_cons.mp nd).1 (List.of_mem_zip hv).1,if_neg hk]
  simp
 |p::P,w::vs,i+1,m,nd,h1,h2,hk=>by
  show bindC kindOf ((p,w)::P.zip vs) m x=_
  unfold bindC
  exact TN (i:=i) (List.nodup_cons.mp nd).2 (by simpa using h1) (by simpa using h2) hk

noncomputable def Zx (N:List Str) (vs:List V):St:=vs.map some++List.replicate (N.length-vs.length) none

noncomputable def Th (CX:CXT) (P:Program) (w:World) (K:PySem.W.Frag) (mg:Str→Option Value) (base:Heap) (N:List Str) (qual:Str) (scope:Scope) (f:Addr) (cd:Value) (A:Around) (outer:List Env) (s:Shared) (H:Hp) (E:XK):Cx where
 prog:=P
 w:=w
 K:=K
 mg:=mg
 base:=base
 A:=A.deeper (envOfC qual scope s.heap.objs.size f cd)
 N:=N
 s₀:=s
 H₀:=H
 env:=envOfC qual scope s.heap.objs.size f cd
 outer:=outer
 stack:=envOfC qual scope s.heap.objs.size f cd::outer
 ex:=[]
 calm:=true
 fn:=fun _=>true
 zn:=fun _=>false
 pn:=[]
 xe:=fun e s'=>wpAny (model P w) (A.deeper (envOfC qual scope s.heap.objs.size f cd)) (leaving (envOfC qual scope s.heap.objs.size f cd) e) (fun _ s''=>CX outer H s E e s'') (fun e' s''=>CX outer H s E e' s'') s'

theorem zbu {sc:Scope} {n:Nat} {x:Str} (h:sc.names.lookup x=some .cell):∃c,(cellsFrom n sc.names []).lookup x=some c:=by
 have q:=PySem.W.cellsFrom_some sc.names n [] (.inl h)
 exact Option.isSome_iff_exists.mp q

theorem TQ {CX:CXT} {P:Program} {w:World} {K:PySem.W.Frag} {mg:Str→Option Value} {base:Heap} {N ps:List Str} {qual:Str} {scope:Scope} {f:Addr} {cd:Value} {A:Around} {outer:List Env} {s s1:Shared} {H:Hp} {E:XK} {us:List Value} {vs:List V}
  (S:zv N ps scope) (hd:A.handled=none) (e0:Tg P w K mg base A outer s H) (hl:vs.length=ps.length) (r:zO vs us)
  (x:InCallC s s.heap.objs.size (bindL (envOfC qual scope s.heap.objs.size f cd).kindOf (ps.zip us) fun _=>none) (cellsFrom (s.heap.objs.size+1) scope.names []) (bindC (envOfC qual scope s.heap.objs.size f cd).kindOf (ps.zip us) fun _=>none) s1):
  Inv (Th CX P w K mg base N qual scope f cd A outer s H E) [] (Zx N vs) H s1:=by
 have hpl:ps.length≤N.length:=by have:=congrArg List.length S.pre;rw [List.length_take] at this;omega
 obtain ⟨h1,tk,rfl,hk⟩:=x.done
 have noA:∀b:Addr,b∉(Th CX P w K mg base N qual scope f cd A outer s H E).ex:=fun b z=>absurd (show b∈([]:List Addr) from z) (by simp)
 refine ⟨⟨e0.mod,S.kind,rfl,rfl,Nat.le_refl _,fun y z c h1 h2=> ?_,fun y hy=> ?_,fun y c _ h=> ?_,fun _=>hd,Around.frames_deeper e0.frames,.inr ⟨rfl,rfl⟩,fun b z=>absurd z (noA b),e0.bs,e0.bsz,fun b _ _=>noA b,fun b z=>absurd z (noA b),e0.funs,e0.frf⟩,
  rfl,e0.bare,Un.kept hk,⟨_,x.toInCall.ns,fun i y v h1 h2 h3=> ?_⟩,fun y c h=>⟨_,x.cell y c h⟩,e0.hok.fresh (Nat.le_refl _),fun y c h=> ?_,fun p hp=>absurd (show p∈([]:List (Addr×Obj)) from hp) (by simp),e0.hok.kept hk,?_⟩
 ·exact name_of_addr x.apart (PySem.mem_of_lookup h1) (PySem.mem_of_lookup h2)
 ·have hy:scope.names.lookup y=some .cell∨scope.names.lookup y=some .free:=hy
  rcases hy with hy|hy
  ·exact zbu hy
  ·exact absurd rfl (S.nofree _ (PySem.mem_of_lookup hy))
 ·exact Nat.le_of_lt (x.above y c (PySem.mem_of_lookup h))
 ·have hi:i<vs.length:=by
   unfold Zx at h2
   by_cases hi:i<vs.length
   ·exact hi
   ·rw [List.getElem?_append_right (by simpa using hi)] at h2
    rw [List.getElem?_replicate] at h2
    split at h2<;>cases h2
  have ha:vs[i]? =some v:=by
   unfold Zx at h2
   rw [List.getElem?_append_left (by simpa using hi),List.getElem?_map] at h2
   cases e:vs[i]? with
   |none=>rw [e] at h2;cases h2
   |some a=>rw [e] at h2;cases h2;rfl
  obtain ⟨u,hu,rv⟩:=r.get ha
  have hp:ps[i]? =some y:=by
   rw [←S.pre,List.getElem?_take_of_lt (by omega)];exact h1
  have ndP:ps.Nodup:=by rw [←S.pre];exact S.nd.sublist (List.take_sublist _ _)
  refine ⟨u,rv,?_⟩
  rcases S.par y (List.mem_of_getElem? hp) with k|k
  ·exact .inl ⟨k,TM ndP hp hu k⟩
  ·obtain ⟨c,e⟩:=zbu (n:=s.heap.objs.size+1) k
   refine .inr ⟨.inl k,c,e,?_⟩
   have q:=x.cell y c e
   rw [TN ndP hp hu (by show scope.names.lookup y≠_;rw [k];decide)] at q
   exact q
 ·exact .inl (e0.hok.fresh (Nat.le_of_lt (x.above y c (PySem.mem_of_lookup h))))
 ·unfold Zx
  show _=N.length
  rw [List.length_append,List.length_map,List.length_replicate]
  omega

theorem zjl {CX:CXT} {P:Program} {w:World} {K:PySem.W.Frag} {mg:Str→Option Value} {base:Heap} {k:Nat} {f:Addr} {name qual:Str} {params:Arguments} {body:List Stmt} {scope:Scope} {dV kV doc pm cdv ct oc:Value} {an od:Option Addr}
  {osl:Array (Option Value)} {N ps:List Str} {sp:Sp} (lk:K.lookup f=some ⟨oc,od,.func (PySem.W.fnOf name qual params body scope dV kV doc pm an cdv ct),osl⟩) (hcd:PySem.W.codeIn K cdv qual=true) (S:zv N ps scope)
  (len:∀vs H Q E,sp vs H Q E→vs.length=ps.length)
  (hbody:∀(A:Around) (outer:List Env) (s:Shared) (H:Hp) (vs:List V) (Q:VK) (E:XK),wc k (A.deeper (envOfC qual scope s.heap.objs.size f cdv))→sp vs H Q E→
   ∃t,PSs (Th CX P w K mg base N qual scope f cdv A outer s H E) body t∧t {nx:=fun _ H'=>Q .non H',rt:=Q} (Zx N vs) H):
  yj P w K mg base CX (k+1) f (PySem.W.fnOf name qual params body scope dV kV doc pm an cdv ct) ps sp:=by
 refine ⟨len,fun A outer s H args us vs Q E hr e0 hb r hsp=> ?_⟩
 have hl:=len _ _ _ _ hsp
 have KX:K.In s.heap:=e0.mod.kin.keeps fun b o e=>(e0.bs b o e).1
 have lim:s.heap.NoLimit:=e0.mod.nolimit.keeps fun b o e=>(e0.bs b o e).1
 have hkind:∀y∈ps.zip us,scope.names.lookup y.1=some .local∨(scope.names.lookup y.1=some .cell∧((cellsFrom (s.heap.objs.size+1) scope.names []).lookup y.1).isSome=true):=fun ⟨n,v⟩ hy=>by
  rcases S.par n (List.of_mem_zip hy).1 with q|q
  ·exact .inl q
  ·exact .inr ⟨q,PySem.W.cellsFrom_some _ _ _ (.inl q)⟩
 refine codeAny_call_function hr.depth (KX _ _ lk) rfl S.co S.gen rfl (PySem.W.codeRec_of KX hcd) (hb _ _ _ _ ?_)
 refine wpAny_newFunctionEnv_cells S.kind hkind fun env he s1 x=> ?_
 subst he
 refine ⟨lim.keeps x.toInCall.keep,codeAny_func ?_⟩
 obtain ⟨t,ht,hq⟩:=hbody A outer s H vs Q E (hr.deeper _) hsp
 have I:Inv (Th CX P w K mg base N qual scope f cdv A outer s H E) [] (Zx N vs) H s1:=TQ S hr.hd e0 hl r x
 refine wpAny_mono (ht [] s1 (Zx N vs) H _ I hq) (fun fl s' hs=> ?_) fun e s' hs=>hs
 have fin:∀{σ':St} {H':Hp} {v:V} {u:Value},Inv (Th CX P w K mg base N qual scope f cdv A outer s H E) [] σ' H' s'→zQ v u→Q v H'→CE outer P w H s Q u s':=
  fun {σ' H' v u} J rv q=>⟨v,H',J.os,J.bare,J.base,J.hok,rv,q⟩
 cases fl with
 |ret u=>
  obtain ⟨v,σ',H',J,rv,q⟩:=hs
  exact fin J rv q
 |next=>
  obtain ⟨σ',H',J,q⟩:=hs
  exact fin (v:=V.non) (u:=Value.none) J rfl q
 |brk=>
  obtain ⟨_,_,_,q⟩:=hs
  exact False.elim q
 |cont=>
  obtain ⟨_,_,_,q⟩:=hs
  exact False.elim q
end L2

namespace L2
open PySem PySem.Spec PyProof.Rows
section
variable {X:Cx} {x:Str} {p pos:Pos} {e:Expr} {es:List Expr} {t:TA} {id T:String} {r:List V→Hp→VK→Prop}

noncomputable def tCB (r:List V→Hp→VK→Prop) (t:TA):TE:=fun σ H Q=>t σ H fun vs H1=>r vs H1 Q
theorem zr (hc:Ya X (.builtin id) r) (hg:Gl X x) (hm:X.mg x=none) (hv:bootBuiltins x=some (.builtin id)) (ha:PA X (e::es) t) (hn:x≠"__name__":=by decide) (hdb:(x==("__debug__":Str))=false:=by decide)
  (he:starEach (e::es) X.env=(false,eval e X.env)::starEach es X.env:=by rfl) (hpl:(backTo pos (starEach es X.env)).any (·.1)=false:=by rfl):PE X (.Call (.Name x p) (e::es) [] pos) (tCB r t):=by
 intro pins s σ H Q I h
 refine wpAny_Call_Name_kw (Ve I hg hm hv ?_ hn hdb)
 refine PyProof.Rows.callWith_builtin1 (thn (ha pos pins s σ H _ I h) ?_) he hpl
 rintro us s1 ⟨vs,H1,I1,r1,q1⟩
 exact hc pins s1 σ H1 vs us Q I1 r1 q1
theorem TR (hc:Ya X (.type T) r) (hg:Gl X x) (hm:X.mg x=none) (hv:bootBuiltins x=some (.type T)) (ha:PA X (e::es) t) (hn:x≠"__name__":=by decide) (hdb:(x==("__debug__":Str))=false:=by decide)
  (he:starEach (e::es) X.env=(false,eval e X.env)::starEach es X.env:=by rfl) (hpl:(backTo pos (starEach es X.env)).any (·.1)=false:=by rfl):PE X (.Call (.Name x p) (e::es) [] pos) (tCB r t):=by
 intro pins s σ H Q I h
 refine wpAny_Call_Name_kw (Ve I hg hm hv ?_ hn hdb)
 refine PyProof.Rows.callWith_type1 (thn (ha pos pins s σ H _ I h) ?_) he hpl
 rintro us s1 ⟨vs,H1,I1,r1,q1⟩
 exact hc pins s1 σ H1 vs us Q I1 r1 q1
end
end L2
namespace HT
open PySem PyProof.Rows



section
open PySem.SeqAt
open PySem.AutoSeq1 (wpAny_loadPart')
open PySem.MeetsSeq PySem.MeetsSeq2 PySem.MeetsSeq3

end

section
variable {prog:Program} {w:World} {A:Around} {E:Value→Shared→Prop} {s:Shared}


theorem zgE {t b:Addr} {vs ws:List Value} {Q:Value→Shared→Prop} (ht:IsTup s.heap t vs.toArray) (hb:IsTup s.heap b ws.toArray) (hv:vs≠[])
  (h1:ws=[]→Q (.ref t) s) (h2:ws≠[]→Q (.ref s.heap.objs.size) {s with heap:=s.heap.push {cls:= .type "tuple",data:= .seq (vs++ws).toArray}})
  (hsz:vs.length+ws.length≤sizeLine):wpAny (model prog w) A (binaryOp .Add (.ref t) (.ref b)) Q E s:=by
 obtain ⟨⟨cls,dd,data,sl⟩,ho,hc,n,hd⟩:=id ht
 obtain ⟨⟨cls2,dd2,data2,sl2⟩,ho2,hc2,n2,hd2⟩:=id hb
 simp only at hc hd hc2 hd2
 subst hc hd hc2 hd2
 have e:vs.toArray++ws.toArray=(vs++ws).toArray:=by simp
 by_cases hw:ws=[]
 ·exact concat_meets ⟨_,ho,rfl⟩ ⟨_,ho2,rfl⟩ noFill_tuple_add seq_tuple_add PySem.F.slot_tuple_add PySem.F.entry_tuple_add (PySem.F.args_tuple_add_2 _ _)
   (tuple_addW1 t b vs.toArray ws.toArray n n2 dd dd2 sl sl2 (by simpa using hv) (by simp [hw])) ⟨ho,ho2,h1 hw⟩
 ·refine concat_meets ⟨_,ho,rfl⟩ ⟨_,ho2,rfl⟩ noFill_tuple_add seq_tuple_add PySem.F.slot_tuple_add PySem.F.entry_tuple_add (PySem.F.args_tuple_add_2 _ _)
   (tuple_addW2 t b vs.toArray ws.toArray n n2 dd dd2 sl sl2 (by simpa using hv) (by simpa using hw) (by rw [List.size_toArray,List.size_toArray];exact hsz)) ⟨ho,ho2,?_⟩
  rw [e]
  exact h2 hw

noncomputable def sIx (n d:Nat):Option Int→Nat
 |none=>d
 |some v=>if v<0 then (v+(n:Int)).toNat else min v.toNat n
theorem zdk (n d k:Nat):sIx n d (some (k:Int))=min k n:=by
 show (if (k:Int)<0 then ((k:Int)+(n:Int)).toNat else min (k:Int).toNat n)=min k n
 rw [if_neg (by omega),Int.toNat_natCast]

end
end HT

namespace L2
open PySem PySem.Spec PyProof.Rows

noncomputable abbrev TO:=St→Hp→(Option Int→Hp→Prop)→Prop
noncomputable def PO (X:Cx) (e:Option Expr) (t:TO):Prop:=
 ∀(pins:List (Addr×Obj)) (s:Shared) (σ:St) (H:Hp) (Q:Option Int→Hp→Prop),Inv X pins σ H s→t σ H Q→
  wpAny (model X.prog X.w) X.A (evalPart e X.env) (fun u s'=>∃o H',Inv X pins σ H' s'∧IsPart u o∧Q o H') X.xe s
noncomputable def zdl:TO:=fun _ H Q=>Q none H
noncomputable def zhQ (t:TE):TO:=fun σ H Q=>t σ H fun x H1=>∃i,x= .int i∧Q (some i) H1


section
variable {X:Cx} {e:Expr} {te:TE} {lo hi:Option Expr} {tl th:TO} {pos p2:Pos}

theorem zaz:PO X none zdl:=by
 intro pins s σ H Q I h
 rw [evalPart_none]
 exact wpAny_pure ⟨none,H,I,.none,h⟩
theorem Yv (h:PE X e te):PO X (some e) (zhQ te):=by
 intro pins s σ H Q I hw
 rw [evalPart_some]
 refine thn (h pins s σ H _ I hw) ?_
 rintro u s1 ⟨x,H1,I1,r1,q1⟩
 obtain ⟨i,rfl,q⟩:=q1
 obtain ⟨t,rfl⟩:=r1
 exact ⟨some i,H1,I1,.int i t,q⟩

noncomputable def SlR (X:Cx) (r:V→Option Int→Option Int→Hp→VK→Prop):Prop:=
 ∀(pins:List (Addr×Obj)) (s:Shared) (σ:St) (H:Hp) (x:V) (v vl vu:Value) (lo hi:Option Int) (sl:Addr) (Q:VK),Inv X pins σ H s→zQ x v→s.heap.IsSliceOf sl vl vu .none→IsPart vl lo→IsPart vu hi→r x lo hi H Q→
  ∃T id,typeLookup (.type T) "__getitem__"=pure (some (.builtin id))∧s.TypeIs v T∧wpAny (model X.prog X.w) X.A (getItem v (.ref sl)) (EP X pins σ Q) X.xe s
noncomputable def tSl (r:V→Option Int→Option Int→Hp→VK→Prop) (te:TE) (tl th:TO):TE:=fun σ H Q=>te σ H fun x H1=>tl σ H1 fun l H2=>th σ H2 fun u H3=>r x l u H3 Q
theorem Xc {r:V→Option Int→Option Int→Hp→VK→Prop} (hr:SlR X r) (he:PE X e te) (hl:PO X lo tl) (hu:PO X hi th):PE X (.Subscript e (.Slice lo hi none p2) pos) (tSl r te tl th):=by
 intro pins s σ H Q I h
 refine Subscript_ (thn (he pins s σ H _ I h) ?_)
 rintro v s1 ⟨x,H1,I1,r1,q1⟩
 refine wpAny_Slice (thn (hl pins s1 σ H1 _ I1 q1) ?_)
 rintro vl s2 ⟨l,H2,I2,pl,q2⟩
 refine thn (hu pins s2 σ H2 _ I2 q2) ?_
 rintro vu s3 ⟨u,H3,I3,pu,q3⟩
 rw [evalPart_none]
 refine wpAny_pure ?_
 have I4:Inv X pins σ H3 {s3 with heap:=s3.heap.push {cls:= .type "slice",data:= .fields #[vl,vu,.none]}}:=I3.kept (t':=s3.toks) fun b ob q=>Heap.get?_push_of_some _ q
 obtain ⟨T,id,hT,ht,hg⟩:=hr pins {s3 with heap:=s3.heap.push {cls:= .type "slice",data:= .fields #[vl,vu,.none]}} σ H3 x v vl vu l u s3.heap.objs.size Q I4 r1 (Heap.IsSliceOf.new ..) pl pu q3
 show wpAny (model X.prog X.w) X.A (subscriptTail e (.Slice lo hi none p2) v (.ref s3.heap.objs.size)) (EP X pins σ Q) X.xe {s3 with heap:=s3.heap.push {cls:= .type "slice",data:= .fields #[vl,vu,.none]}}
 exact tail_any (ops:=[.ref s3.heap.objs.size,v]) ht hT hg (by with_unfolding_all rfl)

noncomputable def zd3 (xs:List V) (lo hi:Option Int):List V:=(xs.drop (HT.sIx xs.length 0 lo)).take (HT.sIx xs.length xs.length hi-HT.sIx xs.length 0 lo)
theorem zbv (xs:List V) (lo hi:Option Int):(zd3 xs lo hi).length≤xs.length:=by
 unfold zd3
 rw [List.length_take,List.length_drop]
 omega

noncomputable def zjm (K:PySem.W.Frag):R2:=fun x y H Q=>∃a b xs ys,x= .ref a∧y= .ref b∧SqT K H a xs∧SqT K H b ys∧xs≠[]∧xs.length+ys.length≤sizeLine∧
 (ys=[]→Q (.ref a) H)∧(ys≠[]→∀p,H p=none→Q (.ref p) (upd H p (.tup (xs++ys))))
theorem zO.nil_iff {xs:List V} {us:List Value} (r:zO xs us):us=[]↔xs=[]:=by
 cases r with
 |nil=>simp
 |cons _ _=>simp
theorem zgF:OpR X (binaryOp .Add) (zjm X.K):=by
 intro pins s σ H x y v u Q I rx ry h
 obtain ⟨a,b,xs,ys,rfl,rfl,ha,hb,hx,hz,q1,q2⟩:=h
 cases rx
 cases ry
 obtain ⟨its,r1,p1,_⟩:=I.tuple ha
 obtain ⟨its2,r2,p2,_⟩:=I.tuple hb
 refine HT.zgE p1 p2 (fun z=>hx (r1.nil_iff.mp z)) (fun z=>⟨.ref a,H,I,rfl,q1 (r2.nil_iff.mp z)⟩) (fun z=> ?_) (by rw [←r1.length,←r2.length];exact hz)
 refine ⟨.ref s.heap.objs.size,_,I.laid (t':=s.toks) (o:= .tup (xs++ys)) (fun b ob q=>Heap.get?_push_of_some _ q) (Nat.le_refl _) ?_,rfl,q2 (fun w=>z (r2.nil_iff.mpr w)) _ (I.hok.fresh (Nat.le_refl _))⟩
 exact ⟨by rw [List.length_append];exact hz,_,r1.append r2,We.new _ _⟩
end
end L2

namespace L2
open PySem PySem.Spec PyProof.Rows

noncomputable def ixN (n:Nat) (i:Int):Option Nat:=if 0≤i then (if i<n then some i.toNat else none) else if -(n:Int)≤i then some (i+n).toNat else none
noncomputable def atI {α:Type} (xs:List α) (i:Int):Option α:=(ixN xs.length i).bind fun j=>xs[j]?
theorem zgG {n:Nat} {i:Int} {j:Nat} (h:ixN n i=some j):seqIndex? i n=some j∧j<n∧ -(n:Int)≤i∧i<n:=by
 unfold ixN at h
 by_cases h0:0≤i
 ·rw [if_pos h0] at h
  by_cases h1:i<n
  ·rw [if_pos h1] at h
   have e:i.toNat=j:=Option.some.inj h
   exact ⟨by rw [seqIndex_of h0 h1,e],by omega,by omega,h1⟩
  ·rw [if_neg h1] at h;cases h
 ·rw [if_neg h0] at h
  by_cases h1: -(n:Int)≤i
  ·rw [if_pos h1] at h
   have e:(i+n).toNat=j:=Option.some.inj h
   exact ⟨by rw [seqIndex_neg (by omega) h1,e],by omega,h1,by omega⟩
  ·rw [if_neg h1] at h;cases h
theorem zaA {α:Type} {xs:List α} {i:Int} {v:α} (h:atI xs i=some v):∃j,seqIndex? i xs.length=some j∧xs[j]? =some v∧j<xs.length∧ -(xs.length:Int)≤i∧i<xs.length:=by
 unfold atI at h
 cases e:ixN xs.length i with
 |none=>rw [e] at h;cases h
 |some j=>
  rw [e] at h
  obtain ⟨h1,h2,h3,h4⟩:=zgG e
  exact ⟨j,h1,h,h2,h3,h4⟩

noncomputable def zgH (b:Expr):Prop:=∀o i,subscripted b false o i=operate [o,i] (getItem o i)
noncomputable def IxR (X:Cx) (r:R2):Prop:=
 ∀(value slice:Expr) (pins:List (Addr×Obj)) (s:Shared) (σ:St) (H:Hp) (x y:V) (v u:Value) (Q:VK),Inv X pins σ H s→zQ x v→zQ y u→r x y H Q→
  subscripted slice false v u=operate [v,u] (getItem v u)→wpAny (model X.prog X.w) X.A (subscriptTail value slice v u) (EP X pins σ Q) X.xe s
noncomputable def MtR (X:Cx) (id:String) (r:V→List V→Hp→VK→Prop):Prop:=
 ∀(pins:List (Addr×Obj)) (s:Shared) (σ:St) (H:Hp) (x:V) (xs:List V) (v:Value) (us:List Value) (Q:VK),Inv X pins σ H s→zQ x v→zO xs us→r x xs H Q→
  wpAny (model X.prog X.w) X.A (call (.builtin id) (v::us)) (EP X pins σ Q) X.xe s
section
variable {X:Cx} {a b:Expr} {ta tb:TE} {pos:Pos}
theorem IxR.or {r r':R2} (h:IxR X r) (h':IxR X r'):IxR X (fun x y H Q=>r x y H Q∨r' x y H Q):=by
 intro value slice pins s σ H x y v u Q I rx ry q hs
 rcases q with q|q
 ·exact h value slice pins s σ H x y v u Q I rx ry q hs
 ·exact h' value slice pins s σ H x y v u Q I rx ry q hs
theorem zjn {r:R2} (hr:IxR X r) (ha:PE X a ta) (hb:PE X b tb) (hs:zgH b):PE X (.Subscript a b pos) (tOp r ta tb):=by
 intro pins s σ H Q I h
 exact Subscript_ (zih ha hb I h fun v u s2 x y H2 I2 rx ry q=>hr a b pins s2 σ H2 x y v u Q I2 rx ry q (hs _ _))

noncomputable def zgI (K:PySem.W.Frag):R2:=fun x y H Q=>∃p xs i v,x= .ref p∧y= .int i∧SqL K H p xs∧atI xs i=some v∧Q v H
noncomputable def zgJ (K:PySem.W.Frag):R2:=fun x y H Q=>∃p xs i v,x= .ref p∧y= .int i∧SqT K H p xs∧atI xs i=some v∧Q v H
noncomputable def ziq:R2:=fun x y H Q=>∃z i c,x= .str z∧y= .int i∧z.length≤sizeLine∧atI z.cps.toList i=some c∧Q (.str ⟨#[c]⟩) H
theorem zdm:IxR X (zgI X.K):=by
 intro value slice pins s σ H x y v u Q I rx ry h hs
 obtain ⟨p,xs,i,z,rfl,rfl,hq,he,q⟩:=h
 cases rx
 obtain ⟨t,rfl⟩:=ry
 obtain ⟨its,r,pl,hz⟩:=I.list hq
 obtain ⟨j,h1,h2,h3,h4,h5⟩:=zaA he
 obtain ⟨w,ew,rw'⟩:=r.get h2
 have hl:=r.length
 have hn:=zay
 have fin:EP X pins σ Q w s:=⟨z,H,I,rw',q⟩
 by_cases h0:0≤i
 ·have hj:i.toNat=j:=by
   rw [seqIndex_of h0 h5] at h1
   exact Option.some.inj h1
  exact item_listR pl.isList h0 (by omega) (by rw [hj];simpa using ew) fin hs
 ·have hj:(i+(its.toArray.size:Int)).toNat=j:=by
   rw [seqIndex_neg (by omega) h4] at h1
   rw [List.size_toArray,←hl]
   exact Option.some.inj h1
  exact subscriptTail_builtinR (x:=w) pl.isList.typeIs slot_list_getitem.lookup
   (wpAny_getItem_list_neg (Q:=fun r s'=>r=w∧EP X pins σ Q r s') pl.isList (by omega) (by rw [List.size_toArray]<;>omega) (by omega) (by rw [hj];simpa using ew) ⟨rfl,fin⟩) hs
theorem zeS:IxR X (zgJ X.K):=by
 intro value slice pins s σ H x y v u Q I rx ry h hs
 obtain ⟨p,xs,i,z,rfl,rfl,hq,he,q⟩:=h
 cases rx
 obtain ⟨t,rfl⟩:=ry
 obtain ⟨its,r,pl,hz⟩:=I.tuple hq
 obtain ⟨j,h1,h2,h3,h4,h5⟩:=zaA he
 obtain ⟨w,ew,rw'⟩:=r.get h2
 have hl:=r.length
 have hn:=zay
 have fin:EP X pins σ Q w s:=⟨z,H,I,rw',q⟩
 exact subscriptTail_builtinR (x:=w) pl.typeIs slot_tuple_getitem.lookup
  (getItem_tuple (j:=j) (Q:=fun r s'=>r=w∧EP X pins σ Q r s') pl (by omega) (by omega) (by rw [List.size_toArray,←hl];exact h1) (by simpa using ew) ⟨rfl,fin⟩) hs
theorem zeT:IxR X ziq:=by
 intro value slice pins s σ H x y v u Q I rx ry h hs
 obtain ⟨z,i,c,rfl,rfl,hz,he,q⟩:=h
 obtain ⟨t,rfl⟩:=rx
 obtain ⟨t',rfl⟩:=ry
 obtain ⟨j,h1,h2,h3,h4,h5⟩:=zaA he
 have hl:z.cps.toList.length=z.length:=by simp [Str.length]
 rw [hl] at h1 h4 h5
 have hn:=zay
 exact tail_any (typeIs_str s z t) slot_str_getitem.lookup (getItem_str (c:=c) (by
  have e1:decide (i< -(2^63:Int))=false:=decide_eq_false (by omega)
  have e2:decide (i≥2^63)=false:=decide_eq_false (by omega)
  rw [e1,e2,Bool.or_false]) (by rw [h1];simpa using h2) ⟨.str ⟨#[c]⟩,H,I.tok _,⟨_,rfl⟩,q⟩) hs
noncomputable def rIx (K:PySem.W.Frag):R2:=fun x y H Q=>zgI K x y H Q∨zgJ K x y H Q∨ziq x y H Q
theorem zir:IxR X (rIx X.K):=zdm.or (zeS.or zeT)


theorem zaB (lo hi:Option Int) (n:Nat):(sliceBounds lo hi none n).1=((HT.sIx n 0 lo:Nat):Int)∧(sliceBounds lo hi none n).2.1=((HT.sIx n n hi:Nat):Int)∧(sliceBounds lo hi none n).2.2=1:=by
 refine ⟨?_,?_,rfl⟩
 ·cases lo with
  |none=>simp [sliceBounds,HT.sIx]
  |some i=>
   simp only [sliceBounds,HT.sIx,Option.getD_none,show (1:Int)>0 by decide,if_true]
   by_cases h:i<0
   ·simp only [h,if_true]<;>omega
   ·simp only [h,if_false]<;>omega
 ·cases hi with
  |none=>simp [sliceBounds,HT.sIx]
  |some i=>
   simp only [sliceBounds,HT.sIx,Option.getD_none,show (1:Int)>0 by decide,if_true]
   by_cases h:i<0
   ·simp only [h,if_true]<;>omega
   ·simp only [h,if_false]<;>omega
theorem Ti (its:List Value) (lo hi:Option Int):slicePick its.toArray lo hi none=((its.drop (HT.sIx its.length 0 lo)).take (HT.sIx its.length its.length hi-HT.sIx its.length 0 lo)).toArray:=by
 obtain ⟨h1,h2,h3⟩:=zaB lo hi its.toArray.size
 unfold slicePick
 rw [h1,h2,h3]
 simp only [sliceRange_one,pick_run,List.size_toArray]<;>rfl
noncomputable def zeU (K:PySem.W.Frag):V→Option Int→Option Int→Hp→VK→Prop:=fun x lo hi H Q=>∃a xs,x= .ref a∧SqL K H a xs∧∀p,H p=none→Q (.ref p) (upd H p (.lst (zd3 xs lo hi)))
theorem zgK:SlR X (zeU X.K):=by
 intro pins s σ H x v vl vu lo hi sl Q I rx hs pl pu h
 obtain ⟨a,xs,rfl,hx,q⟩:=h
 cases rx
 obtain ⟨its,r,ht,hz⟩:=I.list hx
 have hlen:=r.length
 refine ⟨"list",_,slot_list_getitem.lookup,ht.isList.typeIs,?_⟩
 refine wpAny_getItem_list_slice ht.isList hs pl pu .none (by simp) ?_ (by rw [List.size_toArray]<;>omega)
 rw [Ti,←hlen]
 refine ⟨.ref s.heap.objs.size,_,I.laid (t':=s.toks) (o:= .lst (zd3 xs lo hi)) (fun b ob q=>Heap.get?_push_of_some _ q) (Nat.le_refl _) ?_,rfl,q _ (I.hok.fresh (Nat.le_refl _))⟩
 exact ⟨Nat.le_trans (zbv xs lo hi) hz,_,0,(r.drop (HT.sIx xs.length 0 lo)).take (HT.sIx xs.length xs.length hi-HT.sIx xs.length 0 lo),Heap.get?_push_size _ rfl⟩


theorem zaC:Ya X (.builtin "len") (fun xs H Q=>∃p ys,xs=[.ref p]∧(SqL X.K H p ys∨SqT X.K H p ys)∧Q (.int ys.length) H):=by
 intro pins s σ H xs us Q I r h
 obtain ⟨p,ys,rfl,hq,q⟩:=h
 obtain ⟨u,rfl,rx⟩:=Uv r
 cases rx
 have hn:=zay
 rcases hq with hq|hq
 ·obtain ⟨its,r',pl,hz⟩:=I.list hq
  have hlen:=r'.length
  exact Calls.call_len_list pl.isList (by simp only [List.size_toArray]<;>omega) ⟨.int ys.length,H,I.tok _,⟨s.toks+1,by rw [List.size_toArray,hlen]⟩,q⟩
 ·obtain ⟨its,r',pl,hz⟩:=I.tuple hq
  have hlen:=r'.length
  exact len_tuple pl (by simp only [List.size_toArray]<;>omega) ⟨.int ys.length,H,I.tok _,⟨s.toks+1,by rw [List.size_toArray,hlen]⟩,q⟩
theorem Tj:Ya X (.type "tuple") (fun xs H Q=>∃p ys,xs=[.ref p]∧((SqL X.K H p ys∧∀l,H l=none→Q (.ref l) (upd H l (.tup ys)))∨(SqT X.K H p ys∧Q (.ref p) H))):=by
 intro pins s σ H xs us Q I r h
 obtain ⟨p,ys,rfl,h⟩:=h
 obtain ⟨u,rfl,rx⟩:=Uv r
 cases rx
 rcases h with ⟨hq,q⟩|⟨hq,q⟩
 ·obtain ⟨its,r',pl,hz⟩:=I.list hq
  have hlen:=r'.length
  refine call_tuple_list pl.isList (fun h' kp=> ?_) (by simp only [List.size_toArray]<;>omega)
  have I1:Inv X pins σ H {s with heap:=h'}:=I.kept (t':=s.toks) kp
  have I2:Inv X pins σ (upd H h'.objs.size (.tup ys)) {s with heap:=h'.push {cls:= .type "tuple",data:= .seq its.toArray}}:=
   I1.laid (t':=s.toks) (fun b o e=>Heap.get?_push_of_some _ e) (Nat.le_refl _) (show yI X.prog X.w _ _ _ (.tup ys) from ⟨hz,its,r',We.new _ _⟩)
  exact ⟨.ref h'.objs.size,_,I2,rfl,q _ (I1.hok.fresh (Nat.le_refl _))⟩
 ·obtain ⟨its,r',pl,hz⟩:=I.tuple hq
  exact call_tuple_same pl ⟨.ref p,H,I,rfl,q⟩

noncomputable def tyV (K:PySem.W.Frag) (T:String) (x:V) (H:Hp):Prop:=match x with
 | .str _=>T="str"
 | .int _=>T="int"
 | .ref p=>(T="list"∧∃xs,SqL K H p xs)∨(T="tuple"∧∃o,K.lookup p=some o∧o.cls= .type "tuple"∧o.dict=none)∨
   (T="dict"∧((∃kvs,Rd H p (.dK kvs))∨∃kvs,H p=some (.dT kvs)))∨(T="set"∧∃S n,H p=some (.set S n))
 |_=>False
theorem zeV {pins:List (Addr×Obj)} {σ:St} {H:Hp} {s:Shared} {T:String} {x:V} {v:Value} (I:Inv X pins σ H s) (r:zQ x v) (ty:tyV X.K T x H):
  s.TypeIs v T∧∀a,v= .ref a→∃ob,s.heap.get? a=some ob∧ob.dict=none:=by
 cases x with
 |str z=>
  obtain ⟨t,rfl⟩:=r
  cases (show T="str" from ty)
  exact ⟨typeIs_str s z t,fun _ e=>nomatch e⟩
 |int i=>
  obtain ⟨t,rfl⟩:=r
  cases (show T="int" from ty)
  exact ⟨typeIs_int s i t,fun _ e=>nomatch e⟩
 |ref p=>
  cases r
  rcases ty with ⟨rfl,xs,hq⟩|⟨rfl,o,hk,hc,hd⟩|⟨rfl,hk⟩|⟨rfl,S,n,hk⟩
  ·obtain ⟨its,_,pl,_⟩:=I.list hq
   refine ⟨pl.isList.typeIs,fun a e=> ?_⟩
   cases e
   obtain ⟨o,n,e,c,hd,_⟩:=pl
   exact ⟨o,e,hd⟩
  ·refine ⟨⟨o,I.kIn p o hk,hc⟩,fun a e=> ?_⟩
   cases e
   exact ⟨o,I.kIn _ o hk,hd⟩
  ·have z:∃o,s.heap.get? p=some o∧o.ExactDict:=by
    rcases hk with ⟨kvs,hk⟩|⟨kvs,hk⟩
    ·obtain ⟨_,_,_,_,o,_,_,e,ex,_⟩:=hk.ok I.hok
     exact ⟨o,e,ex⟩
    ·obtain ⟨_,_,_,_,o,_,_,e,ex,_⟩:=I.hok p _ hk
     exact ⟨o,e,ex⟩
   obtain ⟨o,e,ex⟩:=z
   refine ⟨⟨o,e,ex.1⟩,fun a e2=> ?_⟩
   cases e2
   exact ⟨o,e,ex.2.1⟩
  ·obtain ⟨o,_,_,_,e,ex,_⟩:=I.hok p _ hk
   refine ⟨⟨o,e,ex.1⟩,fun a e2=> ?_⟩
   cases e2
   exact ⟨o,e,ex.2.1⟩
 |_=>exact False.elim ty
noncomputable def zjo (K:PySem.W.Frag) (T:String) (r:V→List V→Hp→VK→Prop) (to:TE):TE:=fun σ H Q=>to σ H fun x H1=>tyV K T x H1∧r x [] H1 Q
noncomputable def tBM (K:PySem.W.Frag) (T:String) (r:V→List V→Hp→VK→Prop) (to:TE) (t:TA):TE:=fun σ H Q=>to σ H fun x H1=>tyV K T x H1∧t σ H1 fun xs H2=>r x xs H2 Q
variable {o e:Expr} {es:List Expr} {to:TE} {t:TA} {name:Str} {apos cpos:Pos} {T id:String} {r:V→List V→Hp→VK→Prop}
theorem zis (pa:PlainAttrs T) (slot:Slot T name id) (hty:typeOf (.builtin id)=pure (.type "method_descriptor")) (hm:MtR X id r) (ho:PE X o to)
  (hbase:attributeBase o name X.env (eval o X.env)=eval o X.env:=by rfl) (hline:(apos.endLine==cpos.line)=true:=by rfl):PE X (.Call (.Attribute o name apos) [] [] cpos) (zjo X.K T r to):=by
 intro pins s σ H Q I h
 refine wpAny_Call_method0_late hbase hline (thn (ho pins s σ H _ I h) ?_)
 rintro v s1 ⟨x,H1,I1,r1,ty,q1⟩
 obtain ⟨h1,h2⟩:=zeV I1 r1 ty
 exact ⟨T,id,pa,slot,hty,h1,h2,Calls.callWith_builtin rfl (PySem.evalArgs_none (hm pins s1 σ H1 x [] v [] Q I1 r1 .nil q1))⟩
theorem Vv (pa:PlainAttrs T) (slot:Slot T name id) (hty:typeOf (.builtin id)=pure (.type "method_descriptor")) (hm:MtR X id r) (ho:PE X o to) (ha:PA X (e::es) t)
  (hbase:attributeBase o name X.env (eval o X.env)=eval o X.env:=by rfl)
  (hfew:((backTo cpos (starEach (e::es) X.env)).all (fun x=> !x.1)&&(backToKw cpos (keywordEach [] X.env)).all (fun x=>x.1.isSome)
   &&decide ((e::es).length+([]:List Keyword).length+(if ([]:List Keyword).isEmpty then 0 else 1)<30))=true:=by rfl)
  (hline:(apos.endLine==cpos.line)=true:=by rfl) (hs:starEach (e::es) X.env=(false,eval e X.env)::starEach es X.env:=by rfl) (hplain:(backTo cpos (starEach es X.env)).any (·.1)=false:=by rfl):
  PE X (.Call (.Attribute o name apos) (e::es) [] cpos) (tBM X.K T r to t):=by
 intro pins s σ H Q I h
 refine wpAny_Call_method_late hbase hfew hline rfl (thn (ho pins s σ H _ I h) ?_)
 rintro v s1 ⟨x,H1,I1,r1,ty,q1⟩
 obtain ⟨h1,h2⟩:=zeV I1 r1 ty
 refine ⟨T,id,pa,slot,hty,h1,h2,?_⟩
 have hA:=ha cpos pins s1 σ H1 _ I1 q1
 rw [hs] at hA ⊢
 refine Calls.callWith_builtin (by show (false||(backTo cpos (starEach es X.env)).any (·.1))=false;rw [hplain]<;>rfl) (Calls.evalArgs_plain ?_)
 refine thn hA ?_
 rintro us s2 ⟨vs,H2,I2,r2,q2⟩
 exact hm pins s2 σ H2 x vs v us Q I2 r1 r2 q2
/- xs.append(e), list.index on a module's tuple .. are MtR facts of 06m -/
end
end L2

namespace L2
open PySem PySem.Spec PyProof.Rows

noncomputable def MtM (X:Cx) (id:String) (r:V→List V→Hp→VK→Prop):Prop:=
 ∀(pins:List (Addr×Obj)) (s:Shared) (σ:St) (H:Hp) (x:V) (xs:List V) (v:Value) (us:List Value) (Q:VK),Inv X pins σ H s→zQ x v→zO xs us→r x xs H Q→
  wpAny (model X.prog X.w) X.A (call (.builtin id) (v::us)) (EP X pins σ Q) X.xe s

theorem zO.one:∀{x:V} {us:List Value},zO [x] us→∃u,us=[u]∧zQ x u
 |_,_,.cons r .nil=>⟨_,rfl,r⟩
theorem zO.zero:∀{us:List Value},zO [] us→us=[]
 |_,.nil=>rfl
theorem zO.dropLast {xs:List V} {us:List Value} (h:zO xs us):zO xs.dropLast us.dropLast:=by
 induction h with
 |nil=>exact .nil
 |cons r t ih=>
  cases t with
  |nil=>exact .nil
  |cons q t'=>exact .cons r ih
theorem zO.reverse {xs:List V} {us:List Value} (h:zO xs us):zO xs.reverse us.reverse:=by
 induction h with
 |nil=>exact .nil
 |cons r t ih=>rw [List.reverse_cons,List.reverse_cons];exact zO.append ih (.cons r .nil)
theorem zcH {α:Type} (l:List α):l.eraseIdx (l.length-1)=l.dropLast:=by
 induction l with
 |nil=>rfl
 |cons a r ih=>
  cases r with
  |nil=>rfl
  |cons b r=>
   have e:(a::b::r).length-1=((b::r).length-1)+1:=by
    have h1:(a::b::r).length=r.length+2:=rfl
    have h2:(b::r).length=r.length+1:=rfl
    omega
   rw [e,List.eraseIdx_cons_succ,ih]
   all_goals rfl

section
variable {X:Cx} {pins:List (Addr×Obj)} {σ:St} {H:Hp} {s:Shared} {l b:Addr} {xs ys zs:List V}

theorem Inv.lset {its its':List Value} {n:Nat} {f:Array Value→Array Value} {t':Nat} (I:Inv X pins σ H s) (hH:H l=some (.lst xs))
  (e:s.heap.get? l=some {cls:= .type "list",data:= .seq its.toArray n}) (hf:f its.toArray=its'.toArray) (hv:zO ys its') (hz:ys.length≤sizeLine):
  Inv X pins σ (upd H l (.lst ys)) {s with heap:=s.heap.update l (Obj.mapSeq f),toks:=t'}:=by
 have q:=PySem.IsL.update e f
 rw [hf] at q
 refine I.write (x:=l) (e:=l) (by rw [hH];exact trivial) (.inl rfl) (fun b' u hb hu=>(Heap.get?_update_other s.heap (Obj.mapSeq f) (Ne.symm hb)).trans hu) ⟨_,q⟩ ?_
 exact ⟨hz,its',_,hv,q⟩
theorem Inv.lstM (I:Inv X pins σ H s) (hH:H l=some (.lst xs)):xs.length≤sizeLine∧∃(its:List Value) (n:Nat),zO xs its∧xs.length=its.length∧s.heap.get? l=some {cls:= .type "list",data:= .seq its.toArray n}:=by
 obtain ⟨z,its,n,r,e⟩:=I.hok l _ hH
 exact ⟨z,its,n,r,r.length,e⟩

theorem zeW {n:Nat} (h:n≤sizeLine):Builtin.List.listTooLong n=false:=by
 unfold Builtin.List.listTooLong
 exact decide_eq_false (by omega)
end

section
variable {X:Cx}

noncomputable def zdn:V→List V→Hp→VK→Prop:=fun x vs H Q=>∃l xs y,x= .ref l∧vs=[y]∧H l=some (.lst xs)∧xs.length<sizeLine∧Q .non (upd H l (.lst (xs++[y])))
theorem ww:MtM X "list.append" zdn:=by
 intro pins s σ H x vs v us Q I rx rv h
 obtain ⟨l,xs,y,rfl,rfl,hH,hz,q⟩:=h
 cases rx
 obtain ⟨u,rfl,ru⟩:=rv.one
 obtain ⟨z,its,n,r,hl,e⟩:=I.lstM hH
 refine call_meets F.slot_list_append ⟨_,e,rfl⟩ F.entry_list_append (F.args_list_append_2 _ _) (PySem.list_append l its.toArray n u (by rw [List.size_toArray];omega)) ⟨e,?_⟩
 refine ⟨.non,_,I.lset (its':=its++[u]) hH e (by simp) (r.append (.cons ru .nil)) ?_,rfl,q⟩
 rw [List.length_append,List.length_singleton]
 omega


noncomputable def zjp:V→List V→Hp→VK→Prop:=fun x vs H Q=>∃l xs y,x= .ref l∧vs=[]∧H l=some (.lst xs)∧xs[xs.length-1]? =some y∧Q y (upd H l (.lst xs.dropLast))
theorem zit:MtM X "list.pop" zjp:=by
 intro pins s σ H x vs v us Q I rx rv h
 obtain ⟨l,xs,y,rfl,rfl,hH,hy,q⟩:=h
 cases rx
 have hus:=rv.zero
 subst hus
 obtain ⟨z,its,n,r,hl,e⟩:=I.lstM hH
 obtain ⟨u,hu,ru⟩:=r.get hy
 have hy':its.toArray[its.toArray.size-1]? =some u:=by
  show its.toArray[its.length-1]? =some u
  rw [←Array.getElem?_toList,←hl]
  exact hu
 refine call_meets F.slot_list_pop ⟨_,e,rfl⟩ F.entry_list_pop (F.args_list_pop_1 _) (MeetsSeq.list_pop_last l its.toArray n u hy' (by rw [List.size_toArray];omega)) ⟨e,?_⟩
 refine ⟨y,_,I.lset (its':=its.dropLast) hH e ?_ r.dropLast ?_,ru,q⟩
 ·show its.toArray.eraseIdxIfInBounds (its.toArray.size-1)=its.dropLast.toArray
  rw [List.size_toArray,List.eraseIdxIfInBounds_toArray,zcH]
 ·rw [List.length_dropLast]
  omega





end

section
variable {prog:Program} {w:World} {A:Around} {E:Value→Shared→Prop} {s:Shared}
end

section
variable {X:Cx}
end
end L2
namespace L2
open PySem PySem.Spec PyProof.Rows

section
variable {κ:Type} [DecidableEq κ]
noncomputable def Xd (kvs:List (κ×V)) (k:κ):Option V:=(kvs.find? fun kv=>decide (kv.1=k)).map (·.2)
noncomputable def Vg (kvs:List (κ×V)) (k:κ) (v:V):List (κ×V):=
 if (kvs.any fun kv=>decide (kv.1=k))=true then kvs.map (fun kv=>if kv.1=k then (kv.1,v) else kv) else kvs++[(k,v)]

theorem Ux {p:κ×V} {r:List (κ×V)} {k:κ} (e:p.1=k):Xd (p::r) k=some p.2:=by simp [Xd,List.find?_cons,e]
theorem Uy {p:κ×V} {r:List (κ×V)} {k:κ} (e:¬p.1=k):Xd (p::r) k=Xd r k:=by simp [Xd,List.find?_cons,e]
theorem zbw (k:κ):∀kvs:List (κ×V),(kvs.any fun kv=>decide (kv.1=k))=(Xd kvs k).isSome
 |[]=>rfl
 |p::r=>by
  rw [List.any_cons]
  by_cases e:p.1=k
  ·simp only [Ux e,decide_eq_true e,Bool.true_or,Option.isSome_some]
  ·rw [Uy e,decide_eq_false e,Bool.false_or];exact zbw k r
theorem Vw (kvs:List (κ×V)) (k:κ) (v:V):(Vg kvs k v).length≤kvs.length+1:=by
 unfold Vg
 split
 ·rw [List.length_map];omega
 ·rw [List.length_append,List.length_cons,List.length_nil];omega

theorem Yq.isSome_eq {o:Option V} {u:Option Value} (r:Yq o u):o.isSome=u.isSome:=by
 cases o with
 |none=>cases u with
  |none=>rfl
  |some _=>exact (show False from r).elim
 |some _=>cases u with
  |none=>exact (show False from r).elim
  |some _=>rfl

theorem KV.val {kvs:List (κ×V)} {vs:List (κ×Value)} (r:KV kvs vs) (k:κ):Yq (Xd kvs k) (valueAt vs k):=by
 unfold KV at r
 induction r with
 |nil=>exact True.intro
 | @cons p q ps qs h t ih=>
  obtain ⟨h1,h2⟩:=h
  by_cases e:p.1=k
  ·have e':q.1=k:=h1.symm.trans e
   have b:valueAt (q::qs) k=some q.2:=by simp [valueAt,List.find?_cons,e']
   rw [Ux e,b];exact h2
  ·have e':¬q.1=k:=fun z=>e (h1.trans z)
   have b:valueAt (q::qs) k=valueAt qs k:=by simp [valueAt,List.find?_cons,e']
   rw [Uy e,b];exact ih
theorem KV.any {kvs:List (κ×V)} {vs:List (κ×Value)} (r:KV kvs vs) (k:κ):(kvs.any fun kv=>decide (kv.1=k))=vs.any fun kv=>decide (kv.1=k):=by
 unfold KV at r
 induction r with
 |nil=>rfl
 |cons h t ih=>rw [List.any_cons,List.any_cons,ih,h.1]
theorem KV.repl {kvs:List (κ×V)} {vs:List (κ×Value)} (r:KV kvs vs) (k:κ) {y:V} {u:Value} (ry:zQ y u):
  KV (kvs.map fun kv=>if kv.1=k then (kv.1,y) else kv) (vs.map fun kv=>if kv.1=k then (kv.1,u) else kv):=by
 unfold KV at r ⊢
 induction r with
 |nil=>exact .nil
 | @cons p q ps qs h t ih=>
  rw [List.map_cons,List.map_cons]
  refine .cons ?_ ih
  obtain ⟨h1,h2⟩:=h
  by_cases e:p.1=k
  ·rw [if_pos e,if_pos (h1.symm.trans e)];exact ⟨h1,ry⟩
  ·rw [if_neg e,if_neg (fun z=>e (h1.trans z))];exact ⟨h1,h2⟩
theorem KV.put {kvs:List (κ×V)} {vs:List (κ×Value)} (r:KV kvs vs) (k:κ) {y:V} {u:Value} (ry:zQ y u):KV (Vg kvs k y) (stored vs k u):=by
 unfold Vg stored
 rw [r.any k]
 by_cases e:(vs.any fun kv=>decide (kv.1=k))=true
 ·rw [if_pos e,if_pos e];exact r.repl k ry
 ·rw [if_neg e,if_neg e];exact Paired.snoc r ⟨rfl,ry⟩
theorem KV.length {kvs:List (κ×V)} {vs:List (κ×Value)} (r:KV kvs vs):kvs.length=vs.length:=Paired.length r
end


theorem zdo {P:Program} {w:World} {k:Key} {u:Value} (r:zQ (kV k) u):(xN P w).is k u=true:=by
 cases k with
 |inl i=>obtain ⟨t,e⟩:=(show ∃t,u=Value.int i t from r);subst e;exact zbl P w i t
 |inr x=>obtain ⟨t,e⟩:=(show ∃t,u=Value.str x t from r);subst e;exact zbm P w x t
theorem TU {P:Program} {w:World}:∀{ks:List Key} {us:List Value},zO (ks.map kV) us→ItemsAre (xN P w) ks us
 |[],_,r=>by rw [List.map_nil] at r;cases r;exact .nil
 |k::ks,_,r=>by
  rw [List.map_cons] at r
  cases r with
  |cons h t=>exact .cons (zdo h) (TU t)

noncomputable abbrev KT (H:Hp):List (List Key×V)→List (List Key×Addr×Value)→Prop:=Paired fun p q=>p.1=q.1∧H q.2.1=some (.tup (p.1.map kV))∧zQ p.2 q.2.2
theorem KT.val {H:Hp} {kvs:List (List Key×V)} {xs:List (List Key×Addr×Value)} (r:KT H kvs xs) (k:List Key):Yq (Xd kvs k) ((atKey xs k).map (·.2)):=by
 induction r with
 |nil=>exact True.intro
 | @cons p q ps qs h t ih=>
  obtain ⟨h1,_,h2⟩:=h
  by_cases e:p.1=k
  ·have e':q.1=k:=h1.symm.trans e
   have b:atKey (q::qs) k=some q.2:=by simp [atKey,List.find?_cons,e']
   rw [Ux e,b];exact h2
  ·have e':¬q.1=k:=fun z=>e (h1.trans z)
   have b:atKey (q::qs) k=atKey qs k:=by simp [atKey,List.find?_cons,e']
   rw [Uy e,b];exact ih
theorem KT.repl {H:Hp} {kvs:List (List Key×V)} {xs:List (List Key×Addr×Value)} (r:KT H kvs xs) (k:List Key) {y:V} {u:Value} (ry:zQ y u):
  KT H (kvs.map fun kv=>if kv.1=k then (kv.1,y) else kv) (xs.map (putAt k u)):=by
 induction r with
 |nil=>exact .nil
 | @cons p q ps qs h t ih=>
  rw [List.map_cons,List.map_cons]
  refine .cons ?_ ih
  obtain ⟨h1,h2,h3⟩:=h
  unfold putAt
  by_cases e:p.1=k
  ·rw [if_pos e,if_pos (h1.symm.trans e)];exact ⟨h1,h2,ry⟩
  ·rw [if_neg e,if_neg (fun z=>e (h1.trans z))];exact ⟨h1,h2,h3⟩
theorem KT.put {H:Hp} {kvs:List (List Key×V)} {xs:List (List Key×Addr×Value)} (r:KT H kvs xs) (k:List Key) {b:Addr} {y:V} {u:Value} (hb:H b=some (.tup (k.map kV))) (ry:zQ y u):
  KT H (Vg kvs k y) (storedH xs k b u):=by
 have e:(kvs.any fun kv=>decide (kv.1=k))=(atKey xs k).isSome:=by
  rw [zbw,(r.val k).isSome_eq,Option.isSome_map]
 unfold Vg storedH
 rw [e]
 by_cases q:(atKey xs k).isSome=true
 ·rw [if_pos q,if_pos q];exact r.repl k ry
 ·rw [if_neg q,if_neg q];exact Paired.snoc r ⟨rfl,hb,ry⟩
theorem KT.keeps {H H':Hp} {kvs:List (List Key×V)} {xs:List (List Key×Addr×Value)} (r:KT H kvs xs) (ht:∀b ys,H b=some (.tup ys)→H' b=some (.tup ys)):KT H' kvs xs:=
 Paired.mapP r fun _ _ z=>⟨z.1,ht _ _ z.2.1,z.2.2⟩

section
variable {P:Program} {w:World} {H:Hp} {h:Heap} {a:Addr}
theorem zhR {u:HO} (ok:HOk P w H h) (e:Rd H a u):yI P w H h a u:=e.ok ok
theorem zdp {kvs:List (Key×V)} (ok:HOk P w H h) (e:Rd H a (.dK kvs)):kvs.length≤sizeLine∧(a==sysModules)=false∧∃vs,KV kvs vs∧h.DictOf (xN P w) a vs:=
 show yI P w H h a (.dK kvs) from zhR ok e
theorem zhS {kvs:List (Key×V)} (ok:HOk P w H h) (e:H a=some (.dK kvs)):kvs.length≤sizeLine∧(a==sysModules)=false∧∃vs,KV kvs vs∧h.DictOf (xN P w) a vs:=zdp ok (.inl e)
theorem zaD {ks:List Key} (ok:HOk P w H h) (e:H a=some (.tup (ks.map kV))):(tupleKind (xN P w)).is h ks a:=by
 obtain ⟨_,its,r,o,h1,h2,n,h3⟩:=(show yI P w H h a (.tup (ks.map kV)) from ok a _ e)
 exact ⟨o,its.toArray,n,h1,h2,h3.1,by simpa using TU r⟩
theorem zdq {kvs:List (List Key×V)} (ok:HOk P w H h) (e:Rd H a (.dT kvs)):kvs.length≤sizeLine∧(a==sysModules)=false∧
  ∃xs,KT H kvs xs∧h.DictOfH (tupleKind (xN P w)) a xs:=by
 obtain ⟨z,y,xs,r,o,es,ep,h1,h2,h3,h4,h5⟩:=(show yI P w H h a (.dT kvs) from zhR ok e)
 refine ⟨z,y,xs,r,o,es,ep,h1,h2,h3,h4,fun x hx=> ?_,h5⟩
 have all:∀{l:List (List Key×V)} {m:List (List Key×Addr×Value)},KT H l m→∀x∈m,(tupleKind (xN P w)).is h x.1 x.2.1:=by
  intro l m q
  induction q with
  |nil=>intro x hx;exact nomatch hx
  | @cons p q ps qs hq t ih=>
   intro x hx
   rcases List.mem_cons.mp hx with e|hx
   ·subst e
    exact zaD ok (by rw [←hq.1];exact hq.2.1)
   ·exact ih x hx
 exact all r x hx
theorem zjq {kvs:List (List Key×V)} (ok:HOk P w H h) (e:H a=some (.dT kvs)):kvs.length≤sizeLine∧(a==sysModules)=false∧
  ∃xs,KT H kvs xs∧h.DictOfH (tupleKind (xN P w)) a xs:=zdq ok (.inl e)
end

noncomputable def zbx (H:Hp) (a:Addr) (y:V) (r:Option V):Prop:=
 (∃kvs k,Rd H a (.dK kvs)∧y=kV k∧r=Xd kvs k)∨∃kvs k b,Rd H a (.dT kvs)∧y= .ref b∧H b=some (.tup (k.map kV))∧r=Xd kvs k
noncomputable def zeX (H:Hp) (a:Addr) (y v:V) (H':Hp):Prop:=
 (∃kvs k,H a=some (.dK kvs)∧y=kV k∧kvs.length<sizeLine∧H'=upd H a (.dK (Vg kvs k v)))∨
 ∃kvs k b,H a=some (.dT kvs)∧y= .ref b∧H b=some (.tup (k.map kV))∧kvs.length<sizeLine∧H'=upd H a (.dT (Vg kvs k v))
theorem zbx.k {H:Hp} {a:Addr} {kvs:List (Key×V)} {k:Key} (e:H a=some (.dK kvs)):zbx H a (kV k) (Xd kvs k):= .inl ⟨kvs,k,.inl e,rfl,rfl⟩
theorem zeX.k {H:Hp} {a:Addr} {kvs:List (Key×V)} {k:Key} {v:V} (e:H a=some (.dK kvs)) (hl:kvs.length<sizeLine):zeX H a (kV k) v (upd H a (.dK (Vg kvs k v))):= .inl ⟨kvs,k,e,rfl,hl,rfl⟩


section
variable {X:Cx} {pins:List (Addr×Obj)} {σ:St} {H:Hp} {s:Shared} {a:Addr} {y v:V} {u r:Value} {o:Option V} {A:Around} {E:Value→Shared→Prop}

theorem Inv.big (I:Inv X pins σ H s):sysModules<s.heap.objs.size:=by
 have h:mainGlobals<s.heap.objs.size:=(I.mod.glob.keeps I.bk).lt
 exact Nat.lt_trans (by decide) h

theorem zd4 {Q:Value→Shared→Prop} (hu:A.units+1<cLine) (I:Inv X pins σ H s) (g:zbx H a y (some v)) (ry:zQ y u) (h:∀w' s',Inv X pins σ H s'→zQ v w'→Q w' s'):
  wpAny (model X.prog X.w) A (getItem (.ref a) u) Q E s:=by
 rcases g with ⟨kvs,k,e,ey,l⟩|⟨kvs,k,b,e,ey,eb,l⟩
 ·subst ey
  obtain ⟨z,hd,vs,rel,dd⟩:=zdp I.hok e
  obtain ⟨w',hw,rw'⟩:=Yq.some_of (v:=v) (o:=valueAt vs k) (by rw [l];exact rel.val k)
  exact wpAny_getItem_of (zdo ry) dd.mapOf hw (h w' _ (I.tok _) rw')
 ·subst ey
  cases (show u=Value.ref b from ry)
  obtain ⟨z,hd,xs,rel,dd⟩:=zdq I.hok e
  obtain ⟨w',hw,rw'⟩:=Yq.some_of (v:=v) (o:=(atKey xs k).map (·.2)) (by rw [l];exact rel.val k)
  obtain ⟨p,hp,hp2⟩:=Option.map_eq_some_iff.mp hw
  refine wpAny_getItem_heap (tupleKind_room_in1 hu) (zaD I.hok eb) dd hp ?_
  rw [hp2]
  exact h w' _ (I.tok _) rw'
theorem zgL {Q:Value→Shared→Prop} (hu:A.units+1<cLine) (I:Inv X pins σ H s) (g:zbx H a y o) (ry:zQ y u) (h:∀s',Inv X pins σ H s'→Q (.bool (!o.isSome)) s'):
  wpAny (model X.prog X.w) A (compareOp .NotIn u (.ref a)) Q E s:=by
 rcases g with ⟨kvs,k,e,ey,l⟩|⟨kvs,k,b,e,ey,eb,l⟩
 ·subst ey
  obtain ⟨z,hd,vs,rel,dd⟩:=zdp I.hok e
  refine wpAny_notIn_of (zdo ry) hd dd.mapOf ?_
  rw [←(rel.val k).isSome_eq,←l]
  exact h _ (I.tok _)
 ·subst ey
  cases (show u=Value.ref b from ry)
  obtain ⟨z,hd,xs,rel,dd⟩:=zdq I.hok e
  refine wpAny_notIn_heap (tupleKind_room_in1 hu) (zaD I.hok eb) hd dd ?_
  have q:=(rel.val k).isSome_eq
  rw [Option.isSome_map] at q
  rw [←q,←l]
  exact h _ (I.tok _)
theorem VT {h':Heap} {t':Nat} {ob:HO} (I:Inv X pins σ H s) (mu:Mut (H a)) (hs:Heap.SameBut a s.heap h') (he:∃q,h'.get? a=some q) (new:yI X.prog X.w (upd H a ob) h' a ob):
  Inv X pins σ (upd H a ob) {s with heap:=h',toks:=t'}:=
 I.write (x:=a) (e:=a) mu (.inl rfl) (fun b q hb z=>(hs.2 b hb).trans z) he new
theorem ziu {P:Program} {w:World} {H':Hp} {h':Heap} {kvs:List (Key×V)} {vs:List (Key×Value)} (z:kvs.length≤sizeLine) (hd:(a==sysModules)=false) (rel:KV kvs vs) (dd:h'.DictOf (xN P w) a vs):
  yI P w H' h' a (.dK kvs):=⟨z,hd,vs,rel,dd⟩
theorem zd5 {H':Hp} {Q:Unit→Shared→Prop} (hu:A.units+1<cLine) (I:Inv X pins σ H s) (g:zeX H a y v H') (ry:zQ y u) (rv:zQ v r) (h:∀s',Inv X pins σ H' s'→Q () s'):
  wpAny (model X.prog X.w) A (setItem (.ref a) u r) Q E s:=by
 rcases g with ⟨kvs,k,e,ey,l,eH⟩|⟨kvs,k,b,e,ey,eb,l,eH⟩
 ·subst ey eH
  obtain ⟨z,hd,vs,rel,dd⟩:=zhS I.hok e
  have hz:vs.length≤sizeLine:=by rw [←rel.length];exact z
  have hl:(Vg kvs k v).length≤sizeLine:=by have:=Vw kvs k v;omega
  refine wpAny_setItem_pairs (hsz:=hz) (zdo ry) dd fun h' dd' hs=>h _ ?_
  have he:∃q,h'.get? a=some q:=let ⟨q,_,_,hq,_⟩:=dd';⟨q,hq⟩
  exact VT I (by rw [e];exact True.intro) hs he (ziu hl hd (rel.put k rv) dd')
 ·subst ey eH
  cases (show u=Value.ref b from ry)
  obtain ⟨z,hd,xs,rel,dd⟩:=zjq I.hok e
  have hz:xs.length≤sizeLine:=by rw [←Paired.length rel];exact z
  have hl:(Vg kvs k v).length≤sizeLine:=by have:=Vw kvs k v;omega
  refine wpAny_setItem_heap (hsz:=hz) (tupleKind_room_in1 hu) (zaD I.hok eb) dd fun h' dd' hs=>h _ ?_
  obtain ⟨q,es,ep,hq,h2,h3,h4,_,h5⟩:=dd'
  refine VT I (by rw [e];exact True.intro) hs ⟨q,hq⟩ ⟨hl,hd,_,(rel.put k eb rv).keeps fun c ys ec=> ?_,q,es,ep,hq,h2,h3,h4,h5⟩
  rw [zm (zi4 ec e (fun z=>nomatch z))]
  exact ec
end

section
variable {X:Cx} {pins:List (Addr×Obj)} {σ:St} {H:Hp} {s:Shared} {a:Addr} {kvs:List (Key×V)} {k:Key} {u:Value} {A:Around} {E:Value→Shared→Prop}
end


noncomputable def zjr (i:Expr):Prop:=∀ov iv,subscripted i false ov iv=operate [ov,iv] (getItem ov iv)
theorem zgM {prog:Program} {w:World} {A:Around} {E:Value→Shared→Prop} {s:Shared} {env:Env} {value slice:Expr} {pos:Pos} {T id:String} {Q:Value→Shared→Prop}
  (hl:typeLookup (.type T) "__getitem__"=pure (some (.builtin id))) (hs:zjr slice)
  (h:wpAny (model prog w) A (eval value env) (fun o s₁=>wpAny (model prog w) A (eval slice env) (fun i s₂=>s₂.TypeIs o T∧wpAny (model prog w) A (getItem o i) Q E s₂) E s₁) E s):
  wpAny (model prog w) A (eval (.Subscript value slice pos) env) Q E s:=by
 refine Subscript_ (wpAny_mono h (fun o s₁ h₁=>wpAny_mono h₁ (fun i s₂ h₂=> ?_) fun _ _ x=>x) fun _ _ x=>x)
 obtain ⟨hT,h₂⟩:=h₂
 unfold subscriptTail
 refine wpAny_bind ?_
 rw [getitemInPython_of_ne hT.not_modules]
 refine wpAny_bind (wpAny_specialOf hT hl ?_)
 have fin:wpAny (model prog w) A (subscripted slice false o i) (fun r s₃=>wpAny (model prog w) A (letTemporaryGo value o r>>=fun _=>pure r) Q E s₃) E s₂:=by
  rw [hs o i]
  exact wpAny_operating (wpAny_mono h₂ (fun r s₃ h₃=>wpAny_bind (wpAny_letTemporaryGo (wpAny_pure h₃))) fun _ _ x=>x)
 first
  |exact wpAny_pure (wpAny_bind fin)
  |exact wpAny_bind (wpAny_pure (wpAny_bind fin))
  |exact wpAny_bind fin

theorem zby {X:Cx} {pins:List (Addr×Obj)} {σ:St} {H:Hp} {s:Shared} {a:Addr} {y:V} {o:Option V} (I:Inv X pins σ H s) (g:zbx H a y o):s.TypeIs (.ref a) "dict":=by
 rcases g with ⟨kvs,k,e,_,_⟩|⟨kvs,k,b,e,_,_,_⟩
 ·obtain ⟨_,_,vs,_,dd⟩:=zdp I.hok e
  exact dd.typeIs
 ·obtain ⟨_,_,xs,_,dd⟩:=zdq I.hok e
  exact dd.typeIs


section
variable {X:Cx} {o i e value:Expr} {pos pos' tpos:Pos} {td ty tv:TE}
end


theorem zeY {P:Program} {w:World} {H:Hp} (h:Heap) (hb:sysModules<h.objs.size):yI P w H (h.push {cls:= .type "dict",data:= .dict #[]}) h.objs.size (.dK []):=
 ⟨Nat.zero_le _,beq_eq_false_iff_ne.mpr (Ne.symm (Nat.ne_of_lt hb)),[],.nil,Heap.DictOf.new h⟩
noncomputable def zeZ:TE:=fun _ H Q=>∀p,H p=none→Q (.ref p) (upd H p (.dK []))
section
variable {X:Cx} {pos:Pos}
theorem zbz:PE X (.Dict [] [] pos) zeZ:=fun pins s σ H Q I h=>
 wpAny_Dict_empty ⟨.ref s.heap.objs.size,_,I.laid (a:=s.heap.objs.size) (o:= .dK []) (t':=s.toks) (fun _ _ q=>Heap.get?_push_of_some _ q) (Nat.le_refl _) (zeY s.heap I.big),rfl,h _ (I.hok.fresh (Nat.le_refl _))⟩
end

noncomputable abbrev VV:List (V×V)→List (Value×Value)→Prop:=Paired fun p q=>zQ p.1 q.1∧zQ p.2 q.2



structure M1 (X:Cx) (o:Expr) (m:Str) (apos:Pos) (e:Expr) (cpos:Pos):Prop where
 base:attributeBase o m X.env (eval o X.env)=eval o X.env
 few:((backTo cpos (starEach [e] X.env)).all (fun x=> !x.1)&&(backToKw cpos (keywordEach [] X.env)).all (fun x=>x.1.isSome)
  &&decide (([e]:List Expr).length+([]:List Keyword).length+(if ([]:List Keyword).isEmpty then 0 else 1)<30))=true
 line:(apos.endLine==cpos.line)=true
 trees:backTo cpos (starEach [e] X.env)=[(false,eval e X.env)]
structure M2 (X:Cx) (o:Expr) (m:Str) (apos:Pos) (e f:Expr) (cpos:Pos):Prop where
 base:attributeBase o m X.env (eval o X.env)=eval o X.env
 few:((backTo cpos (starEach [e,f] X.env)).all (fun x=> !x.1)&&(backToKw cpos (keywordEach [] X.env)).all (fun x=>x.1.isSome)
  &&decide (([e,f]:List Expr).length+([]:List Keyword).length+(if ([]:List Keyword).isEmpty then 0 else 1)<30))=true
 line:(apos.endLine==cpos.line)=true
 trees:backTo cpos (starEach [e,f] X.env)=[(false,eval e X.env),(false,eval f X.env)]


section
variable {X:Cx} {pins:List (Addr×Obj)} {σ:St} {H:Hp} {s:Shared} {a:Addr} {y d:V} {u r:Value} {o:Option V} {A:Around} {E:Value→Shared→Prop}
end

section
variable {X:Cx} {o e f:Expr} {apos cpos:Pos} {td ty tx:TE}
end

section
variable {X:Cx} {pins:List (Addr×Obj)} {σ:St} {H:Hp} {s:Shared} {a:Addr} {kvs:List (Key×V)} {A:Around} {E:Value→Shared→Prop}
end


section
variable {X:Cx} {pins:List (Addr×Obj)} {σ:St} {H:Hp} {s:Shared} {a:Addr} {y:V} {u:Value} {A:Around} {E:Value→Shared→Prop}
end
end L2
namespace Att
open PySem PySem.W PySem.Calls PyProof.Rows

theorem VF {P:Params} {h:Heap}:∀(ns:List Int) (vs:List Value),WellAll P h vs (ns.map WData.int)→IntsAre vs ns:=by
 intro ns
 induction ns with
 |nil=>
  intro vs w
  rw [List.map_nil] at w
  cases w
  exact .nil
 |cons n ns ih=>
  intro vs w
  rw [List.map_cons] at w
  cases w with
  |cons a b=>
   cases a
   exact .cons _ _ (ih _ b)

theorem zd6 {l:OpenLaw} {n:Nat} (hn:l.most=some n) {P:Params} {h:Heap} {args:List WData} {vals:List Value}
  (hpre:l.row.toRowW.claim.pre args=true) (hwl:WellAll P h vals args):
  ∃a vs ns,vals=[Value.ref a]∧args=[WData.list (ns.map WData.int)]∧h.get? a=some {cls:= .type "list",data:= .seq vs.toArray}∧IntsAre vs ns∧ns.length≤n:=by
 have hsh:WShape.hasAll [] args [.list .int]=true:=(pre_splitW hpre).1
 have hc:l.pre.holds [] {args:=args}=true:=(pre_splitW hpre).2
 obtain ⟨d,r,rfl,h1,h2⟩:=hasAllW_cons hsh
 obtain rfl:=hasAllW_nil h2
 obtain ⟨xs,rfl,h3⟩:=hasW_list h1
 obtain ⟨ns,rfl⟩:=items_int h3
 have hlen:ns.length≤n:=by
  unfold OpenLaw.pre at hc
  have h4:(WTm.not (.lt (.lit (.int (n:Int))) (.len (.arg 0)))).holds [] {args:=[.list (ns.map .int)]}=true:=by
   have h4:=(holds_andW hc).1
   rw [hn] at h4
   exact h4
  have h5:=condW_of h4 (w_not (w_lt w_lit (w_len_list (w_arg rfl))))
  rw [List.length_map] at h5
  refine Nat.le_of_not_lt fun q=> ?_
  have q':(n:Int)<((ns.length:Nat):Int):=by omega
  first
   |(rw [decide_eq_true q'] at h5;exact absurd h5 (by decide))
   |(simp at h5;omega)
 cases hwl with
 |cons w1 w2=>
  cases w2
  cases w1 with
  |list ho hall=>exact ⟨_,_,ns,rfl,rfl,ho,VF ns _ hall,hlen⟩

theorem zd7 (l:OpenLaw) (args:List WData):l.row.toRowW.claim.post args (.bool true) args=true:=
 postW_of (r:=l.row.toRowW) (X:=(true==true))
  (show WShape.has [] (.bool true) .bool=true by first|rfl|decide|simp [WShape.has,WShape.arms,WShape.armsAll])
  (show (WTm.eq .res (.lit (.bool true))).value [] {args:=args,res:=some (.bool true),after:=args}=some (.bool (true==true)) from w_eq_bool (w_res rfl) w_lit) rfl


theorem zbA {l:OpenLaw} {n:Nat} {q:Program} {loose:List Str} {XP:(Str→Option Value)→Heap→Prop} {YP:World→Heap→Prop} {d:DefRec}
  (hn:l.most=some n) (hdf:d.params.defaults=[])
  (call:∀(w:World) (s₀ s₁:Shared) (mg mb:Str→Option Value) (fa:Addr) (o:Obj) (pm cd doc:Value) (a:Addr) (vs:List Value) (ns:List Int),
   Ground q loose [] XP w s₀ mg mb s₁.heap→YP w s₁.heap→
   s₁.heap.get? fa=some o→o.data= .func (docDef d.name d.params d.body d.scope pm cd doc)→s₁.heap.CodeRec cd d.name→mg d.name=some (.ref fa)→
   s₁.heap.get? a=some {cls:= .type "list",data:= .seq vs.toArray}→IntsAre vs ns→ns.length≤n→s₁.gens= #[]→
   codeAny (model l.prog w) callerA (.call (.ref fa) ⟨[.ref a],[]⟩) (fun r s'=>r= .ok (.ret (.bool true))∧OldK s₁.heap s'.heap∧s'.os=s₁.os∧AllBare s'.gens) s₁):
  WalkO q loose XP YP l.row.toRowW d [] (fun f vs=>PySem.call f vs):=by
 intro w s₀ s₁ mg mb G Y fa o pm cd doc dV kV ho hd hcd hD hmg hg args vals as hpre hlay hrd hwl hlo
 obtain rfl:dV= .none:=Dflts.none hD hdf
 obtain rfl:kV= .none:=Dflts.noKw hD
 obtain ⟨a,vs,ns,rfl,rfl,hobj,hints,hlen⟩:=zd6 hn hpre hwl
 refine enter_call (codeAny_mono (call w s₀ s₁ mg mb fa o pm cd doc a vs ns G Y ho (fd_plain hd) hcd hmg hobj hints hlen hg) fun r s' hq=> ?_)
 obtain ⟨rfl,h2,h3,h4⟩:=hq
 exact ⟨.inl ⟨.bool true,.bool true,[],rfl,fun _=>rfl,.bool true,zd7 l _,fun _=>⟨List.Pairwise.nil,fun _ hm=>(nomatch hm)⟩⟩,h2,h3,h4⟩


section
variable {prog:Program} {w:World} {A:Around} {E:Value→Shared→Prop} {s:Shared} {K:Frag}






end
end Att

namespace L2
open PySem PySem.Spec PyProof.Rows

theorem TV:∀{vs:List Value} {ns:List Int},IntsAre vs ns→zO (ns.map V.int) vs
 |_,_,.nil=> .nil
 |_,_,.cons n t h=> .cons ⟨t,rfl⟩ (TV h)


end L2

namespace L2
open PySem PySem.Spec PyProof.Rows

noncomputable abbrev KOf {K:PySem.W.Frag} {h:Heap} (_:K.In h):PySem.W.Frag:=K

end L2

/- THE LAST THEOREM (shape; LID, My.* are yours):
   My.Adr: a structure of the addresses that your layer names (classes, functions); My.Txt K t: a structure (Prop) of the equations over K;
   My.txt_mk : {K} {implicit addresses ..} (e1 : nsIn K mainGlobals "law" = some (some (.ref f))) (e2 : K.lookup f = some ⟨oc, od, .func (fnOf "law" "law" params body scope dV kV doc pm an cdv ct), sl⟩) (e3 : codeIn K cdv "law" = true) .. : ∃ t, My.Txt K t

set_option maxHeartbeats 0 in
theorem PySem.Challenge.cw_LID_holds : PySem.Challenge.rw_LID.Holds := by
 w_on; o_law; k_head; (case hw => w_witness2)
 k_fill
 refine L2.walk_of (l := PySem.Challenge.rw_LID) (n := 63) (k := 40) (x := "script") (CX := fun w => ..) (sp := fun _ => My.sp_law) rfl (by decide) rfl ⟨rfl, by decide, by decide⟩ (fun w h Y => PySem.W.kIn_of Y) ?F ?S ?C
 case F =>
  intro w mg fa h KX G hmg
  have T : ∃ t, My.Txt (L2.KOf KX) t := by
   dsimp only [L2.KOf]                          -- K must stand as «<heap const> w.params» for k_is
   refine' My.txt_mk ?e1 ?e2 ?e3 ..
   (case e1 => PySem.W.k_is)                    -- in the order: a name -> its address -> its object -> its parts
   (case e2 => PySem.W.k_is)
   ..
  obtain ⟨t, T⟩ := T
  have e0 := hmg.symm.trans (PySem.W.mg_of KX G T.law)
  cases e0                                       -- fa is the law's own address
  exact ⟨_, fun s u => .of_eq rfl, fun base kb nb => My.law_fn T kb nb⟩     -- if «.of_eq rfl» comes too early: refine' ⟨_, ?b, fun base kb nb => My.law_fn T kb nb⟩; exact fun s u => .of_eq rfl
 case S => exact fun w H a ns hl hO hS => ..
 case C => exact ..
(the tactic k_is has no namespace: write k_is) -/

namespace L2
open PySem PySem.Spec PyProof.Rows

noncomputable def zY (s:Stmt) (j:Nat):Stmt:=match s with
 | .ClassDef _ _ _ body _ _ _ _ _ _ _=>body.getD j (.Pass ⟨0,0,0,0⟩)
 |_=> .Pass ⟨0,0,0,0⟩
noncomputable def Yw (s:Stmt):Arguments:=match s with
 | .FunctionDef _ a _ _ _ _ _ _ _ _=>a
 |_=>{posonlyargs:=[],args:=[],vararg:=none,kwonlyargs:=[],kw_defaults:=[],kwarg:=none,defaults:=[]}
noncomputable def vo (s:Stmt):List Stmt:=match s with
 | .FunctionDef _ _ b _ _ _ _ _ _ _=>b
 |_=>[]
noncomputable def zh (s:Stmt):Scope:=match s with
 | .FunctionDef _ _ _ _ _ _ sc _ _ _=>sc
 |_=>{kind:= .function,names:=[],isGenerator:=false,isCoroutine:=false}

noncomputable abbrev CX0:CXT:=fun _ _ _ _ _ _=>False
noncomputable abbrev E0:XK:=fun _ _ _=>False

structure Fun (K:PySem.W.Frag) (x qual:Str) (st:Stmt) (f:Addr) (fd:FuncData):Prop where
 ex:∃(oc:Value) (od:Option Addr) (kV doc pm:Value) (an:Option Addr) (cdv ct:Value) (osl:Array (Option Value)),
  fd=PySem.W.fnOf x qual (Yw st) (vo st) (zh st) .none kV doc pm an cdv ct∧K.lookup f=some ⟨oc,od,.func fd,osl⟩∧PySem.W.codeIn K cdv qual=true
 kp:PySem.W.keepIn K (.ref f)=true
section
variable {P:Program} {w:World} {K:PySem.W.Frag} {mg:Str→Option Value} {base:Heap}
theorem Fun.binds {x qual:Str} {st:Stmt} {f:Addr} {fd:FuncData} {ps:List Str} (F:Fun K x qual st f fd)
  (h:∀(kV doc pm:Value) (an:Option Addr) (cdv ct:Value) (us:List Value),us.length=ps.length→bindArgs (PySem.W.fnOf x qual (Yw st) (vo st) (zh st) .none kV doc pm an cdv ct) ⟨us,[]⟩=pure (ps.zip us)):XQ K fd ps []:=by
 obtain ⟨oc,od,kV,doc,pm,an,cdv,ct,osl,rfl,lk,hcd⟩:=F.ex
 exact .all (h kV doc pm an cdv ct)
theorem ze0 {x qual:Str} {st:Stmt} {f:Addr} {oc:Value} {od an:Option Addr} {osl:Array (Option Value)} {kV doc pm cdv ct:Value} (l:K.lookup f=some ⟨oc,od,.func (PySem.W.fnOf x qual (Yw st) (vo st) (zh st) .none kV doc pm an cdv ct),osl⟩)
  (c:PySem.W.codeIn K cdv qual=true) (k:PySem.W.keepIn K (.ref f)=true):Fun K x qual st f (PySem.W.fnOf x qual (Yw st) (vo st) (zh st) .none kV doc pm an cdv ct):=⟨⟨oc,od,kV,doc,pm,an,cdv,ct,osl,rfl,l,c⟩,k⟩
end

section
variable {X:Cx}
theorem pv (i:Nat) {x:Str} {pos:Pos} (hN:X.N[i]? =some x:=by rfl) (hv:Vis X.env.scope x:=by first|exact Or.inl rfl|exact Or.inr (Or.inl rfl)|exact Or.inr (Or.inr rfl)) (hd:(x==("__debug__":Str))=false:=by decide)
  (hcd:(x==("__classdict__":Str))=false:=by decide):PE X (.Name x pos) (zib i):=zeC hN hv hd hcd
end


noncomputable def Yx (H H':Hp):Prop:=∀b o,H b=some o→H' b=some o
theorem Yx.refl (H:Hp):Yx H H:=fun _ _ h=>h

section
variable {κ:Type} [DecidableEq κ]
end
end L2
namespace L2
open PySem PySem.Spec PyProof.Rows

theorem Xe {prog:Program} {w:World} {A:Around} {elt iter tg:Expr} {ifs:List Expr} {scope:Scope} {pos:Pos} {it acc:Value} {env:Env} {s:Shared} {R:Result→Shared→Prop} (I:Nat→Shared→Prop)
  (turn:∀n s,I n s→wpAny (model prog w) A (pyNext it) (fun r s₁=>match r with
   |none=>R (.ok .next) s₁
   |some v=>wpAny (model prog w) A (letOwnedTupleGo tg it v) (fun _ s₁'=>wpAny (model prog w) A (assign tg env v) (fun _ s₂=>
     wpAny (model prog w) A (forIn ifs true fun c r=>if r=true then do let ok ←isTrue c env (eval c env);pure (ForInStep.yield ok) else pure (ForInStep.yield r)) (fun ok s₃=>
      if ok=true then wpAny (model prog w) A (eval elt env) (fun x s₄=>
       wpAny (model prog w) A (call (.builtin "list.append") [acc,x]) (fun _ s₅=>∃m,m<n∧I m s₅) (fun _ _=>False) s₄) (fun _ _=>False) s₃
      else ∃m,m<n∧I m s₃) (fun _ _=>False) s₂)
     (fun _ _=>False) s₁') (fun _ _=>False) s₁) (fun _ _=>False) s)
  (n:Nat) (h:I n s):codeAny (model prog w) A (.compLoop (.ListComp elt [⟨tg,iter,ifs,0⟩] scope pos) 0 it acc env) R s:=by
 refine codeAny_loop rfl I (fun n s hI=> ?_) n h
 show wpAny _ A ((compTurn (.ListComp elt [⟨tg,iter,ifs,0⟩] scope pos) 0 it acc env).onRaise (fun x=>do noteFrame x env;theTreesLotGoes x)) _ _ s
 refine wpAny_noted ?_
 rw [compTurn_list]
 refine wpAny_bind (wpAny_standAt (wpAny_bind (wpAny_mono (turn n s hI) (fun r s₁ h₁=> ?_) fun _ _ h'=>h'.elim)))
 cases r with
 |none=>exact wpAny_pure h₁
 |some v=>
  refine wpAny_bind (wpAny_mono h₁ (fun _ s₁' h₁'=> ?_) fun _ _ h'=>h'.elim)
  refine wpAny_bind (wpAny_mono h₁' (fun _ s₂ h₂=>wpAny_bind (wpAny_mono h₂ (fun ok s₃ h₃=> ?_) fun _ _ h'=>h'.elim)) fun _ _ h'=>h'.elim)
  cases ok with
  |false=>exact wpAny_pure ⟨rfl,h₃⟩
  |true=>
   exact wpAny_bind (wpAny_bind (wpAny_mono h₃ (fun x s₄ h₄=>wpAny_bind (wpAny_mono h₄ (fun _ s₅ h₅=>wpAny_pure (wpAny_pure ⟨rfl,h₅⟩)) fun _ _ h'=>h'.elim)) fun _ _ h'=>h'.elim))

noncomputable def VG (env:Env):List (Str×NameKind)→List (Str×Addr)→List (Str×Addr)
 |[],cs=>cs
 |(n,k)::r,cs=>VG env r (if k== .free then (match env.cells.lookup n with|some c=>(n,c)::cs|none=>cs) else cs)
noncomputable def Yy (sc:Scope) (env:Env):List (Str×Addr):=VG env sc.names []
theorem Uz {env:Env}:∀{ns:List (Str×NameKind)} {cs:List (Str×Addr)},(∀p∈cs,env.cells.lookup p.1=some p.2)→∀p∈VG env ns cs,env.cells.lookup p.1=some p.2
 |[],_,h=>h
 |(n,k)::r,cs,h=>by
  unfold VG
  refine Uz ?_
  by_cases hk:(k== .free)=true
  ·rw [if_pos hk]
   cases e:env.cells.lookup n with
   |none=>exact h
   |some c=>
    intro p hp
    rcases List.mem_cons.mp hp with rfl|hp
    ·exact e
    ·exact h p hp
  ·rw [if_neg hk];exact h
theorem zbB {env:Env}:∀{ns:List (Str×NameKind)} {cs:List (Str×Addr)} {p:Str×Addr},p∈cs→p∈VG env ns cs
 |[],_,_,h=>h
 |(n,k)::r,cs,p,h=>by
  unfold VG
  refine zbB ?_
  by_cases hk:(k== .free)=true
  ·rw [if_pos hk]
   cases env.cells.lookup n with
   |none=>exact h
   |some c=>exact List.mem_cons_of_mem _ h
  ·rw [if_neg hk];exact h
theorem zbC {env:Env} {x:Str} {c:Addr} (e:env.cells.lookup x=some c):∀{ns:List (Str×NameKind)} {cs:List (Str×Addr)},(x,NameKind.free)∈ns→(x,c)∈VG env ns cs
 |[],_,h=>by cases h
 |(n,k)::r,cs,h=>by
  unfold VG
  rcases List.mem_cons.mp h with h|h
  ·injection h with h1 h2
   subst h1 h2
   refine zbB ?_
   rw [if_pos (by rfl),e]
   exact List.mem_cons_self
  ·exact zbC e h
theorem XR:∀{l:List (Str×Addr)} {x:Str} {c:Addr},(x,c)∈l→∃d,l.lookup x=some d
 |[],_,_,h=>by cases h
 |(n,d)::r,x,c,h=>by
  rw [List.lookup_cons]
  cases e:x==n with
  |true=>exact ⟨d,rfl⟩
  |false=>
   rcases List.mem_cons.mp h with h|h
   ·injection h with h1 h2
    subst h1
    simp at e
   ·exact XR h
theorem xo {sc:Scope} {env:Env} {x:Str} {c:Addr} (e:(Yy sc env).lookup x=some c):env.cells.lookup x=some c:=
 Uz (cs:=[]) (fun p hp=>by cases hp) (x,c) (PySem.mem_of_lookup e)
theorem Ws {sc:Scope} {env:Env} {x:Str} {c:Addr} (h:(x,NameKind.free)∈sc.names) (e:env.cells.lookup x=some c):(Yy sc env).lookup x=some c:=by
 obtain ⟨d,hd⟩:=XR (zbC (cs:=[]) e h)
 have:=xo (sc:=sc) hd
 rw [e] at this
 cases this
 exact hd
theorem Tk {sc:Scope} {env:Env} (h:∀y∈sc.names,y.2= .free→∃c,env.cells.lookup y.1=some c):closureFor sc env=pure (Yy sc env):=by
 unfold Yy closureFor
 generalize sc.names=ns at h
 suffices hh:∀cs:List (Str×Addr),(forIn ns cs (fun (x:Str×NameKind) (r:List (Str×Addr))=>
    (match x with
     |(name,kind)=>if (kind==NameKind.free)=true then (cellOf env name>>=fun c=>pure (ForInStep.yield ((name,c)::r))) else pure (ForInStep.yield r):Sem (ForInStep (List (Str×Addr)))))>>=fun r=>pure r:Sem (List (Str×Addr)))=pure (VG env ns cs) from hh []
 induction ns with
 |nil=>intro cs;rfl
 |cons p r ih=>
  intro cs
  obtain ⟨n,k⟩:=p
  rw [List.forIn_cons]
  unfold VG
  have ih':=ih fun y hy=>h y (List.mem_cons_of_mem _ hy)
  by_cases hk:(k== .free)=true
  ·obtain ⟨c,hc⟩:=h (n,k) List.mem_cons_self (by simpa using hk)
   have hc:env.cells.lookup n=some c:=hc
   have h1:cellOf env n=pure c:=by unfold cellOf;rw [hc]
   simp only [hk,if_true,h1,hc,pure_bind]
   exact ih' _
  ·simp only [hk,if_false,pure_bind]
   exact ih' _

noncomputable def xB (X:Cx) (N':List Str) (sc:Scope) (C:Addr) (s₀:Shared) (H₀:Hp) (fp:List Addr):Cx where
 prog:=X.prog
 w:=X.w
 K:=X.K
 mg:=X.mg
 base:=X.base
 A:=X.A
 N:=N'
 s₀:=s₀
 H₀:=H₀
 env:=compEnvC sc (Yy sc X.env) C X.env
 outer:=X.stack
 stack:=X.stack
 ex:=fp
 fn:=fun _=>false
 zn:=fun _=>false
 calm:=X.calm
 pn:=[]
 xe:=fun _ _=>False

theorem vP {env:Env}:∀{names:List (Str×NameKind)} {x:Str},names.lookup x=some .free→
  (names.map fun (n,k)=>if (k==NameKind.free&&env.scope.kind== .function&&env.kindOf n==some .cell) then (n,NameKind.cell) else (n,k)).lookup x=some .cell∨
  (names.map fun (n,k)=>if (k==NameKind.free&&env.scope.kind== .function&&env.kindOf n==some .cell) then (n,NameKind.cell) else (n,k)).lookup x=some .free
 |[],_,h=>by simp at h
 |(n,k)::r,x,h=>by
  have ih:= @vP env r x
  show List.lookup x ((if (k==NameKind.free&&env.scope.kind== .function&&env.kindOf n==some .cell)=true then (n,NameKind.cell) else (n,k))::_)=_∨List.lookup x ((if (k==NameKind.free&&env.scope.kind== .function&&env.kindOf n==some .cell)=true then (n,NameKind.cell) else (n,k))::_)=_
  cases hx:x==n with
  |true=>
   simp only [List.lookup_cons,hx] at h
   cases h
   by_cases hc:(NameKind.free==NameKind.free&&env.scope.kind== .function&&env.kindOf n==some .cell)=true
   ·rw [if_pos hc];left;simp [List.lookup_cons,hx]
   ·rw [if_neg hc];right;simp [List.lookup_cons,hx]
  |false=>
   simp only [List.lookup_cons,hx] at h
   by_cases hc:(k==NameKind.free&&env.scope.kind== .function&&env.kindOf n==some .cell)=true
   ·rw [if_pos hc];simp only [List.lookup_cons,hx];exact ih h
   ·rw [if_neg hc];simp only [List.lookup_cons,hx];exact ih h
theorem Zy {env:Env} {x:Str} {k:NameKind} (hk:k= .cell∨k= .free):∀{names:List (Str×NameKind)},(∀y∈names,y.2≠ .cell)→
  (names.map fun (n,k)=>if (k==NameKind.free&&env.scope.kind== .function&&env.kindOf n==some .cell) then (n,NameKind.cell) else (n,k)).lookup x=some k→(x,NameKind.free)∈names
 |[],_,h=>by simp at h
 |(n,j)::r,hc,h=>by
  have hr:∀y∈r,y.2≠ .cell:=fun y hy=>hc y (List.mem_cons_of_mem _ hy)
  have h:List.lookup x ((if (j==NameKind.free&&env.scope.kind== .function&&env.kindOf n==some .cell)=true then (n,NameKind.cell) else (n,j))::_)=_:=h
  by_cases hj:(j==NameKind.free&&env.scope.kind== .function&&env.kindOf n==some .cell)=true
  ·rw [if_pos hj,List.lookup_cons] at h
   have hj':j= .free:=by
    simp only [Bool.and_eq_true,beq_iff_eq] at hj
    exact hj.1.1
   cases hx:x==n with
   |true=>
    rw [eq_of_beq hx,←hj']
    exact List.mem_cons_self
   |false=>
    rw [hx] at h
    exact List.mem_cons_of_mem _ (Zy hk hr h)
  ·rw [if_neg hj,List.lookup_cons] at h
   cases hx:x==n with
   |true=>
    rw [hx] at h
    have h':j=k:=Option.some.inj h
    have hjc:j≠ .cell:=hc (n,j) List.mem_cons_self
    rcases hk with e|e
    ·exact absurd (h'.trans e) hjc
    ·rw [eq_of_beq hx]
     have:j= .free:=h'.trans e
     rw [this]
     exact List.mem_cons_self
   |false=>
    rw [hx] at h
    exact List.mem_cons_of_mem _ (Zy hk hr h)

noncomputable def wB (X:Cx) (sc:Scope):List (Option Nat)→List Str→Prop
 |[],[]=>True
 |none::r,_::n=>wB X sc r n
 |some i::r,x::n=>(X.N[i]? =some x∧sc.names.lookup x=some .free)∧wB X sc r n
 |_,_=>False
noncomputable def Zh (cap:List (Option Nat)) (σ:St):St:=cap.map fun o=>o.bind fun i=>(σ[i]?).join
theorem wB.at {X:Cx} {sc:Scope}:∀{cap:List (Option Nat)} {N':List Str},wB X sc cap N'→∀(j i:Nat) (x:Str),cap[j]? =some (some i)→N'[j]? =some x→X.N[i]? =some x∧sc.names.lookup x=some .free
 |[],[],_,j,i,x,h,_=>by simp at h
 |none::r,y::n,c,0,i,x,h,_=>by simp at h
 |none::r,y::n,c,j+1,i,x,h,h2=>wB.at (cap:=r) c j i x (by simpa using h) (by simpa using h2)
 |some k::r,y::n,c,0,i,x,h,h2=>by
  simp at h h2
  subst h h2
  exact c.1
 |some k::r,y::n,c,j+1,i,x,h,h2=>wB.at (cap:=r) c.2 j i x (by simpa using h) (by simpa using h2)
theorem wB.len {X:Cx} {sc:Scope}:∀{cap:List (Option Nat)} {N':List Str},wB X sc cap N'→cap.length=N'.length
 |[],[],_=>rfl
 |none::r,y::n,c=>by simpa using wB.len (cap:=r) (N':=n) c
 |some k::r,y::n,c=>by simpa using wB.len (cap:=r) (N':=n) c.2
theorem TW {cap:List (Option Nat)} {σ:St} {j:Nat} {v:V} (h:(Zh cap σ)[j]? =some (some v)):∃i,cap[j]? =some (some i)∧σ[i]? =some (some v):=by
 unfold Zh at h
 rw [List.getElem?_map] at h
 cases e:cap[j]? with
 |none=>rw [e] at h;cases h
 |some o=>
  rw [e] at h
  cases o with
  |none=>simp at h
  |some i=>
   refine ⟨i,rfl,?_⟩
   simp only [Option.map_some,Option.bind_some,Option.some.injEq] at h
   cases q:σ[i]? with
   |none=>rw [q] at h;simp at h
   |some z=>rw [q] at h;simp at h;rw [h]

noncomputable def PTs (X:Cx) (ifs:List Expr) (t:TT):Prop:=
 ∀(pins:List (Addr×Obj)) (s:Shared) (σ:St) (H:Hp) (Q:Bool→Hp→Prop),Inv X pins σ H s→t σ H Q→
  wpAny (model X.prog X.w) X.A (forIn ifs true fun c r=>if r=true then do let ok ←isTrue c X.env (eval c X.env);pure (ForInStep.yield ok) else pure (ForInStep.yield r)) (TP X pins σ Q) X.xe s
theorem yU {X:Cx}:PTs X [] (fun _ H Q=>Q true H):=fun _ _ _ H _ I h=>wpAny_tests_nil ⟨H,I,h⟩

noncomputable def ze1 (cap:List (Option Nat)) (g:TG) (tt:TT) (te:TE) (J:It) (σ:St) (acc:Addr) (H0:Hp) (Q:Hp→Prop):Prop:=
 ∃W:Nat→Nat→List V→Hp→Prop,(∃m,W 0 m [] (upd H0 acc (.lst [])))∧∀i m ys H,W i m ys H→
  (J.stop i H∧Q H)∨(J.go i H∧∀x H',J.yld i H x H'→g x (Zh cap σ) H' fun σ2 H2=>tt σ2 H2 fun b H3=>
   if b=true then te σ2 H3 fun v H4=>H4 acc=some (.lst ys)∧ys.length<sizeLine∧∃m',m'<m∧W (i+1) m' (ys++[v]) (upd H4 acc (.lst (ys++[v])))
   else ∃m',m'<m∧W (i+1) m' ys H3)
noncomputable def ze2 (cap:List (Option Nat)) (wi:TI) (g:TG) (tt:TT) (te:TE):TE:=fun σ H Q=>wi σ H fun J H1=>∀acc,H1 acc=none→ze1 cap g tt te J σ acc H1 fun H2=>Q (.ref acc) H2
noncomputable def zbD (i:Nat) (cap:List (Option Nat)) (wi:TI) (g:TG) (tt:TT) (te:TE):TS:=fun D σ H=>wi σ H fun J H1=>∀acc,H1 acc=none→ze1 cap g tt te J σ acc H1 fun H2=>D.nx (σ.set i (some (.ref acc))) H2

structure Yz (X:Cx) (sc:Scope):Prop where
 cell:∀y∈sc.names,y.2≠ .cell
 kind:sc.kind= .function
 names:∀y∈sc.names,y.2= .local→sc.names.lookup y.1=some .local
 free:∀y∈sc.names,y.2= .free→X.env.kindOf y.1=some .cell∨X.env.kindOf y.1=some .free

section
variable {X:Cx} {elt tg iter:Expr} {ifs:List Expr} {sc:Scope} {pos:Pos} {wi:TI} {g:TG} {tt:TT} {te:TE} {N':List Str} {cap:List (Option Nat)}

theorem Inv.closure {pins:List (Addr×Obj)} {σ:St} {H:Hp} {s:Shared} (I:Inv X pins σ H s) (B:Yz X sc):closureFor sc X.env=pure (Yy sc X.env):=
 Tk fun y hy e=>I.ok.has y.1 (B.free y hy e)

theorem zd8 {pins:List (Addr×Obj)} {σ:St} {H:Hp} {s:Shared} {h₁:Heap} {t':Nat} {fp:List Addr} {acc C:Addr} {s₀:Shared} {m:Str→Option Value}
  (I:Inv X pins σ H s) (B:Yz X sc) (cp:wB X sc cap N') (hf:∀b∈fp,zbs X pins H b) (hfo:∀b∈fp,b<s.heap.objs.size) (hacc:acc=s.heap.objs.size) (ho:s₀.os=s.os) (hgen:s₀.gens=s.gens)
  (h0:s₀.heap=s.heap.push {cls:= .type "list",data:= .seq #[]}) (hC:C=s₀.heap.objs.size)
  (hns:h₁.Ns C m) (hsb:∀b o,s₀.heap.get? b=some o→h₁.get? b=some o):
  Inv (xB X N' sc C s₀ (upd H acc (.lst [])) fp) [] (Zh cap σ) (upd H acc (.lst [])) {s₀ with heap:=h₁,toks:=t'}:=by
 have hfr:H acc=none:=I.hok.fresh (Nat.le_of_eq hacc.symm)
 have up0:∀b o,s.heap.get? b=some o→s₀.heap.get? b=some o:=fun b o e=>by rw [h0];exact Heap.get?_push_of_some _ e
 have sz0:s₀.heap.objs.size=s.heap.objs.size+1:=by rw [h0,Heap.size_push]
 have I0:Inv X pins σ (upd H acc (.lst [])) {s with heap:=s₀.heap,toks:=s.toks}:=I.laid up0 (Nat.le_of_eq hacc.symm) ⟨Nat.zero_le _,[],0,.nil,by rw [h0,hacc];exact Heap.get?_push_size _ rfl⟩
 have CX':∀b,b<s.heap.objs.size→b≠C:=fun b hb=>Nat.ne_of_lt (by rw [hC,sz0];exact Nat.lt_succ_of_lt hb)
 have CA:∀b,b<s.heap.objs.size→b≠acc:=fun b hb=>Nat.ne_of_lt (by rw [hacc];exact hb)
 have cellLt:∀x c,X.env.cells.lookup x=some c→c<s.heap.objs.size:=fun x c e=>by
  obtain ⟨v,o,q,_⟩:=I.cell x c e
  exact Heap.lt_size q
 refine ⟨⟨I.ok.mod,B.kind,I.ok.glob,I.ok.blt,Nat.le_of_eq hC.symm,fun x y c h1 h2=>I.ok.inj x y c (xo h1) (xo h2),fun x hx=> ?_,fun x c h=>(h.elim (fun z=>Bool.noConfusion z) fun z=>Bool.noConfusion z),I.ok.hd,I.ok.frames,.inl rfl,fun b hb=>⟨CX' b (hfo b hb),fun x c e=>(hf b hb).2.2.2.2.1 x c (xo e)⟩,
   fun b o e=> ?_,?_,fun b o e hb=> ?_,fun b hb hz=> ?_,I0.stack,I0.stkFree⟩,
  rfl,?_,Un.kept hsb,⟨m,hns,fun j x v h1 h2 h3=> ?_⟩,fun x c e=> ?_,?_,fun x c e=> ?_,fun p hp=>absurd (show p∈([]:List (Addr×Obj)) from hp) (by simp),I0.hok.kept hsb,?_⟩
 ·have hm:(x,NameKind.free)∈sc.names:=by
   rcases hx with hx|hx
   ·exact Zy (env:=X.env) (.inl rfl) B.cell hx
   ·exact Zy (env:=X.env) (.inr rfl) B.cell hx
  obtain ⟨c,hc⟩:=I.ok.has x (B.free _ hm rfl)
  exact ⟨c,Ws hm hc⟩
 ·obtain ⟨e1,e2⟩:=I.bs b o e
  exact ⟨up0 b o e1,by show upd H acc (.lst []) b=none;rw [zm (CA b (Heap.lt_size e1))];exact e2⟩
 ·exact Nat.le_trans I.ok.bsz (Nat.le_trans I.sz (by show _≤s₀.heap.objs.size;omega))
 ·rcases (hf b hb).2.2.2.1 with z|z
  ·exact I.ok.noex b o e z
  ·exact absurd (Nat.lt_of_lt_of_le (Heap.lt_size e) (Nat.le_trans I.ok.bsz z)) (Nat.lt_irrefl _)
 ·rcases List.mem_cons.mp (I.stkSub b hz) with e|e
  ·exact (hf b hb).2.1 e
  ·exact (hf b hb).2.2.1 e
 ·show AllBare s₀.gens
  rw [hgen];exact I.bare
 ·obtain ⟨i,e1,e2⟩:=TW h2
  obtain ⟨e3,e4⟩:=cp.at j i x e1 h1
  have hm:(x,NameKind.free)∈sc.names:=PySem.mem_of_lookup e4
  have hk:=B.free _ hm rfl
  obtain ⟨m0,hn0,hl⟩:=I.loc
  obtain ⟨u,r,l⟩:=hl i x v e3 e2 (by rcases hk with k|k;exact .inr (.inl k);exact .inr (.inr k))
  refine ⟨u,r,.inr ?_⟩
  rcases l with ⟨k,_⟩|⟨_,c,hc,o,q,d⟩
  ·rcases hk with k'|k'
   ·rw [k] at k';cases k'
   ·rw [k] at k';cases k'
  ·exact ⟨vP (env:=X.env) e4,c,Ws hm hc,o,hsb c o (up0 c o q),d⟩
 ·obtain ⟨v,o,q,d⟩:=I.cell x c (xo e)
  exact ⟨v,o,hsb c o (up0 c o q),d⟩
 ·show upd H acc (.lst []) C=none
  rw [zm (by rw [hC,hacc,sz0];exact Nat.succ_ne_self _)]
  exact I.hok.fresh (by rw [hC,sz0];exact Nat.le_succ _)
 ·show upd H acc (.lst []) c=none∨(false=false∧∃o,upd H acc (.lst []) c=some (.frz o (.own 0)))
  rw [zm (CA c (cellLt x c (xo e)))]
  exact (I.freeC x c (xo e)).imp (fun z=>z) fun z=>⟨rfl,z.2⟩
 ·show (Zh cap σ).length=N'.length
  unfold Zh
  rw [List.length_map]
  exact cp.len

noncomputable def Kp (σ0 σ:St):Prop:=σ.length=σ0.length∧∀(j:Nat) v,σ0[j]? =some (some v)→σ[j]? =some (some v)
noncomputable def zgN (cap:List (Option Nat)) (g:TG):Prop:=∀σ0 σ x H Q,Kp (Zh cap σ0) σ→g x σ H Q→g x σ H fun σ2 H2=>Q σ2 H2∧Kp (Zh cap σ0) σ2
theorem yb {i:Nat} (h:cap[i]? =some none):zgN cap (zdj i):=fun σ0 σ x H Q k q=>by
 refine ⟨q,by rw [List.length_set];exact k.1,fun j v e=> ?_⟩
 have:j≠i:=by
  rintro rfl
  obtain ⟨i',e1,_⟩:=TW e
  rw [h] at e1;cases e1
 rw [List.getElem?_set_ne (Ne.symm this)]
 exact k.2 j v e

theorem TX {pins:List (Addr×Obj)} {σ:St} {H:Hp} {s:Shared} {use:Option (Value→Sem Unit)} {Q:Value→Shared→Prop} {R:Addr→Hp→Prop} {p:Pos}
  (hc:X.calm=true) (B:Yz X sc) (cp:wB X sc cap N') (hi:PI X tg iter wi) (ow:zgN cap g)
  (hg:∀C s₀ H₀ fp,PG (xB X N' sc C s₀ H₀ fp) tg g) (ht:∀C s₀ H₀ fp,PTs (xB X N' sc C s₀ H₀ fp) ifs tt) (he:∀C s₀ H₀ fp,PE (xB X N' sc C s₀ H₀ fp) elt te)
  (hs:∀x,foldedSetIterable iter X.env x=pure x)
  (I:Inv X pins σ H s) (h:wi σ H fun J H1=>∀acc,H1 acc=none→ze1 cap g tt te J σ acc H1 (R acc))
  (fin:∀(acc C:Addr) (H':Hp) (s':Shared) (m:Str→Option Value),Inv X pins σ H' s'→s'.heap.Ns C m→C≠X.env.locals→
   (∀{σ':St} {s'':Shared},Inv X pins σ' H' s''→∀h',Heap.SameBut C s''.heap h'→Inv X pins σ' H' {s'' with heap:=h'})→
   R acc H'→compPost (model X.prog X.w) X.A X.xe use Q (.ref acc) C (.ok .next) s'):
  wpAny (model X.prog X.w) X.A (comprehension (.ListComp elt [⟨tg,iter,ifs,0⟩] sc pos) sc X.env p (newList []) false (eval iter X.env) use) Q X.xe s:=by
 refine wpAny_comprehension_free rfl hs (I.closure B) B.kind B.names (thn (hi pins s σ H _ I h) fun xv s1 h1=>thn h1 fun itv s2 h2=> ?_)
 obtain ⟨it,fp,tn,J,H2,e,I2,T,st2,f2,r2⟩:=h2
 subst e
 have fpo:∀b∈fp,b<s2.heap.objs.size:=fun b hb=>by
  obtain ⟨o,e,_⟩:=T.obj _ _ st2 b hb
  exact Heap.lt_size e
 refine wpAny_newObj_type (wpAny_newFunctionEnv B.cell (by intro y hy;simp at hy) (fun h₁ hns₁ hsb₁=> ?_) B.kind)
 dsimp only at hns₁ hsb₁ ⊢
 obtain ⟨s₀,es0⟩:∃s₀:Shared,s₀={s2 with heap:=s2.heap.push {cls:= .type "list",dict:=none,data:= .seq ([]:List Value).toArray}}:=⟨_,rfl⟩
 have e0h:s₀.heap=s2.heap.push {cls:= .type "list",data:= .seq #[]}:=by rw [es0]
 obtain ⟨C,eC⟩:∃C:Addr,C=s₀.heap.objs.size:=⟨_,rfl⟩
 obtain ⟨acc,eA⟩:∃a:Addr,a=s2.heap.objs.size:=⟨_,rfl⟩
 rw [show (s2.heap.push {cls:= .type "list",dict:=none,data:= .seq ([]:List Value).toArray}).objs.size=C by rw [eC,e0h]] at hns₁ hsb₁ ⊢
 have keep₁:∀b o,s₀.heap.get? b=some o→h₁.get? b=some o:=fun b o e=>by
  refine hsb₁.extBut b o ?_ ?_
  ·rw [eC];exact Nat.ne_of_lt (Heap.lt_size e)
  ·rw [e0h] at e;exact Heap.get?_push_of_some _ e
 have szC:C=s2.heap.objs.size+1:=by rw [eC,e0h,Heap.size_push]
 have up0:∀b o,s2.heap.get? b=some o→s₀.heap.get? b=some o:=fun b o e=>by rw [e0h];exact Heap.get?_push_of_some _ e
 have fr0:H2 acc=none:=I2.hok.fresh (Nat.le_of_eq eA.symm)
 show codeAny (model X.prog X.w) X.A (.compStart (.ListComp elt [⟨tg,iter,ifs,0⟩] sc pos) 0 (.ref it) (.ref s2.heap.objs.size) (compEnvC sc (Yy sc X.env) C X.env))
  (compPost (model X.prog X.w) X.A X.xe use Q (.ref s2.heap.objs.size) C) {s2 with heap:=h₁,toks:=s2.toks+([]:List (Str×Value)).length}
 rw [←eA]
 have es1:({s2 with heap:=h₁,toks:=s2.toks+([]:List (Str×Value)).length}:Shared)={s₀ with heap:=h₁,toks:=s2.toks+([]:List (Str×Value)).length}:=by rw [es0]
 rw [es1]
 obtain ⟨W,⟨m0,w0⟩,turn⟩:=r2 acc fr0
 have Ib:Inv (xB X N' sc C s₀ (upd H2 acc (.lst [])) fp) [] (Zh cap σ) (upd H2 acc (.lst [])) {s₀ with heap:=h₁,toks:=s2.toks+([]:List (Str×Value)).length}:=
  zd8 I2 B cp f2 fpo eA (by rw [es0]) (by rw [es0]) e0h eC hns₁ keep₁
 have stat:∀{H':Hp},(∀b∈fp,H' b=none)→∀b∈fp,zbs (xB X N' sc C s₀ (upd H2 acc (.lst [])) fp) [] H' b:=fun hn b hb=>
  ⟨hn b hb,(Ib.ok.exf b hb).1,Ib.ok.exfs b hb,.inl hb,fun x c e=>(Ib.ok.exf b hb).2 x c e,fun p hp=>absurd (show p∈([]:List (Addr×Obj)) from hp) (by simp)⟩
 have fp0:∀b∈fp,upd H2 acc (.lst []) b=none:=fun b hb=>by
  rw [zm (by rw [eA];exact Nat.ne_of_lt (fpo b hb))]
  exact (f2 b hb).1
 have loop:codeAny (model X.prog X.w) X.A (.compLoop (.ListComp elt [⟨tg,iter,ifs,0⟩] sc pos) 0 (.ref it) (.ref acc) (compEnvC sc (Yy sc X.env) C X.env))
   (compPost (model X.prog X.w) X.A X.xe use Q (.ref acc) C) {s₀ with heap:=h₁,toks:=s2.toks+([]:List (Str×Value)).length}:=by
  refine Xe (fun n s'=>∃i ys H',Inv (xB X N' sc C s₀ (upd H2 acc (.lst [])) fp) [] (Zh cap σ) H' s'∧tn i s'.heap∧(∀b∈fp,H' b=none)∧W i n ys H') ?_ m0
   ⟨0,[],_,Ib,T.keep _ _ _ st2 fun b hb o e=>keep₁ b o (up0 b o e),fp0,w0⟩
  rintro n s3 ⟨i,ys,H3,I3,st3,fr3,w3⟩
  rcases turn i n ys H3 w3 with ⟨stop,qn⟩|⟨go,step⟩
  ·refine thn (T.done (xB X N' sc C s₀ (upd H2 acc (.lst [])) fp) rfl rfl rfl hc i [] s3 _ H3 (fun _ _=>False) I3 (stat fr3) st3 stop) fun r s4 ⟨hr,I4⟩=> ?_
   subst hr
   have u0:Un (frs X.stack) fp H2 (upd H2 acc (.lst [])) s2.heap s₀.heap:=Un.laid up0 (Nat.le_of_eq eA.symm) fr0
   have un:Un (frs X.stack) fp H2 H3 s2.heap s4.heap:=u0.trans I4.base
   have I5:Inv X pins σ H3 s4:=I2.call' (by rw [I4.os];show s₀.os=_;rw [es0]) un I4.hok I4.bare fun b hb=>⟨(f2 b hb).2.2.2.1,(f2 b hb).2.1,(f2 b hb).2.2.2.2.1,(f2 b hb).2.2.2.2.2⟩
   obtain ⟨m4,hn4,_⟩:=I4.loc
   have CL:C≠X.env.locals:=fun z=>by
    have:=I2.lt
    rw [←z,szC] at this
    exact absurd this (Nat.not_lt.mpr (Nat.le_succ _))
   refine fin acc C H3 s4 m4 I5 hn4 CL (fun {σ' s''} I6 h' sb=> ?_) qn
   refine I6.turned (t':=s''.toks) (fun b o hb e=>(sb.2 b hb).trans e) I4.free CL (.inr ?_) (fun x c e z=> ?_) fun p hp z=> ?_
   ·have:=I2.sz
    rw [szC]
    omega
   ·obtain ⟨v,o,q,_⟩:=I2.cell x c e
    have:=Heap.lt_size q
    rw [z,szC] at this
    exact absurd this (Nat.not_lt.mpr (Nat.le_succ _))
   ·obtain ⟨q,_⟩:=I2.pin p hp
    have:=Heap.lt_size q
    rw [z,szC] at this
    exact absurd this (Nat.not_lt.mpr (Nat.le_succ _))
  ·refine thn (T.item (xB X N' sc C s₀ (upd H2 acc (.lst [])) fp) rfl rfl rfl hc i [] s3 _ H3 (fun _ _=>False) I3 (stat fr3) st3 go) fun r s4 ⟨u,hr,h4⟩=> ?_
   subst hr
   refine thn h4 ?_
   rintro _ s5 ⟨x,H5,I5,r5,y5,st5,fr5⟩
   have I5':=I5.pinned (stat fr5) (T.obj _ _ st5)
   refine thn (hg C s₀ _ fp _ s5 _ H5 x u _ I5' r5 (ow σ _ x H5 _ ⟨rfl,fun _ _ e=>e⟩ (step x H5 y5))) ?_
   rintro _ s6 ⟨σ6,H6,I6,q6,kp6⟩
   have again:∀{H7:Hp} {s7:Shared} {zs:List V},Inv (xB X N' sc C s₀ (upd H2 acc (.lst [])) fp) ([]++Ut fp s5.heap) σ6 H7 s7→(∃m',m'<n∧W (i+1) m' zs H7)→
     ∃m,m<n∧∃i ys H',Inv (xB X N' sc C s₀ (upd H2 acc (.lst [])) fp) [] (Zh cap σ) H' s7∧tn i s7.heap∧(∀b∈fp,H' b=none)∧W i m ys H':=fun {H7 s7 zs} I7 w7=>by
    obtain ⟨m',hm,w7⟩:=w7
    refine ⟨m',hm,i+1,zs,H7,(I7.unpinned).weak kp6.1.symm kp6.2,T.keep _ _ _ st5 fun b hb o e=>(I7.pin (b,o) (List.mem_append_right _ (List.mem_append_right _ (Yr hb e)))).1,fun b hb=> ?_,w7⟩
    obtain ⟨o,e,d⟩:=T.obj _ _ st5 b hb
    exact (I7.pin (b,o) (List.mem_append_right _ (List.mem_append_right _ (Yr hb e)))).2.1
   refine thn (ht C s₀ _ fp _ s6 σ6 H6 _ I6 q6) ?_
   rintro ok s7 ⟨H7,I7,q7⟩
   cases ok with
   |false=>
    rw [if_neg Bool.false_ne_true] at q7 ⊢
    exact again I7 q7
   |true=>
    rw [if_pos rfl] at q7 ⊢
    refine thn (he C s₀ _ fp _ s7 σ6 H7 _ I7 q7) ?_
    rintro xv s8 ⟨v,H8,I8,r8,hacc8,hl8,w8⟩
    refine thn (ww _ s8 σ6 H8 (.ref acc) [v] (.ref acc) [xv] (fun _ H9=>H9=upd H8 acc (.lst (ys++[v]))) I8 rfl (.cons r8 .nil) ⟨acc,ys,v,rfl,rfl,hacc8,hl8,rfl⟩) ?_
    rintro _ s9 ⟨_,H9,I9,_,e9⟩
    subst e9
    exact again I9 w8
 exact codeAny_compStart_list loop (T.self _ 0 _ _ _ (T.keep _ _ _ st2 fun b hb o e=>keep₁ b o (up0 b o e)) loop)

theorem xu (hc:X.calm=true) (B:Yz X sc) (cp:wB X sc cap N') (hi:PI X tg iter wi) (ow:zgN cap g)
  (hg:∀C s₀ H₀ fp,PG (xB X N' sc C s₀ H₀ fp) tg g) (ht:∀C s₀ H₀ fp,PTs (xB X N' sc C s₀ H₀ fp) ifs tt) (he:∀C s₀ H₀ fp,PE (xB X N' sc C s₀ H₀ fp) elt te)
  (hs:∀x,foldedSetIterable iter X.env x=pure x:=by intro _;rfl):PE X (.ListComp elt [⟨tg,iter,ifs,0⟩] sc pos) (ze2 cap wi g tt te):=by
 intro pins s σ H Q I h
 rw [eval_ListComp]
 refine TX (use:=none) (R:=fun acc H2=>Q (.ref acc) H2) hc B cp hi ow hg ht he hs I h fun acc C H' s' m I' hn CL mk r=> ?_
 exact ⟨m,hn,fun h' sb=>⟨.ref acc,H',mk I' h' sb,rfl,r⟩⟩
theorem Wh {i:Nat} {y:Str} {py spos:Pos} (hc:X.calm=true) (B:Yz X sc) (cp:wB X sc cap N') (hi:PI X tg iter wi) (ow:zgN cap g)
  (hg:∀C s₀ H₀ fp,PG (xB X N' sc C s₀ H₀ fp) tg g) (ht:∀C s₀ H₀ fp,PTs (xB X N' sc C s₀ H₀ fp) ifs tt) (he:∀C s₀ H₀ fp,PE (xB X N' sc C s₀ H₀ fp) elt te)
  (hN:X.N.Nodup) (hy:X.N[i]? =some y) (hl:X.env.scope.names.lookup y=some .local)
  (hsw:swapsWith (.ListComp elt [⟨tg,iter,ifs,0⟩] sc pos) (some (.Name y py)) spos.line X.env=pure true:=by rfl)
  (hs:∀x,foldedSetIterable iter X.env x=pure x:=by intro _;rfl):PS X (.Assign [.Name y py] (.ListComp elt [⟨tg,iter,ifs,0⟩] sc pos) spos) (zbD i cap wi g tt te):=by
 intro pins s σ H D I h
 rw [exec_Assign_Name_used _ _ _ _ hsw]
 refine wpAny_bind (wpAny_standAt (wpAny_bind ?_))
 show wpAny _ X.A (do let _ ←comprehension (.ListComp elt [⟨tg,iter,ifs,0⟩] sc pos) sc X.env _ (newList []) false (eval iter X.env) (some (assign (.Name y py) X.env))) _ _ s
 refine wpAny_bind (thn (TX (use:=some (assign (.Name y py) X.env)) (Q:=fun _ s'=>SP X pins D .next s') (R:=fun acc H2=>D.nx (σ.set i (some (.ref acc))) H2) hc B cp hi ow hg ht he hs I h fun acc C H' s' m I' hn CL mk r=> ?_) fun _ s' hq=>wpAny_pure (wpAny_pure hq))
 show wpAny _ X.A (assign (.Name y py) X.env (.ref acc)) _ _ _
 refine wpAny_assign_Name (TH I' hN hy (.inl hl) (v:= .ref acc) rfl (fun s'' I'' hsb=> ?_) (.inr hl))
 obtain ⟨a,sb,ha⟩:=hsb
 have hCa:C≠a:=by
  rcases ha with ha|ha
  ·rw [ha];exact CL
  ·intro z
   rw [←z] at ha
   obtain ⟨v,o,q,d⟩:=I'.cell y C ha
   obtain ⟨o',es,ep,q',d',_⟩:=hn
   rw [q] at q';cases q'
   rw [d] at d';cases d'
 exact ⟨m,hn.sameBut sb hCa,fun h' sb'=>⟨_,H',mk I'' h' sb',r⟩⟩
end
end L2
namespace L2
open PySem PySem.Spec PyProof.Rows

noncomputable def xW {α:Type}:Sem α→Prop
 | .pure _=>True
 | .raise _=>True
 | .unsupported _=>True
 | .finish _=>True
 | .rule _ k=>∀u,xW (k u)
 | .at _ k=>∀u,xW (k u)
 | .load _ _ k=>∀o,xW (k o)
 | .update _ _ f k=>(∀o,(f o).dict=o.dict∧(f o).cls=o.cls)∧∀u,xW (k u)
 | .alloc _ k=>∀a,xW (k a)
 | .loadIfAlive _ k=>∀o,xW (k o)
 | .point _ k=>∀u,xW (k u)
 | .stack k=>∀x,xW (k x)
 | .ask k=>∀x,xW (k x)
 |_=>False
noncomputable def KD (h h':Heap):Prop:=∀(b:Nat) o,h.objs[b]? =some o→∃o',h'.objs[b]? =some o'∧o'.dict=o.dict∧o'.cls=o.cls
theorem KD.refl (h:Heap):KD h h:=fun _ o e=>⟨o,e,rfl,rfl⟩
theorem KD.trans {h h1 h2:Heap} (x:KD h h1) (y:KD h1 h2):KD h h2:=fun b o e=>by
 obtain ⟨o1,e1,d1,c1⟩:=x b o e
 obtain ⟨o2,e2,d2,c2⟩:=y b o1 e1
 exact ⟨o2,e2,d2.trans d1,c2.trans c1⟩
theorem KD.push (h:Heap) (o:Obj):KD h (h.push o):=fun b o' e=>by
 refine ⟨o',?_,rfl,rfl⟩
 obtain ⟨objs,l⟩:=h
 show (objs.push o)[b]? =some o'
 have e:objs[b]? =some o':=e
 rw [Array.getElem?_push]
 have hb:b<objs.size:=(Array.getElem?_eq_some_iff.mp e).1
 rw [if_neg (Nat.ne_of_lt hb)]
 exact e
theorem KD.update (h:Heap) (a:Addr) {f:Obj→Obj} (hf:∀o,(f o).dict=o.dict∧(f o).cls=o.cls):KD h (h.update a f):=fun b o e=>by
 obtain ⟨objs,l⟩:=h
 show ∃o',(objs.modify a f)[b]? =some o'∧_
 rw [Array.getElem?_modify]
 have e:objs[b]? =some o:=e
 by_cases hab:a=b
 ·rw [if_pos hab,e]
  exact ⟨f o,rfl,hf o⟩
 ·rw [if_neg hab,e]
  exact ⟨o,rfl,rfl,rfl⟩
theorem zbE {h:Heap} {a:Addr} {o:Obj} (e:h.get? a=some o):h.objs[a]? =some o:=by
 unfold Heap.get? at e
 split at e
 ·cases e
 ·exact e
theorem KD.at {h h':Heap} {a:Addr} {o o':Obj} (k:KD h h') (e:h.get? a=some o) (e':h'.get? a=some o'):o'.dict=o.dict∧o'.cls=o.cls:=by
 obtain ⟨o1,e1,d⟩:=k a o (zbE e)
 rw [zbE e'] at e1
 cases e1
 exact d
theorem zgO {α:Type} {M:Model} {Γ:PySem.Ctx} {t:Sem α}:∀{Q:α→Pos→Shared→Prop} {E:Value→Pos→Shared→Prop} {p:Pos} {s:Shared} {h₀:Heap},xW t→KD h₀ s.heap→Sem.wp M Γ t Q E p s→
  Sem.wp M Γ t (fun a p' s'=>Q a p' s'∧KD h₀ s'.heap) (fun e p' s'=>E e p' s'∧KD h₀ s'.heap) p s:=by
 induction t with
 |pure a=>exact fun _ k h=>⟨h,k⟩
 |raise e=>exact fun _ k h=>⟨h,k⟩
 |unsupported w=>exact fun _ _ h=>h.elim
 |finish e=>exact fun _ _ h=>h.elim
 |rule _ k ih=>exact fun t z h=>ih () (t ()) z h
 | «at» _ k ih=>exact fun t z h=>ih () (t ()) z h
 |load a _ k ih=>
  intro Q E p s h₀ t z h
  obtain ⟨o,e,h⟩:=h
  exact ⟨o,e,ih o (t o) z h⟩
 |update a _ f k ih=>
  intro Q E p s h₀ t z h
  obtain ⟨e,h⟩:=h
  exact ⟨e,ih () (t.2 ()) (z.trans (KD.update _ _ t.1)) h⟩
 |alloc o k ih=>exact fun t z h=>ih _ (t _) (z.trans (KD.push _ _)) h
 |loadIfAlive a k ih=>exact fun t z h=>ih _ (t _) z h
 |point _ k ih=>exact fun t z h=>ih () (t ()) z h
 |stack k ih=>exact fun t z h=>ih _ (t _) z h
 |ask k ih=>exact fun t z h=>ih _ (t _) z h
 |register _ _ _=>exact fun t=>t.elim
 |fresh _ _=>exact fun t=>t.elim
 |choose _ _ _ _=>exact fun t=>t.elim
 |os _ _ _ _=>exact fun t=>t.elim
 |call _ _ _ _ _ _=>exact fun t=>t.elim
 |handled _ _ _=>exact fun t=>t.elim
 |newGen _ _ _=>exact fun t=>t.elim
 |genState _ _ _=>exact fun t=>t.elim
 |resume _ _ _ _ _=>exact fun t=>t.elim
 |yield _ _ _ _ _=>exact fun t=>t.elim
 |fork _ _ _=>exact fun t=>t.elim
 |thread _ _=>exact fun t=>t.elim
 |await _ _ _ _ _ _=>exact fun t=>t.elim
theorem ze3 {α:Type} {M:Model} {A:Around} {t:Sem α} {Q:α→Shared→Prop} {E:Value→Shared→Prop} {s:Shared} (T:xW t) (h:wpAny M A t Q E s):wpAny M A t (fun a s'=>Q a s'∧KD s.heap s'.heap) (fun e s'=>E e s'∧KD s.heap s'.heap) s:=
 fun Γ p hΓ=>zgO T (KD.refl _) (h Γ p hΓ)
theorem zd9 {α β:Type} {f:α→Sem β} (hf:∀a,xW (f a)):∀{t:Sem α},xW t→xW (t.bind f):=by
 intro t
 induction t with
 |pure a=>exact fun _=>hf a
 |raise e=>exact fun _=>trivial
 |unsupported w=>exact fun _=>trivial
 |finish e=>exact fun _=>trivial
 |rule _ k ih=>exact fun t u=>ih u (t u)
 | «at» _ k ih=>exact fun t u=>ih u (t u)
 |load a _ k ih=>exact fun t u=>ih u (t u)
 |update a _ f k ih=>exact fun t=>⟨t.1,fun u=>ih u (t.2 u)⟩
 |alloc o k ih=>exact fun t u=>ih u (t u)
 |loadIfAlive a k ih=>exact fun t u=>ih u (t u)
 |point _ k ih=>exact fun t u=>ih u (t u)
 |stack k ih=>exact fun t u=>ih u (t u)
 |ask k ih=>exact fun t u=>ih u (t u)
 |register _ _ _=>exact fun t=>t.elim
 |fresh _ _=>exact fun t=>t.elim
 |choose _ _ _ _=>exact fun t=>t.elim
 |os _ _ _ _=>exact fun t=>t.elim
 |call _ _ _ _ _ _=>exact fun t=>t.elim
 |handled _ _ _=>exact fun t=>t.elim
 |newGen _ _ _=>exact fun t=>t.elim
 |genState _ _ _=>exact fun t=>t.elim
 |resume _ _ _ _ _=>exact fun t=>t.elim
 |yield _ _ _ _ _=>exact fun t=>t.elim
 |fork _ _ _=>exact fun t=>t.elim
 |thread _ _=>exact fun t=>t.elim
 |await _ _ _ _ _ _=>exact fun t=>t.elim
theorem tb {α β:Type} {t:Sem α} {f:α→Sem β} (h:xW t) (hf:∀a,xW (f a)):xW (t>>=f):=zd9 hf h
theorem Tl (v:Value):xW (fieldsOf v):=by
 unfold fieldsOf
 split
 ·refine tb (fun o=>trivial) fun o=> ?_
  split<;>trivial
 ·trivial
theorem YA (v:Value) (i:Nat):xW (field v i):=by
 unfold field
 refine tb (Tl v) fun a=> ?_
 split<;>trivial
theorem UA (g:Array Value→Array Value) (o:Obj):(Obj.mapFields g o).dict=o.dict∧(Obj.mapFields g o).cls=o.cls:=by
 obtain ⟨c,d,dt,sl⟩:=o
 cases dt<;>exact ⟨rfl,rfl⟩
theorem ZL (v:Value) (i:Nat) (x:Value):xW (setField v i x):=by
 unfold setField
 split
 ·unfold updateField
  refine tb (fun o=>trivial) fun o=> ?_
  split
  ·split
   ·exact ⟨fun o=>UA _ o,fun _=>trivial⟩
   ·trivial
  ·trivial
 ·trivial
theorem UB (e:Value) (f:Option Addr):xW (setFlight e f):=by
 unfold setFlight
 refine tb (YA _ _) fun tb'=> ?_
 split
 ·exact ZL _ _ _
 ·trivial
theorem UC (ty:String) (vs:List Value):xW (newFields ty vs):=by
 have h:xW (newObjAsIs (Value.type ty) (Data.fields vs.toArray)):=by
  unfold newObjAsIs
  exact tb (fun a=>trivial) fun a=>trivial
 unfold newFields newObj
 show xW (if vs.toArray.size>sizeLine+2 then (unsupported "record:memory">>=fun _=>newObjAsIs (Value.type ty) (Data.fields vs.toArray)) else newObjAsIs (Value.type ty) (Data.fields vs.toArray))
 split
 ·trivial
 ·exact h
theorem zbF (env:Env) (outer:List Env):xW (behindIsImport env outer):=by
 unfold behindIsImport
 split
 ·trivial
 ·split
  ·trivial
  ·exact tb (YA _ _) fun _=>trivial
theorem zcI:xW underTheClaimsCaller:=tb (fun _=>trivial) fun _=>trivial
theorem Tm (env:Env) (i:Bool) (outer:List Env):xW (keptBack env i outer):=by
 cases outer with
 |nil=>
  unfold keptBack
  by_cases h:(env.scope.isGenerator||env.scope.isCoroutine)=true
  ·rw [if_pos h];trivial
  ·rw [if_neg h]
   refine tb zcI fun x=> ?_
   trivial
 |cons c r=>
  unfold keptBack
  trivial
theorem UD:∀l:List Env,xW (readyFrames l)
 |[]=>trivial
 |env::outer=>by
  unfold readyFrames
  split
  ·refine tb (fun o=>trivial) fun o=> ?_
   split
   ·trivial
   ·exact tb (zbF _ _) fun i=>tb (Tm _ _ _) fun b=>tb ⟨fun o=>⟨rfl,rfl⟩,fun _=>trivial⟩ fun _=>UD outer
  ·trivial
theorem zaE (env:Env):xW (PySem.frameOf env):=by
 unfold PySem.frameOf
 refine tb (fun x=>trivial) fun l=>tb ?_ fun o=> ?_
 ·generalize List.dropWhile _ l=l'
  unfold frameObject
  cases l' with
  |nil=>trivial
  |cons a r=>exact tb (UD _) fun _=>trivial
 ·split<;>trivial
theorem VH (f:Addr) (b:Bool):xW (entryPlaceOf f b):=by
 unfold entryPlaceOf
 refine tb (fun x=>trivial) fun l=> ?_
 split<;>trivial
theorem UE (e:Value) (env:Env):xW (noteFrame e env):=by
 unfold noteFrame
 split
 ·rename_i f _
  have last:∀head:Value,xW (do setField e 1 (←EntryCells.newEntry head (←PySem.frameOf env) .none (rawInt f) .none (←entryPlaceOf f (head != .none)))):=fun head=>
   tb (zaE env) fun a=>tb (VH _ _) fun pl=>tb (UC _ _) fun b=>ZL _ _ _
  refine tb (YA _ _) fun head=> ?_
  split
  ·refine tb (YA _ _) fun x=> ?_
   split
   ·trivial
   ·exact tb (ZL _ _ _) fun _=>last head
  ·exact last head
 ·trivial
theorem zaF (env:Env) (e:Value):xW (leaving env e):=tb (UE e env) fun _=>UB _ _
end L2
namespace L2
open PySem PySem.Spec PyProof.Rows

theorem yI.there {P:Program} {w:World} {H:Hp} {h:Heap} {a:Addr} {o:HO} (x:yI P w H h a o):∃ob,h.get? a=some ob:=by
 cases o with
 |lst xs=>obtain ⟨_,_,_,_,e⟩:=x;exact ⟨_,e⟩
 |tup xs=>obtain ⟨_,_,_,ob,e,_⟩:=x;exact ⟨_,e⟩
 |dK kvs=>obtain ⟨_,_,_,_,o,_,_,e,_⟩:=x;exact ⟨_,e⟩
 |dT kvs=>obtain ⟨_,_,_,_,o,_,_,e,_⟩:=x;exact ⟨_,e⟩
 |dN kvs=>obtain ⟨_,_,_,_,o,_,_,e,_⟩:=x;exact ⟨_,e⟩
 |set S n=>obtain ⟨o,_,_,_,e,_⟩:=x;exact ⟨_,e⟩
 |ins C dx fs=>obtain ⟨_,_,_,e,_⟩:=x;exact ⟨_,e⟩
 |own y=>obtain ⟨_,e⟩:=x;exact ⟨_,e⟩
 |xd fs=>obtain ⟨_,⟨_,_,_,e,_⟩,_⟩:=x;exact ⟨_,e⟩
 |rng lo hi=>obtain ⟨_,_,_,e⟩:=x;exact ⟨_,e⟩
 |frz ob u=>obtain ⟨e,_⟩:=x;exact ⟨_,e⟩
 |tbl ps=>exact ⟨_,(show h.get? a=some _ from x)⟩
 |met f y=>exact ⟨_,(show h.get? a=some _ from x)⟩
 |ext φ=>obtain ⟨_,⟨_,e⟩,_⟩:=x;exact ⟨_,e⟩

noncomputable def Cov (outer:List Env) (H':Hp) (old h' B:Heap):Prop:=
 (∀b o,(∃o0,old.get? b=some o0)→b∉frs outer→h'.get? b=some o→B.get? b=some o)∧∀b u o,H' b=some u→h'.get? b=some o→B.get? b=some o
structure Fly (P:Program) (w:World) (outer:List Env) (H:Hp) (s:Shared) (e:Addr) (cls:Value) (H':Hp) (s':Shared):Prop where
 os:s'.os=s.os
 bare:AllBare s'.gens
 un:Un (frs outer) [] H H' s.heap s'.heap
 hok:HOk P w H' s'.heap
 fly:∃B t,Heap.FlyingW B outer e cls (.ref t) s'.heap∧Cov outer H' s.heap s'.heap B
 new:s.heap.get? e=none
 free:H' e=none
 nd:∀o,s'.heap.get? e=some o→o.dict=none
noncomputable def CXE (P:Program) (w:World):CXT:=fun outer H s E ev s'=>∃e cls H',ev= .ref e∧Fly P w outer H s e cls H' s'∧E cls none H'

theorem Fly.moved {P:Program} {w:World} {outer:List Env} {H H':Hp} {s s':Shared} {e:Addr} {cls a0:Value} {B h2:Heap} (F:Fly P w outer H s e cls H' s') (fl:Heap.FlyingW B outer e cls a0 s'.heap) (cov:Cov outer H' s.heap s'.heap B)
  (st:B.StaysIn h2) (sm:s'.heap.UpToSlots h2):Un (frs outer) [] H H' s.heap h2∧HOk P w H' h2∧Cov outer H' s.heap h2 B:=by
 have nofs:∀b u,H' b=some u→∃o,s'.heap.get? b=some o∧B.get? b=some o∧h2.get? b=some o:=fun b u q=>by
  obtain ⟨o,e1⟩:=(F.hok b u q).there
  have e2:=cov.2 b u o q e1
  exact ⟨o,e1,e2,st b o e2⟩
 have old:∀b o0,s.heap.get? b=some o0→b∉frs outer→∃o,s'.heap.get? b=some o∧B.get? b=some o∧h2.get? b=some o:=fun b o0 q hb=>by
  obtain ⟨o,e1⟩:=F.un.there b o0 q (by simp)
  have e2:=cov.1 b o ⟨o0,q⟩ hb e1
  exact ⟨o,e1,e2,st b o e2⟩
 have fr:∀b∈frs outer,∃o sl,s'.heap.get? b=some o∧h2.get? b=some {o with slots:=sl}:=fun b hb=>by
  obtain ⟨_,o,e1,d⟩:=fl.2.2.1.mem hb
  obtain ⟨sl,e2⟩:=sm b o e1 d
  exact ⟨o,sl,e1,e2⟩
 refine ⟨⟨fun b o q n hb _=> ?_,fun b o q n hb _=> ?_,fun b o q n hx=>F.un.free b o q n hx,fun b o q _=> ?_,F.un.tups,F.un.frzs,F.un.tbls⟩,fun a u q=> ?_,fun b o q hb e1=> ?_,fun b u o q e1=> ?_⟩
 ·obtain ⟨o1,e1,_,e3⟩:=old b o q hb
  have e4:=F.un.keep b o q n hb (by simp)
  rw [e1] at e4;cases e4
  exact e3
 ·obtain ⟨o1,sl1,e1,e2⟩:=fr b hb
  obtain ⟨sl,e4⟩:=F.un.slot b o q n hb (by simp)
  rw [e1] at e4;cases e4
  exact ⟨sl1,e2⟩
 ·by_cases hb:b∈frs outer
  ·obtain ⟨o1,sl1,e1,e2⟩:=fr b hb
   exact ⟨_,e2⟩
  ·obtain ⟨o1,_,_,e3⟩:=old b o q hb
   exact ⟨_,e3⟩
 ·refine (F.hok a u q).stay (fun b ob hb eb=> ?_) (fun _ z=>z) fun _ _ z=>z
  have:∃u',H' b=some u':=by
   rcases hb with z|z
   ·exact ⟨u,z ▸ q⟩
   ·exact ⟨_,z⟩
  obtain ⟨u',hu⟩:=this
  obtain ⟨o1,e1,_,e3⟩:=nofs b u' hu
  rw [eb] at e1;cases e1
  exact e3
 ·obtain ⟨o0,q⟩:=q
  obtain ⟨o1,_,e2,e3⟩:=old b o0 q hb
  rw [e1] at e3;cases e3
  exact e2
 ·obtain ⟨o1,_,e2,e3⟩:=nofs b u q
  rw [e1] at e3;cases e3
  exact e2

section
variable {P:Program} {w:World} {K:PySem.W.Frag} {mg:Str→Option Value} {base:Heap} {N:List Str} {qual:Str} {scope:Scope} {f:Addr} {cdv:Value} {A:Around} {outer:List Env} {s:Shared} {H:Hp} {E:XK}


theorem zF:Wg (CXE P w) (Th (CXE P w) P w K mg base N qual scope f cdv A outer s H E) E:=by
 rintro pins σ H1 s1 ev s' I ⟨e,cls,H',rfl,F,hE⟩
 obtain ⟨B,t,fl,cov⟩:=F.fly
 have hfs:∀b∈frs (envOfC qual scope s.heap.objs.size f cdv::outer),b∈s.heap.objs.size::frs outer:=I.stkSub
 refine wpAny_mono (ze3 (zaF _ _) (wpAny_leaves_onW (E:=fun _ _=>False) (Q:=fun _ s''=>∃h',s''={s' with heap:=h'}∧Heap.FlyingW B outer e cls (.ref t) h'∧s'.heap.UpToSlots h') (L:=s.heap.objs.size) I.ok.frames rfl fl fun h' x1 x2=>⟨h',rfl,x1,x2⟩)) (fun _ s3 h3=> ?_) fun _ _ h3=>h3.1.elim
 obtain ⟨⟨h',rfl,x1,x2⟩,kd⟩:=h3
 obtain ⟨un,hok,cov'⟩:=F.moved fl cov x1.1 x2
 have exn:∀b:Addr,b∉(Th (CXE P w) P w K mg base N qual scope f cdv A outer s H E).ex:=fun b z=>absurd (show b∈([]:List Addr) from z) (by simp)
 have nfs:∀b o,s.heap.get? b=some o→b∉frs outer→b∉frs (envOfC qual scope s.heap.objs.size f cdv::outer):=fun b o q hb hz=>by
  rcases List.mem_cons.mp (hfs b hz) with z|z
  ·exact Nat.ne_of_lt (Heap.lt_size q) z
  ·exact hb z
 have sub:∀b∈frs outer,b∈frs (envOfC qual scope s.heap.objs.size f cdv::outer):=fun b hb=>by
  unfold frs at hb ⊢
  rw [List.filterMap_cons]
  exact List.mem_cons_of_mem _ hb
 refine ⟨e,cls,H',rfl,⟨F.os.trans I.os,F.bare,⟨fun b o q n hb _=> ?_,fun b o q n hb _=> ?_,fun b o q n _=> ?_,fun b o q _=> ?_,fun b xs q=>un.tups b xs (I.base.tups b xs q),fun b o xs q=>un.frzs b o xs (I.base.frzs b o xs q),fun b ps q=> ?_⟩,hok,
  ⟨B,t,x1,fun b o q hb e1=> ?_,cov'.2⟩,?_,F.free,fun o q=> ?_⟩,hE⟩
 ·exact un.keep b o (I.base.keep b o q n hb (exn b)) (I.base.free b o q n (exn b)) (nfs b o q hb) (by simp)
 ·obtain ⟨sl,e1⟩:=I.base.slot b o q n hb (exn b)
  obtain ⟨sl2,e2⟩:=un.slot b _ e1 (I.base.free b o q n (exn b)) (sub b hb) (by simp)
  exact ⟨sl2,e2⟩
 ·obtain ⟨o1,e1⟩:=I.base.there b o q (exn b)
  exact un.free b o1 e1 (I.base.free b o q n (exn b)) (by simp)
 ·obtain ⟨o1,e1⟩:=I.base.there b o q (exn b)
  exact un.there b o1 e1 (by simp)
 ·obtain ⟨m1,e1⟩:=I.base.tbls b ps q
  obtain ⟨m2,e2⟩:=un.tbls b _ e1
  exact ⟨m1++m2,by rw [e2,Array.append_assoc]⟩
 ·obtain ⟨o0,q⟩:=q
  obtain ⟨o1,q1⟩:=I.base.there b o0 q (exn b)
  exact cov'.1 b o ⟨o1,q1⟩ (nfs b o0 q hb) e1
 ·cases q:s.heap.get? e with
  |none=>rfl
  |some o=>
   obtain ⟨o',q'⟩:=I.base.there e o q (exn e)
   have:=F.new
   rw [q'] at this;cases this
 ·obtain ⟨ob,hob,_⟩:=fl.there
  exact (kd.at hob q).1.trans (F.nd ob hob)
end

structure zkf (K:PySem.W.Frag) (mg:Str→Option Value) (x:Str) (C:Addr) (bmB:List Value) (newId:String):Prop where
 mg:mg x=some (.ref C)
 inK:PySem.W.excIn K C bmB newId=true

end L2
namespace L2
open PySem PySem.Spec PyProof.Rows

theorem wC {P:Program} {w:World} {X:Cx}:Wg (CXE P w) X E0:=fun _ _ _ _ _ _ _ ⟨_,_,_,_,_,h⟩=>h.elim

noncomputable abbrev TEx:=St→Hp→VK→(Value→Hp→Prop)→Prop
noncomputable abbrev TAx:=St→Hp→(List V→Hp→Prop)→(Value→Hp→Prop)→Prop
noncomputable abbrev TSx:=Vd→(Value→Hp→Prop)→St→Hp→Prop
section
variable {X:Cx} {e:Expr} {es:List Expr} {te:TE}
end

noncomputable def ziv (e:Addr) (cls:Value):HO:= .ext fun h=>∃ob,h.get? e=some ob∧ob.cls=cls∧ob.dict=none∧∃vs,ob.data= .fields vs
noncomputable abbrev Cx.hand (X:Cx) (e:Addr):Cx:={X with A:=X.A.mark (some (.ref e)),calm:=false,xe:=fun _ _=>False}
section
variable {X:Cx} {pins:List (Addr×Obj)} {σ:St} {H:Hp} {s:Shared}
end


end L2
namespace L2
open PySem PySem.Spec PyProof.Rows
open PySem.Builtin.Int (intBits)

noncomputable def zhT (i j:Int):Prop:=∃m n:Nat,intBits i≤m∧intBits j≤n∧m+n≤134217728
noncomputable def ze4 (i j:Int):Prop:=j≠0∧intBits j≤9000
section
variable {X:Cx}
theorem yx:OpR X (binaryOp .Mult) (rI zhT fun i j=> .int (i*j)):=opI fun _ _ _ _ _ _ _ hc q=>by
 obtain ⟨m,n,h1,h2,h3⟩:=hc
 exact mul_int q (IntMulOk.of_le h1 h2 h3)
theorem Yb:OpR X (binaryOp .FloorDiv) (rI ze4 fun i j=> .int (i.fdiv j)):=opI fun i j _ _ _ _ _ hc q=>floordiv_int hc.1 q (.inl (PyProof.noPylong_of_log2 (by
 have h:=PySem.intBits_le_iff.mp hc.2
 by_cases z:j.natAbs=0
 ·rw [z];decide
 ·exact (Nat.log2_lt z).mpr h)))


end
section
variable {prog:Program} {w:World} {A:Around} {E:Value→Shared→Prop} {s:Shared} {K:PySem.W.Frag} {x D:Addr} {ox:Obj}
theorem zaG {M:Model} {nameV:Value} {Q:Unit→Shared→Prop} (X:K.In s.heap) (I:PySem.W.InstAt s.heap x ox D none) (be:PySem.W.mroIn K D (.type "BaseException")=some true) (hq:Q () s):
  wpAny M A (checkBuiltinCall "BaseException.__getattribute__" ⟨[.ref x,nameV],[]⟩) Q E s:=by
 obtain ⟨hh,g,d,t,os⟩:=s
 have hk:builtinKind "BaseException.__getattribute__"=some .slot:=by decide+kernel
 have hsplit:splitId "BaseException.__getattribute__"=some ("BaseException","__getattribute__"):=by decide+kernel
 have L0:=I.type (M:=M)
 have L1:=PySem.W.looks_mroIn (M:=M) X be
 have ha:=F.args_bexc_ga (.ref x) nameV
 simp only [checkBuiltinCall,hk,hsplit]
 refine wpAny_bind ?_
 unfold isInstance
 refine wpAny_bind (L0.at (L1.at ?_))
 repeat (first|wp_step)
 exact hq
theorem zea {Q:Option Value→Shared→Prop} (X:K.In s.heap) (I:PySem.W.InstAt s.heap x ox D none) (ga:PySem.W.findIn K (.ref D) "__getattribute__"=some (some (.builtin "BaseException.__getattribute__"))) (noga:PySem.W.findIn K (.ref D) "__getattr__"=some none)
  (be:PySem.W.mroIn K D (.type "BaseException")=some true) (hf:PySem.W.findObj K D none "__class__"=some (.bind (.builtin "getset_descriptor.__get__") (.builtin "object.__class__"))) (hm:PySem.W.mroIn K D (.type "object")=some true)
  (h:Q (some (.ref D)) {s with toks:=s.toks+1}):wpAny (model prog w) A (getAttr? (.ref x) "__class__") Q E s:=by
 obtain ⟨hh,g,d,t,os⟩:=s
 have L0:=I.type (M:=model prog w)
 have L1:=PySem.W.looks_findIn (M:=model prog w) X ga
 have L2:=PySem.W.looks_findIn (M:=model prog w) X noga
 have L3:=PySem.W.looks_find (M:=model prog w) X I hf
 have hb:=F.attrBase_ValueError.ga.bind (.ref x)
 unfold getAttr? getAttrBy? getAttrBy
 refine wpAny_bind (wpAny_mkText (wpAny_bind (wpAny_attempt (wpAny_holding (wpAny_bind (L0.at (wpAny_bind (L1.at ?_))))))))
 dsimp only
 rw [if_neg (show ¬(onTheHeap (Value.ref D)&&(Value.builtin "BaseException.__getattribute__"==Value.builtin "object.__getattribute__"))=true by rw [show (Value.builtin "BaseException.__getattribute__"==Value.builtin "object.__getattribute__")=false by decide+kernel];simp)]
 unfold getAttrByItsOwn hookBefore
 refine wpAny_bind ?_
 show wpAny _ _ (typeLookup (.ref D) "__getattr__") _ _ _
 refine L2.at ?_
 refine wpAny_bind (wpAny_attempt (wpAny_holding ?_))
 unfold callGetattribute boundAndCalled
 rw [if_neg (by decide),hb]
 refine wpAny_bind (wpAny_pure ?_)
 dsimp only
 refine wpAny_call (codeAny_call_builtin F.attrBase_ValueError.ga.plain F.entry_bexc_ga (zaG (ox:=ox) X I be ?_))
 unfold Builtin.«object.__getattribute__»
 refine wpAny_bind (wpAny_of_eq (show slotArgs "__getattribute__" 1 {pos:=[Value.ref x]++[Value.str (Str.ofString "__class__") t]}=pure (.ref x,[Value.str (Str.ofString "__class__") t]) from rfl) ?_)
 dsimp only
 refine wpAny_bind (wpAny_of_eq (show Builtin.ObjectAttr.attrName (Value.str (Str.ofString "__class__") t)=pure (Str.ofString "__class__") from rfl) ?_)
 refine wpAny_bind (L0.at (wpAny_bind (L3.at ?_)))
 dsimp only
 show wpAny _ _ (do ret (←holding [Value.builtin "object.__class__"] (call (.builtin "getset_descriptor.__get__") [.builtin "object.__class__",.ref x,.ref D]))) _ _ _
 refine wpAny_bind (wpAny_holding (wpAny_call (PySem.W.class_get (ox:=ox) (od:=none) X I hm ?_)))
 exact wpAny_pure (PySem.W.handed_on rfl (wpAny_pure h))
end
section
variable {X:Cx}
structure zhU (K:PySem.W.Frag) (D:Addr):Prop where
 ga:PySem.W.findIn K (.ref D) "__getattribute__"=some (some (.builtin "BaseException.__getattribute__"))
 noga:PySem.W.findIn K (.ref D) "__getattr__"=some none
 be:PySem.W.mroIn K D (.type "BaseException")=some true
 hc:(PySem.W.clsIn K D).isSome=true
 ha:PySem.W.findIn K (.ref D) "__class__"=some (some (.builtin "object.__class__"))
 hn:PySem.W.specialIn K (.builtin "object.__class__") "__get__"=some (some (.builtin "getset_descriptor.__get__"))
 htk:PySem.W.takesIn K (.builtin "object.__class__")=some true
 hm:PySem.W.mroIn K D (.type "object")=some true
theorem ze5 {K:PySem.W.Frag} {x D:Addr} (e:zhU K D):PySem.W.KitX K (.ref x) (.ref D) (fun h=>∃ox,PySem.W.InstAt h x ox D none) where
 ty:=fun _ _ _ ⟨_,I⟩=>I.type
 it:=fun _ _ X _=>by
  obtain ⟨cd,hcd⟩:=Option.isSome_iff_exists.mp e.hc
  unfold PySem.W.clsIn at hcd
  split at hcd
  ·rename_i ho
   intro A' Q' E' s' k q
   unfold isType loadHead
   exact wpAny_bind (wpAny_loadPart (k _ _ (X _ _ ho)) (wpAny_pure q))
  ·cases hcd
 ne:=fun h tp dd its n sl X htp=>by
  obtain ⟨cd,hcd⟩:=Option.isSome_iff_exists.mp e.hc
  refine Bool.eq_false_iff.mpr fun q=> ?_
  have z:D=tp:=Value.ref.inj (beq_iff_eq.mp q)
  subst z
  unfold PySem.W.clsIn at hcd
  split at hcd
  ·rename_i ho
   have y:=(X _ _ ho).symm.trans htp
   cases y
  ·cases hcd
 ca:=fun {_ _ _ _ _ s} X I k=>by
  obtain ⟨ox,I⟩:=I
  obtain ⟨cd,hcd⟩:=Option.isSome_iff_exists.mp e.hc
  have hf:PySem.W.findObj K D none "__class__"=some (.bind (.builtin "getset_descriptor.__get__") (.builtin "object.__class__")):=by
   unfold PySem.W.findObj
   rw [hcd,Option.bind_some,e.ha,Option.bind_some]
   simp [e.hn,e.htk]
  exact zea X I e.ga e.noga e.be hf e.hm k

inductive TyX (K:PySem.W.Frag) (H:Hp):V→Value→Prop where
 |of {x:V} {t:Value} (h:VE K H x t):TyX K H x t
 |exc {e D:Addr} (h:H e=some (ziv e (.ref D))) (k:zhU K D):TyX K H (.ref e) (.ref D)
 |sqt {a:Addr} {xs:List V} (h:SqT K H a xs):TyX K H (.ref a) (.type "tuple")
 |sql {a:Addr} {xs:List V} (h:SqL K H a xs):TyX K H (.ref a) (.type "list")
theorem TyX.kit {pins:List (Addr×Obj)} {σ:St} {H:Hp} {s:Shared} {x:V} {u t:Value} (I:Inv X pins σ H s) (rx:zQ x u) (ty:TyX X.K H x t):∃Hh,PySem.W.KitX X.K u t Hh∧Hh s.heap:=by
 cases ty with
 |of ty=>
  cases ty with
  |non=>cases (show u=Value.none from rx);exact ⟨_,PySem.W.kitx_none,True.intro⟩
  |bl y=>cases (show u=Value.bool y from rx);exact ⟨_,PySem.W.kitx_bool,True.intro⟩
  |int i=>obtain ⟨t,q⟩:=(show ∃t,u=Value.int i t from rx);cases q;exact ⟨_,PySem.W.kitx_int,True.intro⟩
  |str y=>obtain ⟨t,q⟩:=(show ∃t,u=Value.str y t from rx);cases q;exact ⟨_,PySem.W.kitx_str,True.intro⟩
  |flt y=>obtain ⟨t,q⟩:=(show ∃t,u=Value.float y t from rx);cases q;exact ⟨_,PySem.W.kitx_float,True.intro⟩
  | @lst a xs ea=>
   cases (show u=Value.ref a from rx)
   obtain ⟨_,_,n,_,h1⟩:=(show yI X.prog X.w H s.heap a (.lst xs) from I.hok a _ ea)
   exact ⟨_,PySem.W.kitx_list,⟨_,h1,rfl⟩⟩
  | @frz a ob xs ea=>
   cases (show u=Value.ref a from rx)
   obtain ⟨_,_,_,n,_,h1⟩:=(show yI X.prog X.w H s.heap a (.frz ob (.lst xs)) from I.hok a _ ea)
   exact ⟨_,PySem.W.kitx_list,⟨_,h1,rfl⟩⟩
  | @tup a xs ea=>
   cases (show u=Value.ref a from rx)
   obtain ⟨_,_,_,p⟩:=(show yI X.prog X.w H s.heap a (.tup xs) from I.hok a _ ea)
   obtain ⟨o,h1,h2,_⟩:=p
   exact ⟨_,PySem.W.kitx_tuple,⟨o,h1,h2⟩⟩
  | @dK a kvs ea=>
   cases (show u=Value.ref a from rx)
   obtain ⟨_,_,vs,_,p⟩:=(show yI X.prog X.w H s.heap a (.dK kvs) from I.hok a _ ea)
   obtain ⟨o,es,ep,h1,h2,_⟩:=p
   exact ⟨_,PySem.W.kitx_dict,⟨o,h1,h2.1⟩⟩
  | @dT a kvs ea=>
   cases (show u=Value.ref a from rx)
   obtain ⟨_,_,xs,_,o,es,ep,h1,h2,_⟩:=(show yI X.prog X.w H s.heap a (.dT kvs) from I.hok a _ ea)
   exact ⟨_,PySem.W.kitx_dict,⟨o,h1,h2.1⟩⟩
  | @ins a C dx fs ea cl ha hn htk hm=>
   cases (show u=Value.ref a from rx)
   obtain ⟨mA,O,_⟩:=VS I.hok ea
   obtain ⟨od,J,_⟩:=O.look
   exact ⟨_,PySem.W.kitx_own (cl.get _) cl.hd ha hn htk hm,J⟩
 | @sqt a xs h=>
  cases (show u=Value.ref a from rx)
  obtain ⟨its,_,⟨o,h1,h2,_⟩,_⟩:=I.tuple h
  exact ⟨_,PySem.W.kitx_tuple,⟨o,h1,h2⟩⟩
 | @sql a xs h=>
  cases (show u=Value.ref a from rx)
  obtain ⟨its,_,⟨o,n,h1,h2,_⟩,_⟩:=I.list h
  exact ⟨_,PySem.W.kitx_list,⟨o,h1,h2⟩⟩
 | @exc e D h k=>
  cases (show u=Value.ref e from rx)
  obtain ⟨⟨ob,h1,h2,h3,vs,h4⟩,_⟩:=(show yI X.prog X.w H s.heap e (ziv e (.ref D)) from I.hok e _ h)
  refine ⟨_,ze5 k,ob,h1,h2,?_,?_⟩
  ·unfold PySem.W.notCls
   rw [h4]
  ·rw [h3];trivial
noncomputable def zjs:V→Option Value
 | .ref a=>some (.ref a)
 | .ty n=>some (.type n)
 |_=>none
theorem ze6 {c:V} {cv u:Value} (h:zjs c=some cv) (r:zQ c u):u=cv:=by
 cases c with
 |ref a=>cases h;exact r
 |ty n=>cases h;exact r
 |_=>cases h
theorem zQ.nb {x:V} {u:Value} (r:zQ x u):u≠ .builtin "__main__.__loader__#opaque":=by
 cases x with
 |non=>rintro rfl;cases r
 |bl b=>rintro rfl;cases r
 |int i=>rintro rfl;obtain ⟨_,q⟩:=r;cases q
 |str i=>rintro rfl;obtain ⟨_,q⟩:=r;cases q
 |byt i=>rintro rfl;obtain ⟨_,q⟩:=r;cases q
 |flt i=>rintro rfl;obtain ⟨_,q⟩:=r;cases q
 |ref a=>rintro rfl;cases r
 |ty a=>rintro rfl;cases r
noncomputable def zgP (K:PySem.W.Frag):List V→Hp→VK→Prop:=fun xs H Q=>∃x c cv t b,xs=[x,c]∧zjs c=some cv∧TyX K H x t∧PySem.W.kitOne K t cv=some b∧Q (.bl b) H
theorem ze7:Ya X (.builtin "isinstance") (zgP X.K):=by
 intro pins s σ H xs us Q I r h
 obtain ⟨x,c,cv,t,b,rfl,hc,ty,e,q⟩:=h
 obtain ⟨u,w',rfl,ru,rw'⟩:=zhN r
 obtain rfl:=ze6 hc rw'
 obtain ⟨Hh,Z,p⟩:=ty.kit I ru
 exact PySem.W.kia_one Z I.kIn p e ru.nb fun tk=>⟨.bl b,H,I.tok tk,rfl,q⟩
end
theorem Xf {K:PySem.W.Frag} {t:Value}:PySem.W.kitOne K t t=some true:=by unfold PySem.W.kitOne;rw [if_pos (by simp)]
theorem zaH {K:PySem.W.Frag}:PySem.W.kitOne K (.type "bool") (.type "int")=some true:=by
 have h:(fastBuiltinMro "bool").map (·.contains (.type "int"))=some true:=by decide+kernel
 have hm:PySem.W.kitMeta "int"=true:=by decide+kernel
 unfold PySem.W.kitOne PySem.W.kitCls
 rw [if_neg (by decide)]
 show (if PySem.W.kitMeta "int"=true then PySem.W.subIn K (.type "bool") (.type "int") else none)=_
 rw [if_pos hm]
 exact h
theorem zaI {K:PySem.W.Frag}:PySem.W.kitOne K (.type "int") (.type "bool")=some false:=by
 have h:(fastBuiltinMro "int").map (·.contains (.type "bool"))=some false:=by decide+kernel
 have hm:PySem.W.kitMeta "bool"=true:=by decide+kernel
 unfold PySem.W.kitOne PySem.W.kitCls
 rw [if_neg (by decide)]
 show (if PySem.W.kitMeta "bool"=true then PySem.W.subIn K (.type "int") (.type "bool") else none)=_
 rw [if_pos hm]
 exact h
end L2
namespace L2
open PySem PySem.Spec PyProof.Rows

inductive D where
 |non|bl (b:Bool)|int (i:Int)|str (x:Str)|tup (l:List D)|lst (l:List D)|ins (C:Addr) (ns:List Str) (l:List D)
mutual
inductive Is (K:PySem.W.Frag) (H:Hp):V→D→Prop where
 |non:Is K H .non .non
 |bl (b:Bool):Is K H (.bl b) (.bl b)
 |int (i:Int):Is K H (.int i) (.int i)
 |str (x:Str):Is K H (.str x) (.str x)
 |tup {a:Addr} {xs:List V} {ds:List D}:SqT K H a xs→IsL K H xs ds→Is K H (.ref a) (.tup ds)
 |lst {a:Addr} {xs:List V} {ds:List D}:SqL K H a xs→IsL K H xs ds→Is K H (.ref a) (.lst ds)
 |ins {a C dx:Addr} {ns:List Str} {xs:List V} {ds:List D}:H a=some (.ins C dx (ns.zip xs))→ns.length=xs.length→IsL K H xs ds→Is K H (.ref a) (.ins C ns ds)
inductive IsL (K:PySem.W.Frag) (H:Hp):List V→List D→Prop where
 |nil:IsL K H [] []
 |cons {v:V} {d:D} {vs:List V} {ds:List D}:Is K H v d→IsL K H vs ds→IsL K H (v::vs) (d::ds)
end
theorem wD {H:Hp} {p:Addr} {o:HO} (h:H p=none):Yx H (upd H p o):=fun b u e=>by rw [zm (vc e h)];exact e

noncomputable abbrev dQ (a b:Int):D:= .tup [.int a,.int b]


section
variable {σ:St} {H:Hp} {Q:VK} {ta tb tc:TE} {D':Vd} {v:V} {i:Nat}
end
local macro_rules | `(tactic| walk_at "rd") => `(tactic| repeat (first | refine i_seq ?_ | refine i_asg ?_ | refine i_gName ?_ | refine i_var rfl ?_ | refine i_c ?_ | refine i_op ?_ | refine i_I0 ?_ | refine i_U ?_ | refine i_un ?_ | refine i_cmp ?_ | refine i_2 ?_ | refine i_B ?_ | refine i_bl ?_ | refine i_not ?_ | refine i_and ?_ | refine i_or ?_ | refine i_andV ?_ | refine i_orV ?_ | refine i_notV ?_ | refine i_ifE ?_ | refine i_next ?_ | refine i_drop ?_ | refine i_ret ?_ | refine i_retN ?_ | refine i_ifS ?_ | refine i_nil ?_ | refine i_cons ?_ | refine i_call ?_ | refine i_CB ?_ | refine i_tup ?_ | refine i_lst ?_ | refine i_par ?_ | refine i_par2 ?_ | refine i_raise ?_))
end L2
namespace L2
open PySem PySem.Spec PyProof.Rows
section
variable {σ:St} {H:Hp} {Q:VK} {D':Vd} {E:XK}
end
theorem Fun.okE {P:Program} {w:World} {K:PySem.W.Frag} {mg:Str→Option Value} {base:Heap} {x qual:Str} {st:Stmt} {f:Addr} {fd:FuncData} {N ps:List Str} {k:Nat} {sp:Sp} (F:Fun K x qual st f fd) (S:zv N ps (zh st)) (len:∀vs H Q E,sp vs H Q E→vs.length=ps.length)
  (hbody:∀(cdv:Value) (A:Around) (outer:List Env) (s:Shared) (H:Hp) (vs:List V) (Q:VK) (E:XK),wc k (A.deeper (envOfC qual (zh st) s.heap.objs.size f cdv))→sp vs H Q E→
   ∃t,PSs (Th (CXE P w) P w K mg base N qual (zh st) f cdv A outer s H E) (vo st) t∧t {nx:=fun _ H'=>Q .non H',rt:=Q} (Zx N vs) H):yj P w K mg base (CXE P w) (k+1) f fd ps sp:=by
 obtain ⟨oc,od,kV,doc,pm,an,cdv,ct,osl,rfl,lk,hcd⟩:=F.ex
 exact zjl lk hcd S len fun A outer s H vs Q E hr hsp=>hbody cdv A outer s H vs Q E hr hsp
end L2
namespace L2
open PySem PySem.Spec PyProof.Rows
section
variable {σ:St} {H:Hp} {Q:VK} {D':Vd} {E:XK} {EX:Value→Hp→Prop}
end
end L2
namespace L2
open PySem PySem.Spec PyProof.Rows
section
variable {X:Cx} {K:PySem.W.Frag}
theorem zo (h:X.K=K:=by rfl):IxR X (zgJ K):=h ▸ zeS
theorem zx (h:X.K=K:=by rfl):IxR X (zgI K):=h ▸ zdm
theorem xp (h:X.K=K:=by rfl):Ya X (.builtin "isinstance") (zgP K):=h ▸ ze7
theorem yi (h:X.K=K:=by rfl):Ya X (.builtin "len") (fun xs H Q=>∃p ys,xs=[.ref p]∧(SqL K H p ys∨SqT K H p ys)∧Q (.int ys.length) H):=h ▸ zaC
theorem Vx (h:X.K=K:=by rfl):Ya X (.type "tuple") (fun xs H Q=>∃p ys,xs=[.ref p]∧((SqL K H p ys∧∀l,H l=none→Q (.ref l) (upd H l (.tup ys)))∨(SqT K H p ys∧Q (.ref p) H))):=h ▸ Tj
theorem zbG (h:X.K=K:=by rfl):SlR X (zeU K):=h ▸ zgK
variable {tg l:Expr} {tl:TE}
theorem Zi (hl:PE X l tl) (h:X.K=K:=by rfl):PI X tg l (zeK K tl):=h ▸ zgu hl
theorem VU (hl:PE X l tl) (h:X.K=K:=by rfl):PI X tg l (zif K tl):=h ▸ zig hl
theorem yV {sc:Scope}:wB X sc [] []:=trivial
theorem yW {sc:Scope} {r:List (Option Nat)} {n:List Str} {x:Str} (h:wB X sc r n):wB X sc (none::r) (x::n):=h
theorem zG {sc:Scope} {r:List (Option Nat)} {n:List Str} {x:Str} {i:Nat} (h1:X.N[i]? =some x) (h2:sc.names.lookup x=some .free) (h:wB X sc r n):wB X sc (some i::r) (x::n):=⟨⟨h1,h2⟩,h⟩
end
noncomputable def ze8 (osc sc:Scope):Bool:=sc.names.all (fun y=>y.2 != .cell)&&sc.kind== .function&&sc.names.all (fun y=>y.2 != .local||sc.names.lookup y.1==some .local)&&
 sc.names.all (fun y=>y.2 != .free||(osc.names.lookup y.1==some .cell||osc.names.lookup y.1==some .free))
theorem blk {X:Cx} {osc sc:Scope} (hs:X.env.scope=osc) (h:ze8 osc sc=true):Yz X sc:=by
 unfold ze8 at h
 simp only [Bool.and_eq_true,List.all_eq_true,bne_iff_ne,ne_eq,beq_iff_eq,Bool.or_eq_true] at h
 obtain ⟨⟨⟨h1,h2⟩,h3⟩,h4⟩:=h
 refine ⟨h1,h2,fun y hy e=>(h3 y hy).resolve_left fun z=>z e,fun y hy e=> ?_⟩
 show X.env.scope.names.lookup y.1=_∨X.env.scope.names.lookup y.1=_
 rw [hs]
 exact (h4 y hy).resolve_left fun z=>z e
end L2
namespace L2
open PySem PySem.Spec PyProof.Rows
section
variable {g:TG} {tb:TS} {σ:St} {H:Hp} {nx:St→Hp→Prop} {rt:VK}
end
end L2
namespace L2
open PySem PySem.Spec PyProof.Rows

mutual
noncomputable def D.depth:D→Nat
 | .tup l=>D.depths l+1
 | .lst l=>D.depths l+1
 | .ins _ _ _=>1000
 |_=>0
noncomputable def D.depths:List D→Nat
 |[]=>0
 |d::r=>max (D.depth d) (D.depths r)
end
section
variable {X:Cx} {pins:List (Addr×Obj)} {σ:St} {H:Hp} {s:Shared}
end
end L2
namespace L2
open PySem PySem.Spec PyProof.Rows
section
variable {σ:St} {H:Hp} {Q:VK} {D':Vd} {cap:List (Option Nat)} {wi:TI} {g:TG} {tt:TT} {te:TE}
variable {acc:Addr} {H0:Hp} {Qh:Hp→Prop}
end
end L2
namespace L2
open PySem PySem.Spec PyProof.Rows
section
variable {X:Cx}
end
end L2
namespace L2
open PySem PySem.Spec PyProof.Rows
section
variable {X:Cx} {pins:List (Addr×Obj)} {σ:List (Option V)} {H H':Hp} {s:Shared} {h':Heap}
end
end L2
namespace L2
open PySem PySem.Spec PyProof.Rows
section
variable {X:Cx}
end
structure ZA (z TI TO i1 i2:Addr):Prop where
 TIz:TI≠z
 TOz:TO≠z
 i1z:i1≠z
 i2z:i2≠z
 TITO:TI≠TO
 TIi1:TI≠i1
 TIi2:TI≠i2
 TOi1:TO≠i1
 TOi2:TO≠i2
 i12:i1≠i2
section
variable {X:Cx}
end
section
variable {σ:St} {H:Hp} {cap:List (Option Nat)} {g:TG} {tt:TT} {te:TE} {acc:Addr} {H0:Hp} {Qh:Hp→Prop}
structure zkl (J:It) (n:Nat) (f:Nat→Option (V×V)) (ok:Hp→Prop):Prop where
 go:∀i H,ok H→i<n→J.go i H
 stop:∀H,ok H→J.stop n H
 yld:∀i H x H',ok H→i<n→J.yld i H x H'→∃p u v,x= .ref p∧H p=none∧H'=upd H p (.tup [u,v])∧f i=some (u,v)
end
end L2
namespace L2
open PySem PySem.Spec PyProof.Rows
section
variable {σ:St} {H:Hp} {Q:VK} {D':Vd}
end
section
variable {σ:St} {H:Hp} {Q:VK}
end
end L2
namespace L2
open PySem PySem.Spec PyProof.Rows
open Classical in
noncomputable def frG (H H':Hp):Hp:=fun b=>match H' b with
 |some (.lst xs)=>if H b=none then some (.lst xs) else none
 |o=>o
noncomputable def Dom (H H':Hp):Prop:=∀b,H' b=none→H b=none
structure Acc (K:PySem.W.Frag) (H0:Hp) (acc:Addr) (ys:List V) (ds:List D) (H:Hp):Prop where
 at_:H acc=some (.lst ys)
 new:IsL K (frG (upd H0 acc (.lst [])) H) ys ds
 same:Yx H0 H
 dom:Dom (upd H0 acc (.lst [])) H
end L2
namespace L2
open PySem PySem.Spec PyProof.Rows
section
variable {X:Cx}
end
section
variable {σ:St} {H:Hp} {Q:VK}
end
end L2
namespace L2
open PySem PySem.Spec PyProof.Rows
section
variable {σ:St} {H:Hp} {v:V}
end
end L2
namespace L2
open PySem PySem.Spec PyProof.Rows PyProof
section
variable {X:Cx}
noncomputable def zgQ:V→Option Int→Option Int→Hp→VK→Prop:=fun x lo hi H Q=>∃z,x= .str z∧z.length≤sizeLine∧Q (.str (Txt.slice z lo hi)) H
theorem zcJ:SlR X zgQ:=by
 intro pins s σ H x v vl vu lo hi sl Q I rx hs pl pu h
 obtain ⟨z,rfl,hz,q⟩:=h
 obtain ⟨t,rfl⟩:=rx
 refine ⟨"str",_,F.slot_str_getitem.lookup,typeIs_str _ _ _,?_⟩
 obtain ⟨l,hl1,hl2⟩:∃l:Option (Int×Tok),vl=partValue l∧l.map (·.1)=lo:=by
  cases pl with
  |none=>exact ⟨none,rfl,rfl⟩
  |int i t=>exact ⟨some (i,t),rfl,rfl⟩
 obtain ⟨u,hu1,hu2⟩:∃l:Option (Int×Tok),vu=partValue l∧l.map (·.1)=hi:=by
  cases pu with
  |none=>exact ⟨none,rfl,rfl⟩
  |int i t=>exact ⟨some (i,t),rfl,rfl⟩
 subst hl1 hu1 hl2 hu2
 exact wpAny_getItem_str_slice (l:=l) (u:=u) (st:=none) hs rfl (post_val_or_str ⟨Nat.le_trans (Txt.slice_le z _ _) hz,fun t' k=>⟨.str _,H,I.tok _,⟨_,rfl⟩,q⟩⟩)
theorem ziw {K:PySem.W.Frag} {a b:String} (h1:(Value.type a==Value.type b)=false) (h:(fastBuiltinMro a).map (·.contains (.type b))=some false) (hm:PySem.W.kitMeta b=true) (hs:PySem.W.subIn K (.type a) (.type b)=(fastBuiltinMro a).map (·.contains (.type b))):PySem.W.kitOne K (.type a) (.type b)=some false:=by
 unfold PySem.W.kitOne PySem.W.kitCls
 rw [if_neg (by rw [h1];decide)]
 show (if PySem.W.kitMeta b=true then PySem.W.subIn K (.type a) (.type b) else none)=_
 rw [if_pos hm,hs,h]
end
end L2
namespace L2
open PySem PySem.Spec PyProof.Rows
open AutoSeq1 (wpAny_loadPart')
section
variable {prog:Program} {w:World} {A:Around} {E:Value→Shared→Prop} {s:Shared}
end
section
variable {X:Cx}
end
end L2
namespace L2
open PySem PySem.Spec PyProof.Rows
section
variable {prog:Program} {w:World} {A:Around} {E:Value→Shared→Prop} {s:Shared}
noncomputable abbrev zT1 (h:Heap) (l1:Addr):Heap:=h.push {cls:= .type "tuple_iterator",data:= .fields #[.ref l1,.int 0 0]}
noncomputable abbrev zT2 (h:Heap) (l1 l2:Addr):Heap:=(zT1 h l1).push {cls:= .type "tuple_iterator",data:= .fields #[.ref l2,.int 0 0]}
noncomputable abbrev zT3 (h:Heap) (l1 l2:Addr):Heap:=(zT2 h l1 l2).push {cls:= .type "tuple",data:= .seq #[.ref h.objs.size,.ref (zT1 h l1).objs.size]}
noncomputable abbrev zT4 (h:Heap) (l1 l2:Addr):Heap:=(zT3 h l1 l2).push {cls:= .type "tuple",data:= .seq #[.none,.none]}
noncomputable abbrev zT5 (h:Heap) (l1 l2:Addr):Heap:=(zT4 h l1 l2).push {cls:= .type "zip",data:= .fields #[.none,.bool false,.bool false,.ref (zT2 h l1 l2).objs.size,.ref (zT3 h l1 l2).objs.size]}
end
section
variable {X:Cx}
end
end L2
namespace L2
open PySem PySem.Spec PyProof.Rows
mutual
noncomputable def D.small (n:Nat):D→Prop
 | .int i=>i.natAbs<2^n
 | .tup l=>D.smalls n l
 | .lst l=>D.smalls n l
 | .non=>True
 | .bl _=>True
 | .str _=>False
 | .ins _ _ _=>False
noncomputable def D.smalls (n:Nat):List D→Prop
 |[]=>True
 |d::r=>D.small n d∧D.smalls n r
end
mutual
noncomputable def D.wt (n:Nat):D→Nat
 | .tup l=>D.wts n l
 | .lst l=>D.wts n l
 | .int _=>n
 |_=>0
noncomputable def D.wts (n:Nat):List D→Nat
 |[]=>0
 |d::r=>D.wt n d+1+D.wts n r
end
section
variable {X:Cx} {pins:List (Addr×Obj)} {σ:St} {H:Hp} {s:Shared}
end
structure zkg (n:Nat) (d:D):Prop where
 seq:∃l,d= .tup l∨d= .lst l
 small:D.small n d
 n0:8≤n
 n1:n≤1900
 deep:D.depth d≤40
 size:(n+3)*D.wt n d+n+1≤16777216
section
variable {X:Cx}
end
end L2
namespace L2
open PySem PySem.Spec PyProof.Rows
noncomputable abbrev zjt (t:Addr) (i:Int):Obj:={cls:= .type "reversed",data:= .fields #[.ref t,rawInt i]}
noncomputable abbrev zkr (h:Heap) (a t:Addr) (i:Int):Prop:=h.get? a=some (zjt t i)
section
variable {prog:Program} {w:World} {A:Around} {E:Value→Shared→Prop} {s:Shared}
end
section
variable {X:Cx} {tg:Expr}
noncomputable def zhV (K:PySem.W.Frag):R2:=fun x y H Q=>∃a b xs ys,x= .ref a∧y= .ref b∧SqT K H a xs∧SqT K H b ys∧xs.length+ys.length≤sizeLine∧(xs=[]→Q (.ref b) H)∧(xs≠[]→ys=[]→Q (.ref a) H)∧(xs≠[]→ys≠[]→∀p,H p=none→Q (.ref p) (upd H p (.tup (xs++ys))))
theorem zdr {K:PySem.W.Frag} (hK:X.K=K:=by rfl):OpR X (binaryOp .Add) (zhV K):=by
 subst hK
 intro pins s σ H x y v u Q I rx ry h
 obtain ⟨a,b,xs,ys,e1,e2,ha,hb,hz,q1,q2,q3⟩:=h
 by_cases hx:xs=[]
 ·subst e1 e2
  cases rx
  cases ry
  obtain ⟨its,r1,p1,_⟩:=I.tuple ha
  obtain ⟨its2,r2,p2,_⟩:=I.tuple hb
  obtain ⟨⟨cls,dd,data,sl⟩,ho,hc,n,hd⟩:=id p1
  obtain ⟨⟨cls2,dd2,data2,sl2⟩,ho2,hc2,n2,hd2⟩:=id p2
  simp only at hc hd hc2 hd2
  subst hc hd hc2 hd2
  exact concat_meets ⟨_,ho,rfl⟩ ⟨_,ho2,rfl⟩ noFill_tuple_add seq_tuple_add PySem.F.slot_tuple_add PySem.F.entry_tuple_add (PySem.F.args_tuple_add_2 _ _) (tuple_addW0 a b its.toArray its2.toArray n n2 dd dd2 sl sl2 (by have:=r1.nil_iff.mpr hx;simp [this])) ⟨ho,ho2,⟨.ref b,H,I,rfl,q1 hx⟩⟩
 ·exact zgF pins s σ H x y v u Q I rx ry ⟨a,b,xs,ys,e1,e2,ha,hb,hx,hz,q2 hx,q3 hx⟩
end
end L2
namespace L2
open PySem PySem.Spec PyProof.Rows PyProof
section
variable {X:Cx}
end
end L2
namespace L2
open PySem PySem.Spec PyProof.Rows
section
variable {X:Cx}
noncomputable def zju (K:PySem.W.Frag):List V→Hp→VK→Prop:=fun xs H Q=>∃(p:Addr) (bs:List Bool),xs=[.ref p]∧SqL K H p (bs.map V.bl)∧Q (.bl (bs.any id)) H
noncomputable def zjv (K:PySem.W.Frag):List V→Hp→VK→Prop:=fun xs H Q=>∃(p:Addr) (bs:List Bool),xs=[.ref p]∧SqL K H p (bs.map V.bl)∧Q (.bl (bs.all id)) H
theorem zeb:∀(bs:List Bool),(List.range bs.length).any (fun i=>bs.getD i false)=bs.any id:=fun bs=>by
 rw [Bool.eq_iff_iff,List.any_eq_true,List.any_eq_true]
 constructor
 ·rintro ⟨i,hi,h⟩
  have hi:=List.mem_range.1 hi
  rw [List.getD_eq_getElem?_getD,List.getElem?_eq_getElem hi,Option.getD_some] at h
  exact ⟨_,List.getElem_mem hi,h⟩
 ·rintro ⟨b,hb,h⟩
  obtain ⟨i,hi,e⟩:=List.mem_iff_getElem.1 hb
  refine ⟨i,List.mem_range.2 hi,?_⟩
  rw [List.getD_eq_getElem?_getD,List.getElem?_eq_getElem hi,Option.getD_some,e]
  exact h
theorem zec:∀(bs:List Bool),(List.range bs.length).all (fun i=>bs.getD i false)=bs.all id:=fun bs=>by
 rw [Bool.eq_iff_iff,List.all_eq_true,List.all_eq_true]
 constructor
 ·intro h b hb
  obtain ⟨i,hi,e⟩:=List.mem_iff_getElem.1 hb
  have:=h i (List.mem_range.2 hi)
  rw [List.getD_eq_getElem?_getD,List.getElem?_eq_getElem hi,Option.getD_some,e] at this
  exact this
 ·intro h i hi
  have hi:=List.mem_range.1 hi
  rw [List.getD_eq_getElem?_getD,List.getElem?_eq_getElem hi,Option.getD_some]
  exact h _ (List.getElem_mem hi)
theorem UF {pins:List (Addr×Obj)} {σ:St} {H:Hp} {s:Shared} {p:Addr} {bs:List Bool} (hc:X.calm=true) (I:Inv X pins σ H s) (hq:SqL X.K H p (bs.map V.bl)) {R:Value→Shared→Prop}
  (k:∀Ia fp wr G n P St tr (s₂:Shared),WalksS X.prog X.w X.A.in1 Ia fp wr G n P St→St 0 s₂→TruthOf X.prog X.w X.A.in1 P tr→n=bs.length→(tr=fun i=>bs.getD i false)→(∀s',Moved wr G s₂ s'→Inv X pins σ H s')→R (.ref Ia) s₂):
  wpAny (model X.prog X.w) X.A.in1 (pyIter (.ref p)) R X.xe s:=by
 obtain ⟨its,rv,pl,hz⟩:=I.list hq
 have lt:p<s.heap.objs.size:=by
  obtain ⟨o,n,e,_⟩:=id pl
  exact Heap.lt_size e
 have hl:=rv.length
 rw [List.length_map] at hl
 refine wpAny_pyIter_list pl.isList ?_
 have W:=(Walks.list (prog:=X.prog) (w:=X.w) (A:=X.A.in1) (I.ok.hd hc) s.heap.objs.size p (Nat.ne_of_lt lt) its.toArray).toS
 refine k s.heap.objs.size _ _ _ _ _ _ (fun i=>bs.getD i false) _ W ?_ ?_ ?_ rfl ?_
 ·exact ⟨⟨_,Heap.get?_push_size _ rfl,rfl,rfl⟩,Heap.IsList.push pl.isList _⟩
 ·intro i v s Q E hv hQ
  have hv:its[i]? =some v:=by simpa using hv
  have hi:i<bs.length:=by rw [hl];exact (List.getElem?_eq_some_iff.1 hv).1
  obtain ⟨u,hu,ru⟩:=rv.get (i:=i) (x:=V.bl bs[i]) (by rw [List.getElem?_map,List.getElem?_eq_getElem hi];rfl)
  have e0:u=v:=by
   rw [hu] at hv
   exact Option.some.inj hv
  have ru:u=Value.bool bs[i]:=ru
  rw [←e0,ru]
  refine wpAny_truthy_bool ?_
  have e:bs.getD i false=bs[i]:=by rw [List.getD_eq_getElem?_getD,List.getElem?_eq_getElem hi,Option.getD_some]
  rw [←e]
  exact hQ
 ·rw [List.size_toArray,←hl]
 ·intro s' m
  have I1:Inv X pins σ H {s with heap:=s'.heap,toks:=s'.toks}:=I.kept fun b o e=>m.heap b o (fun z=>by
   have z:b=s.heap.objs.size:=by simpa using z
   exact absurd (Heap.lt_size e) (by rw [z];exact Nat.lt_irrefl _)) (Heap.get?_push_of_some _ e)
  have e:({s with heap:=s'.heap,toks:=s'.toks}:Shared)=s':=by
   have h1:=m.gens
   have h2:=m.drawn
   have h3:=m.os
   cases s'
   simp only at h1 h2 h3
   subst h1 h2 h3
   rfl
  rw [e] at I1
  exact I1
theorem zed {K:PySem.W.Frag} (hc:X.calm=true) (hK:X.K=K:=by rfl):Ya X (.builtin "any") (zju K):=by
 subst hK
 intro pins s σ H xs us Q I r h
 obtain ⟨p,bs,rfl,hq,q⟩:=h
 obtain ⟨u,rfl,ru⟩:=Uv r
 cases ru
 refine call_any_walkS (UF hc I hq fun Ia fp wr G n P St tr s₂ W h0 ht hn htr hm=>⟨Ia,fp,wr,G,n,P,St,tr,rfl,W,h0,ht,fun s' m=>⟨.bl _,H,hm s' m,rfl,?_⟩⟩)
 rw [hn,htr,zeb]
 exact q
theorem Yc {K:PySem.W.Frag} (hc:X.calm=true) (hK:X.K=K:=by rfl):Ya X (.builtin "all") (zjv K):=by
 subst hK
 intro pins s σ H xs us Q I r h
 obtain ⟨p,bs,rfl,hq,q⟩:=h
 obtain ⟨u,rfl,ru⟩:=Uv r
 cases ru
 refine call_all_walkS (UF hc I hq fun Ia fp wr G n P St tr s₂ W h0 ht hn htr hm=>⟨Ia,fp,wr,G,n,P,St,tr,rfl,W,h0,ht,fun s' m=>⟨.bl _,H,hm s' m,rfl,?_⟩⟩)
 rw [hn,htr,zec]
 exact q
theorem Inv.lstR {pins:List (Addr×Obj)} {σ:St} {H:Hp} {s:Shared} {l:Addr} {xs:List V} (I:Inv X pins σ H s) (hH:SqX X.K H l xs):xs.length≤sizeLine∧∃(its:List Value) (n:Nat),zO xs its∧xs.length=its.length∧s.heap.get? l=some {cls:= .type "list",data:= .seq its.toArray n}:=by
 rcases hH with hH|⟨its,n,hk,hz,r⟩
 ·obtain ⟨z,its,n,r,e⟩:=hH.ok I.hok
  exact ⟨z,its,n,r,r.length,e⟩
 ·have hl:=r.length
  have hl2:its.toList.length=its.size:=Array.length_toList
  exact ⟨by omega,its.toList,n,r,r.length,I.kIn l _ hk⟩
theorem zee (l:Addr) (items:Array Value) (n:Nat) (b:Addr) (ob:Obj) (T:String) (items2:Array Value) (n2:Nat) (hT:T="list"∨T="tuple") (hs0:(!items.isEmpty&&Builtin.List.listTooLong (items.size+items2.size))=false) (hs1:items.size≤sizeLine) (hs2:items.size+items2.size≤sizeLine):
  Meets (Builtin.«list.extend» ⟨[.ref l,.ref b],[]⟩) (fun _ R s=>s.heap.get? l=some {cls:= .type "list",dict:=none,data:= .seq items n,slots:= #[]}∧s.heap.get? b=some ob∧ob.cls= .type T∧ob.data= .seq items2 n2∧R (.ok (.ret Value.none)) {s with heap:=s.heap.update l (Obj.mapSeq fun x=>x++items2),toks:=s.toks}):=by
 intro prog w A R s h
 obtain ⟨hl,hb,hc,hd,hR⟩:=h
 show wpAny _ _ (Builtin.List.listExtendWith (.ref l) (.ref b) .none) _ _ s
 unfold Builtin.List.listExtendWith
 refine wpAny_bind (wpAny_typeOf (T:=T) ⟨ob,hb,hc⟩ ?_)
 have hcond:(Builtin.List.listSameRef (.ref l) (.ref b)||Value.type T==Value.type "list"||Value.type T==Value.type "tuple")=true:=by
  rcases hT with rfl|rfl<;>simp
 rw [if_pos hcond]
 refine wpAny_bind ?_
 unfold Builtin.List.listItems
 refine wpAny_bind (wpAny_seqItems hb hd (wpAny_pure ?_))
 refine wpAny_bind ?_
 refine wpAny_bind (wpAny_seqItems hl rfl (wpAny_pure ?_))
 rw [if_neg (by rw [hs0];exact Bool.false_ne_true)]
 have hz':(items++items2).size≤sizeLine+1:=by rw [Array.size_append];omega
 refine wpAny_bind (m:=Builtin.List.listUpdate (.ref l) (· ++items2)) ?_
 show wpAny _ _ (updateSeq l (fun x=>x++items2)) _ _ s
 refine wpAny_updateSeq hl rfl (hz:=hs1) (_hz':=hz') ?_
 exact wpAny_pure hR
noncomputable def zbH (K:PySem.W.Frag):V→List V→Hp→VK→Prop:=fun x vs H Q=>∃l b xs zs,x= .ref l∧vs=[.ref b]∧H l=some (.lst xs)∧(SqX K H b zs∨SqT K H b zs)∧xs.length+zs.length≤sizeLine∧Q .non (upd H l (.lst (xs++zs)))
theorem zcK {K:PySem.W.Frag} (hK:X.K=K:=by rfl):MtR X "list.extend" (zbH K):=by
 subst hK
 intro pins s σ H x vs v us Q I rx rv h
 obtain ⟨l,b,xs,zs,rfl,rfl,hH,hB,hz,q⟩:=h
 cases rx
 obtain ⟨u,rfl,ru⟩:=rv.one
 cases ru
 obtain ⟨z,its,n,r,hl,e⟩:=I.lstM hH
 have key:∀{its2:List Value} {ob:Obj} {T:String} {n2:Nat},zO zs its2→(T="list"∨T="tuple")→s.heap.get? b=some ob→ob.cls= .type T→ob.data= .seq its2.toArray n2→
   wpAny (model X.prog X.w) X.A (call (.builtin "list.extend") [.ref l,.ref b]) (EP X pins σ Q) X.xe s:=by
  intro its2 ob T n2 r2 hT hb hc hd
  have hl2:=r2.length
  have hsz:its.toArray.size+its2.toArray.size≤sizeLine:=by rw [List.size_toArray,List.size_toArray];omega
  refine call_meets F.slot_list_extend ⟨_,e,rfl⟩ F.entry_list_extend (F.args_list_extend_2 _ _)
   (zee l its.toArray n b ob T its2.toArray n2 hT (by rw [zeW hsz,Bool.and_false]) (by rw [List.size_toArray];omega) hsz) ⟨e,hb,hc,hd,?_⟩
  refine ⟨.non,_,I.lset (its':=its++its2) hH e (by simp) (r.append r2) ?_,rfl,q⟩
  rw [List.length_append]
  omega
 rcases hB with hB|hB
 ·obtain ⟨z2,its2,n2,r2,hl2,e2⟩:=I.lstR hB
  exact key r2 (.inl rfl) e2 rfl rfl
 ·obtain ⟨its2,r2,⟨ob,hb,hc,n2,hd⟩,_⟩:=I.tuple hB
  exact key r2 (.inr rfl) hb hc hd
end
end L2
namespace L2
open PySem PySem.Spec PyProof.Rows
theorem zef:typeLookup (.type "list_reverseiterator") "__len__"=pure none:=by rw [typeLookup_type,builtinLookup_eq_fast];kernel_rfl
theorem ze9:typeLookup (.type "list_reverseiterator") "__length_hint__"=pure (some (.builtin "list_reverseiterator.__length_hint__")):=by rw [typeLookup_type,builtinLookup_eq_fast];kernel_rfl
section
variable {prog:Program} {w:World} {A:Around} {E:Value→Shared→Prop} {s:Shared}
theorem zcL {R:Result→Shared→Prop} (hh:A.handled=none) {it l:Addr} {items:Array Value} (hn:items.size≤sizeLine) (S:Addr) (res:Value) (c₀:Nat) (hS:s.heap.get? S=some {cls:= .type "list",data:= .seq #[] c₀})
  (hit:s.heap.IsRevIter it l ((items.size:Int)-1)) (hl:s.heap.IsList l items) (hil:l≠it) (hSI:S≠it) (hSl:S≠l)
  (hR:∀h' tk acc' c',(∀b o,b≠S→b≠it→s.heap.get? b=some o→h'.get? b=some o)→h'.get? S=some {cls:= .type "list",dict:=none,data:= .seq acc' c',slots:= #[]}→
   ItemsOf (fun i v=>items[items.size-1-i]? =some v) acc' items.size→R (.ok (.ret res)) {s with heap:=h',toks:=tk}):
  wpAny (model prog w) A.in1 (Builtin.List.listExtendWith (.ref S) (.ref it) res)
   (fun fin s'=>match fin with| .done f=>R (.ok f) s'| .again c'=>c'.quiet=true∧codeAny (model prog w) A c' R s') (fun e s'=>R (.error e) s') s:=by
 have hSf:S∉[it,l]:=fun hm=>by
  rcases List.mem_cons.mp hm with e|hm
  ·exact hSI e
  ·exact hSl (List.mem_singleton.mp hm)
 have W:=(Walks.listRev (prog:=prog) (w:=w) (A:=A.in1) hh it l hil items).toS
 have hst:0≤items.size∧s.heap.IsRevIter it l ((items.size:Int)-1-((0:Nat):Int))∧s.heap.IsList l items:=⟨Nat.zero_le _,by simpa using hit,hl⟩
 unfold Builtin.List.listExtendWith
 refine wpAny_bind (wpAny_typeOf (T:="list_reverseiterator") hit.typeIs ?_)
 have h1:Builtin.List.listSameRef (.ref S) (.ref it)=false:=by simp [Builtin.List.listSameRef,hSI]
 rw [if_neg (by rw [h1];decide)]
 refine wpAny_bind (wpAny_pyIter_revIter hit ?_)
 refine wpAny_bind (wpAny_holding ?_)
 unfold Builtin.List.listLengthHint
 refine wpAny_bind (wpAny_specialOf hit.typeIs zef ?_)
 show wpAny _ A.in1 (specialOf (Value.ref it) (Str.ofString "__length_hint__")>>=_) _ _ _
 refine wpAny_bind (wpAny_specialOf hit.typeIs ze9 ?_)
 (generalize hid:("list_reverseiterator.__length_hint__":String)=id0;(fail_if_success (clear hid id0));wp_delta;rw [show splitId id0=some ("list_reverseiterator","__length_hint__") from by subst hid;decide+kernel];subst hid)
 refine wpAny_bind (wpAny_isInstance (b:=true) hit.typeIs (by rw [isSubtype_type];kernel_rfl) ?_)
 refine wpAny_pure ?_
 rw [if_neg (by decide)]
 refine wpAny_pure ⟨plainId_quiet F.plain_extend_loop _,codeAny_extend_loopS W hn _ hSf _ items.size 0 _ _ _ rfl (Nat.zero_le _) hst hS (ItemsOf.nil _) fun s' acc' c' hm hS' hacc=> ?_⟩
 rw [Moved.eq_with hm]
 refine hR s'.heap s'.toks acc' c' (fun b ob hb hb2 e=>hm.heap b ob (fun hmem=> ?_) e) hS' hacc
 rcases List.mem_cons.mp hmem with e'|hmem
 ·exact hb e'
 ·exact hb2 (List.mem_singleton.mp hmem)
theorem Tn {Q:Value→Shared→Prop} (hh:A.handled=none) {it l:Addr} {items:Array Value} (hn:items.size≤sizeLine) (hit:s.heap.IsRevIter it l ((items.size:Int)-1)) (hl:s.heap.IsList l items) (hil:l≠it)
  (hQ:∀h' tk acc' c',(∀b o,b≠it→s.heap.get? b=some o→h'.get? b=some o)→
   h'.get? s.heap.objs.size=some {cls:= .type "list",dict:=none,data:= .seq acc' c',slots:= #[]}→ItemsOf (fun i v=>items[items.size-1-i]? =some v) acc' items.size→Q (.ref s.heap.objs.size) {s with heap:=h',toks:=tk}):
  wpAny (model prog w) A (call (.type "list") [.ref it]) Q E s:=by
 refine callType_codes (Q₁:=fun obj s₁=>obj= .ref s.heap.objs.size∧s₁={s with heap:=s.heap.push {cls:= .type "list",data:= .seq #[]}}) F.called_list (F.typeCall_list_1 _) F.entry_list_init
  (code_list_new _ ⟨rfl,rfl⟩) fun obj s₁ h₁=> ?_
 obtain ⟨rfl,rfl⟩:=h₁
 have hS:(s.heap.push {cls:= .type "list",data:= .seq #[]}).get? s.heap.objs.size=some {cls:= .type "list",data:= .seq #[]}:=Heap.get?_push_size _ rfl
 refine ⟨⟨_,hS,rfl⟩,F.args_list_init_2 _ _,?_⟩
 show wpAny _ _ (do let old ←Builtin.List.listItems (.ref s.heap.objs.size);Builtin.List.listUpdate (.ref s.heap.objs.size) (fun _=> #[]);letGo old.toList.reverse;Builtin.List.listExtendWith (.ref s.heap.objs.size) (.ref it) .none) _ _ _
 refine wpAny_bind ?_
 unfold Builtin.List.listItems
 refine wpAny_bind (wpAny_seqItems hS rfl (wpAny_pure ?_))
 show wpAny _ _ (updateSeq s.heap.objs.size (fun _=> #[])>>=fun _=>letGo (#[]:Array Value).toList.reverse>>=fun _=>Builtin.List.listExtendWith (.ref s.heap.objs.size) (.ref it) .none) _ _ _
 refine wpAny_bind (wpAny_updateSeq hS rfl ?_)
 have hS₂:=Heap.get?_update_self (Obj.mapSeq (fun _=>(#[]:Array Value))) hS rfl
 have ltI:it<s.heap.objs.size:=let ⟨_,ho,_⟩:=hit;Heap.lt_size ho
 have ltl:l<s.heap.objs.size:=let ⟨_,ho,_⟩:=hl;Heap.lt_size ho
 have oth:∀b o,b≠s.heap.objs.size→(s.heap.push {cls:= .type "list",data:= .seq #[]}).get? b=some o→((s.heap.push {cls:= .type "list",data:= .seq #[]}).update s.heap.objs.size (Obj.mapSeq (fun _=>(#[]:Array Value)))).get? b=some o:=
  fun b o hb e=>(Heap.get?_update_other _ _ (Ne.symm hb)).trans e
 have old:∀b o,s.heap.get? b=some o→((s.heap.push {cls:= .type "list",data:= .seq #[]}).update s.heap.objs.size (Obj.mapSeq (fun _=>(#[]:Array Value)))).get? b=some o:=
  fun b o e=>oth b o (Nat.ne_of_lt (Heap.lt_size e)) (Heap.get?_push_of_some _ e)
 refine wpAny_bind (wpAny_letGo ?_)
 refine zcL (A:=A.in1) (items:=items) hh hn s.heap.objs.size .none _ hS₂ (hit.at fun o e=>old _ o e) (hl.at fun o e=>old _ o e) hil (Ne.symm (Nat.ne_of_lt ltI)) (Ne.symm (Nat.ne_of_lt ltl)) fun h' tk acc' c' hk hS' hacc=> ?_
 exact ⟨rfl,hQ h' tk acc' c' (fun b o hb e=>hk b o (Nat.ne_of_lt (Heap.lt_size e)) hb (old b o e)) hS' hacc⟩
end
section
variable {X:Cx}
noncomputable def zbI (K:PySem.W.Frag) (te:TE):TE:=fun σ H Q=>te σ H fun x H1=>∃p ys,x= .ref p∧SqX K H1 p ys∧∀l,H1 l=none→Q (.ref l) (upd H1 l (.lst ys.reverse))
theorem zcM {K:PySem.W.Frag} {e:Expr} {te:TE} {p p2 pos pos2:Pos} (hc:X.calm=true) (hg:Gl X "list") (hm:X.mg "list"=none) (hg2:Gl X "reversed") (hm2:X.mg "reversed"=none) (ha:PE X e te) (hK:X.K=K:=by rfl)
  (he2:starEach [e] X.env=[(false,eval e X.env)]:=by rfl) (he:starEach [.Call (.Name "reversed" p2) [e] [] pos2] X.env=[(false,eval (.Call (.Name "reversed" p2) [e] [] pos2) X.env)]:=by rfl):
  PE X (.Call (.Name "list" p) [.Call (.Name "reversed" p2) [e] [] pos2] [] pos) (zbI K te):=by
 subst hK
 intro pins s σ H Q I h
 refine wpAny_Call_Name_kw (Ve I hg hm boot_list ?_ (by decide) (by decide))
 refine PyProof.Rows.callWith_type1 ?_ he rfl
 rw [he]
 show wpAny _ _ (spliced ((false,eval (.Call (.Name "reversed" p2) [e] [] pos2) X.env)::backTo pos [])) _ _ s
 refine Calls.spliced_cons ?_
 refine wpAny_Call_Name_kw (Ve I hg2 hm2 Boot.«reversed» ?_ (by decide) (by decide))
 refine PyProof.Rows.callWith_type1 ?_ he2 rfl
 refine thn (zE ha zf he2 pos2 pins s σ H (fun vs H1=>∃p ys,vs=[.ref p]∧SqX X.K H1 p ys∧∀l,H1 l=none→Q (.ref l) (upd H1 l (.lst ys.reverse))) I ?_) fun us s1 ⟨vs,H1,I1,r1,q1⟩=> ?_
 ·have h:te σ H fun x H1=>∃p ys,x= .ref p∧SqX X.K H1 p ys∧∀l,H1 l=none→Q (.ref l) (upd H1 l (.lst ys.reverse)):=h
  show te σ H fun x H1=>∃p ys,[x]=[V.ref p]∧SqX X.K H1 p ys∧∀l,H1 l=none→Q (.ref l) (upd H1 l (.lst ys.reverse))
  have e:(fun (x:V) (H1:Hp)=>∃p ys,[x]=[V.ref p]∧SqX X.K H1 p ys∧∀l,H1 l=none→Q (.ref l) (upd H1 l (.lst ys.reverse)))=fun x H1=>∃p ys,x= .ref p∧SqX X.K H1 p ys∧∀l,H1 l=none→Q (.ref l) (upd H1 l (.lst ys.reverse)):=by
   funext x H1
   simp
  rw [e]
  exact h
 obtain ⟨p,ys,rfl,hq,q⟩:=q1
 obtain ⟨u,rfl,ru⟩:=Uv r1
 cases ru
 obtain ⟨z,its,n,r,hl,e1⟩:=I1.lstR hq
 have hL:s1.heap.IsList p its.toArray:=⟨_,e1,rfl,n,rfl⟩
 have ltp:p<s1.heap.objs.size:=Heap.lt_size e1
 refine call_reversed_list hL ?_
 refine Calls.spliced_nil ?_
 refine Tn (items:=its.toArray) (I1.ok.hd hc) (by rw [List.size_toArray];omega) ⟨_,Heap.get?_push_size _ rfl,rfl,rfl⟩ (hL.push _) (Nat.ne_of_lt ltp) fun h' tk acc' c' hk hS' hacc=> ?_
 have kept:∀b o,s1.heap.get? b=some o→h'.get? b=some o:=fun b o e=>hk b o (Nat.ne_of_lt (Heap.lt_size e)) (Heap.get?_push_of_some _ e)
 have hsz:s1.heap.objs.size≤(s1.heap.push (revObj p ((its.toArray.size:Int)-1))).objs.size:=by rw [Heap.size_push];exact Nat.le_succ _
 have ha:acc'.toList=its.reverse:=by
  obtain ⟨a1,a2⟩:=hacc
  refine List.ext_getElem? fun i=> ?_
  by_cases hi:i<its.length
  ·have hi':i<acc'.size:=by rw [a1,List.size_toArray];exact hi
   have e3:acc'.toList[i]? =some acc'[i]:=by simp [hi']
   have e4:=a2 i acc'[i] (by simp [hi'])
   rw [e3,List.getElem?_reverse hi,←e4]
   simp
  ·rw [List.getElem?_eq_none (by simp [a1];omega),List.getElem?_eq_none (by simp;omega)]
 have hv:zO ys.reverse its.reverse:=r.reverse
 refine ⟨.ref _,_,I1.laid (o:= .lst ys.reverse) (t':=tk) kept hsz ⟨by rw [List.length_reverse];exact z,its.reverse,c',hv,?_⟩,rfl,q _ (I1.hok.fresh hsz)⟩
 rw [hS',←ha]
end
end L2
namespace HT
open PySem PyProof.Rows
section
variable {prog:Program} {w:World} {A:Around} {E:Value→Shared→Prop} {s:Shared}
end
end HT
namespace L2
open PySem PySem.Spec PyProof.Rows
section
variable {X:Cx}
section
variable {X:Cx} {tg:Expr}
end
end
end L2
namespace L2
open PySem PySem.Spec PyProof.Rows
section
variable {env:Env} {r:List Expr}
theorem zfa {a b c}:starEach (.Tuple a b c::r) env=(false,eval (.Tuple a b c) env)::starEach r env:=by rw [starEach];simp
theorem zbJ {a b c}:starEach (.Constant a b c::r) env=(false,eval (.Constant a b c) env)::starEach r env:=by rw [starEach];simp
theorem zgR {a b}:starEach (.Name a b::r) env=(false,eval (.Name a b) env)::starEach r env:=by rw [starEach];simp
theorem zaJ {a b c}:starEach (.Subscript a b c::r) env=(false,eval (.Subscript a b c) env)::starEach r env:=by rw [starEach];simp
theorem zfb {a b c d}:starEach (.BinOp a b c d::r) env=(false,eval (.BinOp a b c d) env)::starEach r env:=by rw [starEach];simp
theorem zgS {a b c d}:starEach (.Call a b c d::r) env=(false,eval (.Call a b c d) env)::starEach r env:=by rw [starEach];simp
theorem zaK {a b c}:starEach (.Attribute a b c::r) env=(false,eval (.Attribute a b c) env)::starEach r env:=by rw [starEach];simp
end
end L2
namespace L2
open PySem PySem.Spec PyProof.Rows PySem.Builtin
section
variable {X:Cx}
end
end L2
namespace L2
open PySem PySem.Spec PyProof.Rows PySem.Calls
section
variable {X:Cx}
end
section
variable {prog:Program} {w:World} {A:Around} {E:Value→Shared→Prop} {s:Shared} {T:String} {r d:Addr} {n:Nat} {P:Nat→Value→Prop} {OK:Heap→Prop} {Q:Value→Shared→Prop}
end
section
variable {X:Cx}
end
section
variable {prog:Program} {w:World} {A:Around} {E:Value→Shared→Prop} {s:Shared} {T:String} {r d:Addr} {n:Nat} {P:Nat→Value→Prop} {OK:Heap→Prop} {Q:Value→Shared→Prop}
end
section
variable {X:Cx}
end
end L2
namespace L2
open PySem
structure XI where
 C:Option Str
 m:Str
 d:Str
structure yY where
 id:Nat
 par:Arguments
 body:PySem.Expr
 sc:Scope
 t:XI
 fr:List Str
noncomputable def XI.q (t:XI):Str:=(t.d++".<locals>.")++"<lambda>"
noncomputable abbrev yY.q (L:yY):Str:=L.t.q
noncomputable def zfc (K:PySem.W.Frag):Option Str→Str→Option Addr
 |none,m=>(match PySem.W.nsIn K mainGlobals m with
  |some (some (.ref f))=>some f
  |_=>none)
 |some C,m=>(match PySem.W.nsIn K mainGlobals C with
  |some (some (.ref g))=>(match PySem.W.findIn K (.ref g) m with
   |some (some (.ref f))=>some f
   |_=>none)
  |_=>none)
noncomputable def zfd (K:PySem.W.Frag) (f:Addr):Option (Addr×Addr):=match K.lookup f with
 |some ⟨_,_,.func fd,_⟩=>(match fd.code with
  | .ref c=>(match K.lookup c with
   |some ⟨_,_,.fields vs,_⟩=>(match (vs[11]? :Option Value) with
    |some (.ref P)=>if PySem.W.codeHdIn K c P then some (c,P) else none
    |_=>none)
   |_=>none)
  |_=>none)
 |_=>none
noncomputable def Zv (K:PySem.W.Frag) (t:XI):Option (Addr×Addr):=(zfc K t.C t.m).bind (zfd K)
inductive Xv where
 |non|bl (b:Bool)|int (i:Int)|str (x:Str)|tup (xs:List Xv)|ct (xs:List Xv)|ref (n:Nat)|lam (L:yY) (xs:List Xv)
inductive Ce where
 |lst (xs:List Xv)
 |frz (xs:List Xv)
 |dk (kvs:List (Key×Xv))
 |dt (kvs:List (List Key×Xv))
 |ins (nm:Str) (fs:List (Str×Xv))
 |fdk (kvs:List (Key×Xv))
 |dn (kvs:List (NK×Xv×Xv))
 |exc (nm:Str)
 |tab (t:XI)
noncomputable abbrev Sto:=List Ce
noncomputable abbrev Rho:=List (Option Xv)
noncomputable def Ce.fz:Ce→Bool
 | .frz _=>true
 | .fdk _=>true
 | .exc _=>true
 |_=>false
noncomputable def HO.mu:HO→Bool
 | .lst _=>true
 | .dK _=>true
 | .dT _=>true
 | .dN _=>true
 | .ins _ _ _=>true
 | .set _ _=>true
 | .tbl _=>true
 |_=>false
noncomputable def xS (H H':Hp):Prop:=∀b u,H b=some u→u.mu=false→H' b=some u
theorem xS.refl (H:Hp):xS H H:=fun _ _ e _=>e
theorem xS.trans {H H1 H2:Hp} (a:xS H H1) (b:xS H1 H2):xS H H2:=fun x u e m=>b x u (a x u e m) m
theorem xS.same {H H':Hp} (S:Yx H H'):xS H H':=fun b u e _=>S b u e
structure Ext (j:List Addr) (H:Hp) (j':List Addr) (H':Hp):Prop where
 pre:∀(n:Nat) a,j[n]? =some a→j'[n]? =some a
 imm:xS H H'
theorem Ext.refl {j:List Addr} {H:Hp}:Ext j H j H:=⟨fun _ _ e=>e,xS.refl _⟩
theorem Ext.trans {j j1 j2:List Addr} {H H1 H2:Hp} (a:Ext j H j1 H1) (b:Ext j1 H1 j2 H2):Ext j H j2 H2:=⟨fun n x e=>b.pre n x (a.pre n x e),a.imm.trans b.imm⟩
theorem Ext.same {j:List Addr} {H H':Hp} (S:Yx H H'):Ext j H j H':=⟨fun _ _ e=>e,xS.same S⟩
noncomputable def XS (H:Hp) (q:Str) (c:Addr):Prop:=∃(oc:Obj) (fs:Array Value) (t:Tok),H c=some (.frz oc (.own 0))∧oc.data= .fields fs∧fs[1]? =some (.str q t)
structure UG (H:Hp) (L:yY) (f:Addr) (vs:List V):Prop where
 ex:∃(clos:List (Str×Addr)) (pm ctv:Value) (c:Addr),H f=some (.frz (PySem.W.kla_obj "<lambda>" L.q L.par L.body L.sc clos pm c ctv) (.own 0))∧XS H L.q c∧
  (∀(i:Nat) x v,L.fr[i]? =some x→vs[i]? =some v→∃(a:Addr) (o:Obj) (u:Value),clos.lookup x=some a∧H a=some (.frz o (.own 0))∧o.data= .cell (some u)∧zQ v u)∧
  (∀x y a,clos.lookup x=some a→clos.lookup y=some a→x=y)∧(∀y∈L.sc.names,y.2= .free→∃a,clos.lookup y.1=some a)∧
  ∀x a,clos.lookup x=some a→∃(o:Obj) (u:Option Value),H a=some (.frz o (.own 0))∧o.data= .cell u
theorem XS.mono {H H':Hp} {q:Str} {c:Addr} (k:xS H H') (h:XS H q c):XS H' q c:=by
 obtain ⟨oc,fs,t,e,r⟩:=h
 exact ⟨oc,fs,t,k _ _ e rfl,r⟩
theorem UG.mono {H H':Hp} {L:yY} {f:Addr} {vs:List V} (k:xS H H') (h:UG H L f vs):UG H' L f vs:=by
 obtain ⟨clos,pm,ctv,c,h1,h2,h3,h4,h5,h6⟩:=h.ex
 refine ⟨clos,pm,ctv,c,k _ _ h1 rfl,h2.mono k,fun i x v e1 e2=> ?_,h4,h5,fun x a e=> ?_⟩
 ·obtain ⟨a,o,u,e3,e4,r⟩:=h3 i x v e1 e2
  exact ⟨a,o,u,e3,k _ _ e4 rfl,r⟩
 ·obtain ⟨o,u,e3,r⟩:=h6 x a e
  exact ⟨o,u,k _ _ e3 rfl,r⟩
mutual
inductive Xis (K:PySem.W.Frag) (j:List Addr) (H:Hp):Xv→V→Prop where
 |non:Xis K j H .non .non
 |bl (b:Bool):Xis K j H (.bl b) (.bl b)
 |int (i:Int):Xis K j H (.int i) (.int i)
 |str (x:Str):Xis K j H (.str x) (.str x)
 |tup {a:Addr} {vs:List V} {xs:List Xv}:H a=some (.tup vs)→zM K j H xs vs→Xis K j H (.tup xs) (.ref a)
 |ct {a:Addr} {vs:List V} {xs:List Xv}:(∀H,SqT K H a vs)→zM K j H xs vs→Xis K j H (.ct xs) (.ref a)
 |ref {n:Nat} {a:Addr}:j[n]? =some a→Xis K j H (.ref n) (.ref a)
 |lam {f:Addr} {vs:List V} {L:yY} {xs:List Xv}:UG H L f vs→zM K j H xs vs→Xis K j H (.lam L xs) (.ref f)
inductive zM (K:PySem.W.Frag) (j:List Addr) (H:Hp):List Xv→List V→Prop where
 |nil:zM K j H [] []
 |cons {x:Xv} {v:V} {xs:List Xv} {vs:List V}:Xis K j H x v→zM K j H xs vs→zM K j H (x::xs) (v::vs)
end
mutual
theorem Xis.mono {K:PySem.W.Frag} {j j':List Addr} {H H':Hp} (S:Ext j H j' H'):∀{x:Xv} {v:V},Xis K j H x v→Xis K j' H' x v
 |_,_,.non=> .non
 |_,_,.bl b=> .bl b
 |_,_,.int i=> .int i
 |_,_,.str x=> .str x
 |_,_,.tup h l=> .tup (S.imm _ _ h rfl) (zM.mono S l)
 |_,_,.ct h l=> .ct h (zM.mono S l)
 |_,_,.ref h=> .ref (S.pre _ _ h)
 |_,_,.lam h l=> .lam (h.mono S.imm) (zM.mono S l)
theorem zM.mono {K:PySem.W.Frag} {j j':List Addr} {H H':Hp} (S:Ext j H j' H'):∀{xs:List Xv} {vs:List V},zM K j H xs vs→zM K j' H' xs vs
 |_,_,.nil=> .nil
 |_,_,.cons h l=> .cons (Xis.mono S h) (zM.mono S l)
end
section
variable {K:PySem.W.Frag} {j:List Addr} {H:Hp}
theorem zM.len:∀{xs:List Xv} {vs:List V},zM K j H xs vs→vs.length=xs.length
 |_,_,.nil=>rfl
 |_,_,.cons _ l=>by rw [List.length_cons,List.length_cons,l.len]
theorem zM.get:∀{xs:List Xv} {vs:List V} {i:Nat} {x:Xv},zM K j H xs vs→xs[i]? =some x→∃v,vs[i]? =some v∧Xis K j H x v
 |_,_,_,_,.nil,e=>by simp at e
 |_,_,0,_,.cons h _,e=>by simp at e;subst e;exact ⟨_,rfl,h⟩
 |_,_,i+1,x,.cons _ l,e=>by
  obtain ⟨v,e1,e2⟩:=l.get (i:=i) (x:=x) (by simpa using e)
  exact ⟨v,by simpa using e1,e2⟩
theorem zM.append:∀{xs ys:List Xv} {vs ws:List V},zM K j H xs vs→zM K j H ys ws→zM K j H (xs++ys) (vs++ws)
 |_,_,_,_,.nil,h=>h
 |_,_,_,_,.cons h l,k=> .cons h (l.append k)
theorem zM.one {v:V} {x:Xv} (h:Xis K j H x v):zM K j H [x] [v]:= .cons h .nil
theorem zM.take:∀{xs:List Xv} {vs:List V} (n:Nat),zM K j H xs vs→zM K j H (xs.take n) (vs.take n)
 |_,_,0,_=> .nil
 |_,_,_+1,.nil=> .nil
 |_,_,n+1,.cons h l=> .cons h (l.take n)
theorem zM.drop:∀{xs:List Xv} {vs:List V} (n:Nat),zM K j H xs vs→zM K j H (xs.drop n) (vs.drop n)
 |_,_,0,h=>h
 |_,_,_+1,.nil=> .nil
 |_,_,n+1,.cons h l=>l.drop n
theorem zM.ints:∀ns:List Int,zM K j H (ns.map Xv.int) (ns.map V.int)
 |[]=> .nil
 |n::r=> .cons (.int n) (zM.ints r)
theorem zM.reverse:∀{xs:List Xv} {vs:List V},zM K j H xs vs→zM K j H xs.reverse vs.reverse
 |_,_,.nil=> .nil
 |_,_,.cons h l=>by
  rw [List.reverse_cons,List.reverse_cons]
  exact l.reverse.append (.one h)
theorem zM.dropLast {xs:List Xv} {vs:List V} (h:zM K j H xs vs):zM K j H xs.dropLast vs.dropLast:=by
 rw [List.dropLast_eq_take,List.dropLast_eq_take,h.len]
 exact h.take _
theorem zM.at_ {xs:List Xv} {vs:List V} {i:Int} {x:Xv} (h:zM K j H xs vs) (e:atI xs i=some x):∃v,atI vs i=some v∧Xis K j H x v:=by
 unfold atI at e ⊢
 rw [h.len]
 cases e1:ixN xs.length i with
 |none=>rw [e1] at e;cases e
 |some m=>
  rw [e1] at e
  obtain ⟨v,e3,e4⟩:=h.get (i:=m) e
  exact ⟨v,e3,e4⟩
theorem Xis.int_inv {v:V} {i:Int} (h:Xis K j H (.int i) v):v= .int i:=by cases h;rfl
theorem Xis.bl_inv {v:V} {b:Bool} (h:Xis K j H (.bl b) v):v= .bl b:=by cases h;rfl
theorem Xis.str_inv {v:V} {b:Str} (h:Xis K j H (.str b) v):v= .str b:=by cases h;rfl
theorem Xis.non_inv {v:V} (h:Xis K j H .non v):v= .non:=by cases h;rfl
theorem Xis.ref_inv {v:V} {n:Nat} (h:Xis K j H (.ref n) v):∃a,v= .ref a∧j[n]? =some a:=by cases h with|ref e=>exact ⟨_,rfl,e⟩
theorem Xis.tup_inv {v:V} {xs:List Xv} (h:Xis K j H (.tup xs) v):∃a vs,v= .ref a∧H a=some (.tup vs)∧zM K j H xs vs:=by cases h with|tup a b=>exact ⟨_,_,rfl,a,b⟩
theorem zM.cons_inv {vs:List V} {x:Xv} {xs:List Xv} (h:zM K j H (x::xs) vs):∃v r,vs=v::r∧Xis K j H x v∧zM K j H xs r:=by cases h with|cons a b=>exact ⟨_,_,rfl,a,b⟩
theorem zM.nil_inv {vs:List V} (h:zM K j H [] vs):vs=[]:=by cases h;rfl
theorem zM.d1 {vs:List V} {a:Xv} (h:zM K j H [a] vs):∃x,vs=[x]∧Xis K j H a x:=by
 obtain ⟨x,r,rfl,hx,h⟩:=h.cons_inv
 obtain rfl:=h.nil_inv
 exact ⟨x,rfl,hx⟩
theorem zM.d2 {vs:List V} {a b:Xv} (h:zM K j H [a,b] vs):∃x y,vs=[x,y]∧Xis K j H a x∧Xis K j H b y:=by
 obtain ⟨x,r,rfl,hx,h⟩:=h.cons_inv
 obtain ⟨y,rfl,hy⟩:=h.d1
 exact ⟨x,y,rfl,hx,hy⟩
noncomputable def Xv.tupOf:Xv→Option (List Xv)
 | .tup xs=>some xs
 | .ct xs=>some xs
 |_=>none
theorem Xis.tupO {v:V} {x:Xv} {xs:List Xv} (h:Xis K j H x v) (e:x.tupOf=some xs):∃a vs,v= .ref a∧SqT K H a vs∧zM K j H xs vs:=by
 cases h with
 |tup h l=>simp [Xv.tupOf] at e;subst e;exact ⟨_,_,rfl,SqT.of h,l⟩
 |ct h l=>simp [Xv.tupOf] at e;subst e;exact ⟨_,_,rfl,h H,l⟩
 |_=>simp [Xv.tupOf] at e
end
inductive KX {κ:Type} (K:PySem.W.Frag) (j:List Addr) (H:Hp):List (κ×Xv)→List (κ×V)→Prop where
 |nil:KX K j H [] []
 |cons {k:κ} {x:Xv} {v:V} {r:List (κ×Xv)} {rs:List (κ×V)}:Xis K j H x v→KX K j H r rs→KX K j H ((k,x)::r) ((k,v)::rs)
theorem KX.mono {κ:Type} {K:PySem.W.Frag} {j j':List Addr} {H H':Hp} (S:Ext j H j' H'):∀{xs:List (κ×Xv)} {vs:List (κ×V)},KX K j H xs vs→KX K j' H' xs vs
 |_,_,.nil=> .nil
 |_,_,.cons h l=> .cons (h.mono S) (l.mono S)
mutual
noncomputable def YB:Xv→Option NK
 | .int i=>some (.int i)
 | .str x=>some (.str x)
 | .tup l=>(YO l).map .tup
 | .ct l=>(YO l).map .tup
 | .non=>none
 | .bl _=>none
 | .ref _=>none
 | .lam _ _=>none
noncomputable def YO:List Xv→Option (List NK)
 |[]=>some []
 |x::r=>(YB x).bind fun k=>(YO r).map (k:: ·)
end
inductive NX (K:PySem.W.Frag) (j:List Addr) (H:Hp):List (NK×Xv×Xv)→List (NK×Addr×V)→Prop where
 |nil:NX K j H [] []
 |cons {k:NK} {x y:Xv} {b:Addr} {v:V} {r:List (NK×Xv×Xv)} {rs:List (NK×Addr×V)}:YB x=some k∧wZ k≤8→Xis K j H x (.ref b)→Xis K j H y v→NX K j H r rs→NX K j H ((k,x,y)::r) ((k,b,v)::rs)
theorem NX.mono {K:PySem.W.Frag} {j j':List Addr} {H H':Hp} (S:Ext j H j' H'):∀{xs:List (NK×Xv×Xv)} {vs:List (NK×Addr×V)},NX K j H xs vs→NX K j' H' xs vs
 |_,_,.nil=> .nil
 |_,_,.cons e h1 h2 l=> .cons e (h1.mono S) (h2.mono S) (l.mono S)
noncomputable def UH (K:PySem.W.Frag) (j:List Addr) (H:Hp) (a:Addr):Ce→Prop
 | .lst xs=>∃vs,H a=some (.lst vs)∧zM K j H xs vs
 | .frz xs=>∃vs,((∃o,H a=some (.frz o (.lst vs)))∨∀H,SqX K H a vs)∧zM K j H xs vs
 | .dk kvs=>∃ks:List (Key×V),H a=some (.dK ks)∧KX K j H kvs ks
 | .dt kvs=>∃ks:List (List Key×V),H a=some (.dT ks)∧KX K j H kvs ks
 | .ins nm fs=>∃(C dx:Addr) (vs:List (Str×V)),PySem.W.nsIn K mainGlobals nm=some (some (.ref C))∧H a=some (.ins C dx vs)∧KX K j H fs vs
 | .fdk kvs=>∃(o:Obj) (ks:List (Key×V)),H a=some (.frz o (.dK ks))∧KX K j H kvs ks
 | .dn kvs=>∃ks:List (NK×Addr×V),H a=some (.dN ks)∧NX K j H kvs ks
 | .exc nm=>∃C:Addr,PySem.W.nsIn K mainGlobals nm=some (some (.ref C))∧H a=some (ziv a (.ref C))
 | .tab t=>∃(ps:Array Value) (d:Addr),H a=some (.tbl ps)∧Zv K t=some (d,a)∧TriplesOk ps.toList∧∀pos cv,codeAmong pos ps.toList=some cv→∃c,cv= .ref c∧XS H t.q c
theorem UH.mu {K:PySem.W.Frag} {j:List Addr} {H:Hp} {a:Addr}:∀{c:Ce},UH K j H a c→c.fz=false→∃o,H a=some o∧o.mu=true
 | .lst _,⟨_,e,_⟩,_=>⟨_,e,rfl⟩
 | .frz _,_,z=>by cases z
 | .dk _,⟨_,e,_⟩,_=>⟨_,e,rfl⟩
 | .dt _,⟨_,e,_⟩,_=>⟨_,e,rfl⟩
 | .ins _ _,⟨_,_,_,_,e,_⟩,_=>⟨_,e,rfl⟩
 | .fdk _,_,z=>by cases z
 | .dn _,⟨_,e,_⟩,_=>⟨_,e,rfl⟩
 | .exc _,_,z=>by cases z
 | .tab _,⟨_,_,e,_⟩,_=>⟨_,e,rfl⟩
theorem UH.mono {K:PySem.W.Frag} {j j':List Addr} {H H':Hp} {a:Addr} (S:Ext j H j' H'):∀{c:Ce},(c.fz=false→H' a=H a)→UH K j H a c→UH K j' H' a c
 | .lst _,h,⟨_,e,l⟩=>⟨_,(h rfl).trans e,l.mono S⟩
 | .frz _,_,⟨_,.inl ⟨o,e⟩,l⟩=>⟨_,.inl ⟨o,S.imm _ _ e rfl⟩,l.mono S⟩
 | .frz _,_,⟨_,.inr e,l⟩=>⟨_,.inr e,l.mono S⟩
 | .dk _,h,⟨_,e,l⟩=>⟨_,(h rfl).trans e,l.mono S⟩
 | .dt _,h,⟨_,e,l⟩=>⟨_,(h rfl).trans e,l.mono S⟩
 | .ins _ _,h,⟨_,_,_,n,e,l⟩=>⟨_,_,_,n,(h rfl).trans e,l.mono S⟩
 | .fdk _,_,⟨_,_,e,l⟩=>⟨_,_,S.imm _ _ e rfl,l.mono S⟩
 | .dn _,h,⟨_,e,l⟩=>⟨_,(h rfl).trans e,l.mono S⟩
 | .exc _,_,⟨C,n,e⟩=>⟨C,n,S.imm _ _ e rfl⟩
 | .tab _,h,⟨ps,d,e,x,t,r⟩=>⟨ps,d,(h rfl).trans e,x,t,fun pos cv q=>by
  obtain ⟨c,e1,e2⟩:=r pos cv q
  exact ⟨c,e1,e2.mono S.imm⟩⟩
structure Fm where
 H0:Hp
 j0:List Addr
 S0:Sto
structure En (K:PySem.W.Frag) (F:Fm) (j:List Addr) (H:Hp) (σ:St) (ρ:Rho) (S:Sto):Prop where
 len:σ.length=ρ.length
 slot:∀(i:Nat) x,ρ[i]? =some (some x)→∃v,σ[i]? =some (some v)∧Xis K j H x v
 jl:j.length=S.length
 inj:∀(n m:Nat) a c d,j[n]? =some a→j[m]? =some a→S[n]? =some c→S[m]? =some d→c.fz=false→d.fz=false→n=m
 cel:∀(n:Nat) c a,S[n]? =some c→j[n]? =some a→UH K j H a c
 ext:Ext F.j0 F.H0 j H
 old:∀(n:Nat) c,F.S0[n]? =some c→∃c',S[n]? =some c'∧(c'.fz=false→c.fz=false)∧(c.fz=true→c'=c)
 l0:F.j0.length=F.S0.length
 keep:∀b u,F.H0 b=some u→H b=some u∨∃(n:Nat) (c:Ce),F.j0[n]? =some b∧F.S0[n]? =some c∧c.fz=false
 fresh:∀(n:Nat) a,F.j0.length≤n→j[n]? =some a→F.H0 a=none
 dom:∀b,H b=none→F.H0 b=none
section
variable {K:PySem.W.Frag} {F:Fm} {j j':List Addr} {H H':Hp} {σ σ':St} {ρ ρ':Rho} {S S':Sto} {v:V} {x:Xv} {a p:Addr} {o:HO} {i n:Nat} {c c':Ce}
theorem En.heap (E:En K F j H σ ρ S) (Sm:Yx H H'):En K F j H' σ ρ S:=by
 have X:Ext j H j H':=Ext.same Sm
 refine ⟨E.len,fun i x e=> ?_,E.jl,E.inj,fun n c a e1 e2=> ?_,E.ext.trans X,E.old,E.l0,fun b u e=> ?_,E.fresh,fun b e=>E.dom b ?_⟩
 ·obtain ⟨v,e1,e2⟩:=E.slot i x e
  exact ⟨v,e1,e2.mono X⟩
 ·have h:=E.cel n c a e1 e2
  refine h.mono X fun z=> ?_
  obtain ⟨o,e,_⟩:=h.mu z
  exact (Sm _ _ e).trans e.symm
 ·rcases E.keep b u e with h|h
  ·exact .inl (Sm _ _ h)
  ·exact .inr h
 ·cases e':H b with
  |none=>rfl
  |some u=>rw [Sm b u e'] at e;cases e
theorem En.new (E:En K F j H σ ρ S) (h:H p=none):En K F j (upd H p o) σ ρ S∧Ext j H j (upd H p o):=⟨E.heap (wD h),Ext.same (wD h)⟩
theorem En.cell (E:En K F j H σ ρ S) (h:H p=none) (hc:UH K (j++[p]) (upd H p o) p c):En K F (j++[p]) (upd H p o) σ ρ (S++[c])∧Ext j H (j++[p]) (upd H p o):=by
 have X:Ext j H (j++[p]) (upd H p o):=⟨fun n a e=>by rw [List.getElem?_append_left (List.getElem?_eq_some_iff.1 e).1];exact e,xS.same (wD h)⟩
 have jat:∀{n:Nat} {a:Addr},(j++[p])[n]? =some a→j[n]? =some a∨(n=j.length∧a=p):=fun {n a} e=>by
  by_cases hn:n<j.length
  ·rw [List.getElem?_append_left hn] at e;exact .inl e
  ·rw [List.getElem?_append_right (by omega)] at e
   cases hm:n-j.length with
   |zero=>rw [hm] at e;simp at e;exact .inr ⟨by omega,e.symm⟩
   |succ m=>rw [hm] at e;simp at e
 have sat:∀{n:Nat} {d:Ce},(S++[c])[n]? =some d→S[n]? =some d∨(n=S.length∧d=c):=fun {n d} e=>by
  by_cases hn:n<S.length
  ·rw [List.getElem?_append_left hn] at e;exact .inl e
  ·rw [List.getElem?_append_right (by omega)] at e
   cases hm:n-S.length with
   |zero=>rw [hm] at e;simp at e;exact .inr ⟨by omega,e.symm⟩
   |succ m=>rw [hm] at e;simp at e
 have lt:∀{n:Nat} {d:Ce},S[n]? =some d→n<S.length:=fun e=>(List.getElem?_eq_some_iff.1 e).1
 have mine:∀{n:Nat} {a:Addr} {d:Ce},j[n]? =some a→S[n]? =some d→d.fz=false→a≠p:=fun {n a d} e1 e2 z q=>by
  subst q
  obtain ⟨o',e,_⟩:=(E.cel n d a e2 e1).mu z
  rw [h] at e;cases e
 refine ⟨⟨E.len,fun i x e=> ?_,by simp [E.jl],fun n m a c1 c2 e1 e2 e3 e4 z1 z2=> ?_,fun n d a e1 e2=> ?_,E.ext.trans X,fun n d e=> ?_,E.l0,fun b u e=> ?_,fun n a hn e=> ?_,fun b e=> ?_⟩,X⟩
 ·obtain ⟨v,e1,e2⟩:=E.slot i x e
  exact ⟨v,e1,e2.mono X⟩
 ·rcases sat e3 with e3|⟨e3,_⟩
  ·have h1:j[n]? =some a:=by
    rcases jat e1 with h1|⟨h1,_⟩
    ·exact h1
    ·have:=lt e3;rw [E.jl] at h1;omega
   rcases sat e4 with e4|⟨e4,_⟩
   ·have h2:j[m]? =some a:=by
     rcases jat e2 with h2|⟨h2,_⟩
     ·exact h2
     ·have:=lt e4;rw [E.jl] at h2;omega
    exact E.inj n m a c1 c2 h1 h2 e3 e4 z1 z2
   ·have:a=p:=by
     rcases jat e2 with h2|⟨_,h2⟩
     ·have:=(List.getElem?_eq_some_iff.1 h2).1;rw [E.jl] at this;omega
     ·exact h2
    exact absurd this (mine h1 e3 z1)
  ·have:a=p:=by
    rcases jat e1 with h2|⟨_,h2⟩
    ·have:=(List.getElem?_eq_some_iff.1 h2).1;rw [E.jl] at this;omega
    ·exact h2
   rcases sat e4 with e4|⟨e4,_⟩
   ·have h2:j[m]? =some a:=by
     rcases jat e2 with h2|⟨h2,_⟩
     ·exact h2
     ·have:=lt e4;rw [E.jl] at h2;omega
    exact absurd this (mine h2 e4 z2)
   ·rw [e3,e4]
 ·rcases sat e1 with e1|⟨e1,rfl⟩
  ·have h2:j[n]? =some a:=by
    rcases jat e2 with h2|⟨h2,_⟩
    ·exact h2
    ·have:=lt e1;rw [E.jl] at h2;omega
   have hh:=E.cel n d a e1 h2
   exact hh.mono X fun z=>zm (mine h2 e1 z)
  ·have:a=p:=by
    rcases jat e2 with h2|⟨_,h2⟩
    ·have:=(List.getElem?_eq_some_iff.1 h2).1;rw [E.jl] at this;omega
    ·exact h2
   subst this
   exact hc
 ·obtain ⟨d',e1,e2⟩:=E.old n d e
  exact ⟨d',by rw [List.getElem?_append_left (lt e1)];exact e1,e2⟩
 ·rcases E.keep b u e with h'|h'
  ·exact .inl (wD h _ _ h')
  ·exact .inr h'
 ·rcases jat e with e|⟨_,rfl⟩
  ·exact E.fresh n a hn e
  ·exact E.dom _ h
 ·refine E.dom b ?_
  cases e':H b with
  |none=>rfl
  |some u=>rw [wD h b u e'] at e;cases e
theorem En.writeF (E:En K F j H σ ρ S) (hs:S[n]? =some c) (z:c.fz=false) (hj:j[n]? =some a) (hc:∀X:Ext j H j (upd H a o),UH K j (upd H a o) a c'):En K F j (upd H a o) σ ρ (S.set n c')∧Ext j H j (upd H a o):=by
 obtain ⟨o0,h0,m0⟩:=(E.cel n c a hs hj).mu z
 have X:Ext j H j (upd H a o):=⟨fun _ _ e=>e,fun b u e m=>by
  have:b≠a:=fun q=>by subst q;rw [h0] at e;cases e;rw [m] at m0;cases m0
  rw [zm this];exact e⟩
 have sat:∀{m:Nat} {d:Ce},(S.set n c')[m]? =some d→(m=n∧d=c')∨(m≠n∧S[m]? =some d):=fun {m d} e=>by
  rw [List.getElem?_set] at e
  split at e
  ·rename_i q
   split at e
   ·cases e;exact .inl ⟨q.symm,rfl⟩
   ·cases e
  ·rename_i q
   exact .inr ⟨fun r=>q r.symm,e⟩
 have fzq:∀{m:Nat} {d:Ce},(S.set n c')[m]? =some d→∃d',S[m]? =some d'∧(d.fz=false→d'.fz=false):=fun {m d} e=>by
  rcases sat e with ⟨rfl,rfl⟩|⟨_,e⟩
  ·exact ⟨c,hs,fun _=>z⟩
  ·exact ⟨d,e,fun y=>y⟩
 refine ⟨⟨E.len,fun i x e=> ?_,by simp [E.jl],fun k m b c1 c2 e1 e2 e3 e4 z1 z2=> ?_,fun m d b e1 e2=> ?_,E.ext.trans X,fun m d e=> ?_,E.l0,fun b u e=> ?_,E.fresh,fun b e=> ?_⟩,X⟩
 ·obtain ⟨v,e1,e2⟩:=E.slot i x e
  exact ⟨v,e1,e2.mono X⟩
 ·obtain ⟨d1,f1,g1⟩:=fzq e3
  obtain ⟨d2,f2,g2⟩:=fzq e4
  exact E.inj k m b d1 d2 e1 e2 f1 f2 (g1 z1) (g2 z2)
 ·rcases sat e1 with ⟨rfl,rfl⟩|⟨q,e1⟩
  ·rw [hj] at e2
   cases e2
   exact hc X
  ·refine (E.cel m d b e1 e2).mono X fun zd=>zm fun r=> ?_
   subst r
   exact q (E.inj m n b d c e2 hj e1 hs zd z)
 ·obtain ⟨d',e1,e2,e3⟩:=E.old m d e
  by_cases q:m=n
  ·subst q
   rw [hs] at e1
   cases e1
   refine ⟨c',by rw [List.getElem?_set,if_pos rfl,if_pos (List.getElem?_eq_some_iff.1 hs).1],fun _=>e2 z,fun y=> ?_⟩
   rw [e2 z] at y
   cases y
  ·exact ⟨d',by rw [List.getElem?_set,if_neg (fun r=>q r.symm)];exact e1,e2,e3⟩
 ·by_cases q:b=a
  ·subst q
   by_cases hn:n<F.j0.length
   ·have hj0:F.j0[n]? =some b:=by
     have e1:F.j0[n]? =some F.j0[n]:=List.getElem?_eq_getElem hn
     have e2:=E.ext.pre n _ e1
     rw [hj] at e2
     cases e2
     exact e1
    have hn2:n<F.S0.length:=by rw [←E.l0];exact hn
    obtain ⟨d',f1,f2,_⟩:=E.old n _ (List.getElem?_eq_getElem hn2)
    rw [hs] at f1
    cases f1
    exact .inr ⟨n,_,hj0,List.getElem?_eq_getElem hn2,f2 z⟩
   ·rw [E.fresh n b (by omega) hj] at e
    cases e
  ·rcases E.keep b u e with h|h
   ·exact .inl (by rw [zm q];exact h)
   ·exact .inr h
 ·by_cases q:b=a
  ·subst q;rw [zw] at e;cases e
  ·rw [zm q] at e;exact E.dom b e
theorem En.write (E:En K F j H σ ρ S) (hs:S[n]? =some c) (z:c.fz=false) (hj:j[n]? =some a) (_:c'.fz=false) (hc:∀X:Ext j H j (upd H a o),UH K j (upd H a o) a c'):En K F j (upd H a o) σ ρ (S.set n c')∧Ext j H j (upd H a o):=E.writeF hs z hj hc
theorem En.slots (E:En K F j H σ ρ S) (hl:σ'.length=ρ'.length) (h:∀(i:Nat) x,ρ'[i]? =some (some x)→∃v,σ'[i]? =some (some v)∧Xis K j H x v):En K F j H σ' ρ' S:=
 ⟨hl,h,E.jl,E.inj,E.cel,E.ext,E.old,E.l0,E.keep,E.fresh,E.dom⟩
theorem En.set (E:En K F j H σ ρ S) (h:Xis K j H x v):En K F j H (σ.set i (some v)) (ρ.set i (some x)) S:=E.slots (by simp [E.len]) fun k y e=>by
 rw [List.getElem?_set] at e ⊢
 split at e
 ·rename_i q
  subst q
  split at e
  ·rename_i hl
   cases e
   rw [if_pos rfl,if_pos (by rw [E.len];exact hl)]
   exact ⟨v,rfl,h⟩
  ·cases e
 ·rename_i q
  rw [if_neg q]
  exact E.slot k y e
theorem En.enter (E:En K F j H σ ρ S) (hl:σ'.length=ρ'.length) (h:∀(i:Nat) x,ρ'[i]? =some (some x)→∃v,σ'[i]? =some (some v)∧Xis K j H x v):En K ⟨H,j,S⟩ j H σ' ρ' S:=
 ⟨hl,h,E.jl,E.inj,E.cel,Ext.refl,fun n c e=>⟨c,e,fun z=>z,fun _=>rfl⟩,E.jl,fun b u e=> .inl e,fun n a hn e=>by have:=(List.getElem?_eq_some_iff.1 e).1;dsimp only at hn;omega,fun b e=>e⟩
theorem En.leave (E:En K F j H σ ρ S) (X:En K ⟨H,j,S⟩ j' H' σ' ρ' S'):En K F j' H' σ ρ S'∧Ext j H j' H':=by
 have e:Ext j H j' H':=X.ext
 refine ⟨⟨E.len,fun i x h=> ?_,X.jl,X.inj,X.cel,E.ext.trans e,fun n c h=> ?_,E.l0,fun b u h=> ?_,fun n a hn h=> ?_,fun b h=>E.dom b (X.dom b h)⟩,e⟩
 ·obtain ⟨v,e1,e2⟩:=E.slot i x h
  exact ⟨v,e1,e2.mono e⟩
 ·obtain ⟨c1,e1,e2,e3⟩:=E.old n c h
  obtain ⟨c2,f1,f2,f3⟩:=X.old n c1 e1
  refine ⟨c2,f1,fun z=>e2 (f2 z),fun z=> ?_⟩
  obtain rfl:=e3 z
  exact f3 z
 ·rcases E.keep b u h with h1|h1
  ·rcases X.keep b u h1 with h2|⟨n,c,h2,h3,h4⟩
   ·exact .inl h2
   ·by_cases hn:n<F.j0.length
    ·have e1:F.j0[n]? =some F.j0[n]:=List.getElem?_eq_getElem hn
     have e2:=E.ext.pre n _ e1
     have h2':j[n]? =some b:=h2
     rw [h2'] at e2
     cases e2
     have hn2:n<F.S0.length:=by rw [←E.l0];exact hn
     obtain ⟨c1,f1,f2,_⟩:=E.old n _ (List.getElem?_eq_getElem hn2)
     have h3':S[n]? =some c:=h3
     rw [h3'] at f1
     cases f1
     exact .inr ⟨n,_,e1,List.getElem?_eq_getElem hn2,f2 h4⟩
    ·have:=E.fresh n b (by omega) h2
     rw [this] at h;cases h
  ·exact .inr h1
 ·by_cases hm:n<j.length
  ·have e1:j[n]? =some j[n]:=List.getElem?_eq_getElem hm
   have e2:=e.pre n _ e1
   rw [h] at e2
   cases e2
   exact E.fresh n _ hn e1
  ·exact E.dom a (X.fresh n a (by dsimp only;omega) h)
theorem En.grow {k:Nat} (E:En K F j H σ ρ S):En K F j H (σ++List.replicate k none) (ρ++List.replicate k none) S:=E.slots (by simp [E.len]) fun i x e=>by
 by_cases hi:i<ρ.length
 ·rw [List.getElem?_append_left hi] at e
  rw [List.getElem?_append_left (by rw [E.len];exact hi)]
  exact E.slot i x e
 ·rw [List.getElem?_append_right (by omega),List.getElem?_replicate] at e
  split at e
  ·cases e
  ·cases e
end
end L2
namespace L2
open PySem
inductive Rs (α:Type) where
 |ok (a:α) (S:Sto)
 |ex (c:Str) (S:Sto)
noncomputable abbrev TwE:=Rho→Sto→Option (Rs Xv)
noncomputable abbrev TwT:=Rho→Sto→Option (Rs Bool)
noncomputable abbrev TwL:=Rho→Sto→Option (Rs (List Xv))
noncomputable abbrev TwO:=Rho→Sto→Option (Rs (Option Int))
noncomputable abbrev TwG:=Xv→Rho→Sto→Option (Rs Rho)
noncomputable abbrev zks:=List Xv→Rho→Sto→Option (Rs Rho)
noncomputable abbrev TwI:=Rho→Sto→Option (Rs (Sto→Option (List Xv)))
inductive Fl where
 |nx (ρ:Rho) (S:Sto)
 |bk (ρ:Rho) (S:Sto)
 |ct (ρ:Rho) (S:Sto)
 |rt (x:Xv) (S:Sto)
 |ex (c:Str) (S:Sto)
noncomputable abbrev TwS:=Rho→Sto→Option Fl
noncomputable def rb {α β:Type} (m:Option (Rs α)) (f:α→Sto→Option (Rs β)):Option (Rs β):=match m with
 |some (.ok a S)=>f a S
 |some (.ex c S)=>some (.ex c S)
 |none=>none
noncomputable def sb {α:Type} (m:Option (Rs α)) (f:α→Sto→Option Fl):Option Fl:=match m with
 |some (.ok a S)=>f a S
 |some (.ex c S)=>some (.ex c S)
 |none=>none
theorem zl {α β:Type} {m:Option (Rs α)} {f:α→Sto→Option (Rs β)} {r:Rs β} (h:rb m f=some r):(∃a S,m=some (.ok a S)∧f a S=some r)∨∃c S,m=some (.ex c S)∧r= .ex c S:=by
 unfold rb at h
 split at h
 ·exact .inl ⟨_,_,rfl,h⟩
 ·cases h;exact .inr ⟨_,_,rfl,rfl⟩
 ·cases h
theorem xw {α:Type} {m:Option (Rs α)} {f:α→Sto→Option Fl} {r:Fl} (h:sb m f=some r):(∃a S,m=some (.ok a S)∧f a S=some r)∨∃c S,m=some (.ex c S)∧r= .ex c S:=by
 unfold sb at h
 split at h
 ·exact .inl ⟨_,_,rfl,h⟩
 ·cases h;exact .inr ⟨_,_,rfl,rfl⟩
 ·cases h
noncomputable def PX (K:PySem.W.Frag) (F:Fm) (j:List Addr) (H:Hp) (E:XK) (c:Str) (S':Sto):Prop:=
 ∀j' H' σ' ρ' C,Ext j H j' H'→En K F j' H' σ' ρ' S'→PySem.W.nsIn K mainGlobals c=some (some (.ref C))→E (.ref C) none H'
theorem PX.mono {K:PySem.W.Frag} {F:Fm} {j j1:List Addr} {H H1:Hp} {E:XK} {c:Str} {S':Sto} (h:PX K F j H E c S') (e:Ext j H j1 H1):PX K F j1 H1 E c S':=fun j' H' σ' ρ' C x y z=>h j' H' σ' ρ' C (e.trans x) y z
noncomputable def Po {α:Type} (K:PySem.W.Frag) (F:Fm) (j:List Addr) (H:Hp) (σ:St) (ρ:Rho) (E:XK) (P:α→List Addr→Hp→Prop):Rs α→Prop
 | .ok a S'=>∀j' H',Ext j H j' H'→En K F j' H' σ ρ S'→P a j' H'
 | .ex c S'=>PX K F j H E c S'
theorem Po.step {α:Type} {K:PySem.W.Frag} {F:Fm} {j j1:List Addr} {H H1:Hp} {σ:St} {ρ:Rho} {E:XK} {P:α→List Addr→Hp→Prop}:∀{r:Rs α},Po K F j H σ ρ E P r→Ext j H j1 H1→Po K F j1 H1 σ ρ E P r
 | .ok a S',h,e=>fun j' H' x y=>h j' H' (e.trans x) y
 | .ex c S',h,e=>PX.mono h e
noncomputable abbrev PoV (K:PySem.W.Frag) (Q:VK):Xv→List Addr→Hp→Prop:=fun x j' H'=>∀v,Xis K j' H' x v→Q v H'
noncomputable def RE (K:PySem.W.Frag) (E:XK) (t:TE) (m:TwE):Prop:=∀{F:Fm} {j:List Addr} {σ:St} {H:Hp} {ρ:Rho} {S:Sto} {r:Rs Xv} {Q:VK},En K F j H σ ρ S→m ρ S=some r→Po K F j H σ ρ E (PoV K Q) r→t σ H Q
noncomputable def RT (K:PySem.W.Frag) (E:XK) (t:TT) (m:TwT):Prop:=∀{F:Fm} {j:List Addr} {σ:St} {H:Hp} {ρ:Rho} {S:Sto} {r:Rs Bool} {Q:Bool→Hp→Prop},En K F j H σ ρ S→m ρ S=some r→Po K F j H σ ρ E (fun b _ H'=>Q b H') r→t σ H Q
noncomputable def RL (K:PySem.W.Frag) (E:XK) (t:TA) (m:TwL):Prop:=∀{F:Fm} {j:List Addr} {σ:St} {H:Hp} {ρ:Rho} {S:Sto} {r:Rs (List Xv)} {Q:List V→Hp→Prop},En K F j H σ ρ S→m ρ S=some r→Po K F j H σ ρ E (fun xs j' H'=>∀vs,zM K j' H' xs vs→Q vs H') r→t σ H Q
noncomputable def RO (K:PySem.W.Frag) (E:XK) (t:TO) (m:TwO):Prop:=∀{F:Fm} {j:List Addr} {σ:St} {H:Hp} {ρ:Rho} {S:Sto} {r:Rs (Option Int)} {Q:Option Int→Hp→Prop},En K F j H σ ρ S→m ρ S=some r→Po K F j H σ ρ E (fun o _ H'=>Q o H') r→t σ H Q
noncomputable def PoG (K:PySem.W.Frag) (F:Fm) (j:List Addr) (H:Hp) (E:XK) (R:St→Hp→Prop):Rs Rho→Prop
 | .ok ρ' S'=>∀σ' j' H',Ext j H j' H'→En K F j' H' σ' ρ' S'→R σ' H'
 | .ex c S'=>PX K F j H E c S'
noncomputable def RG (K:PySem.W.Frag) (E:XK) (t:TG) (g:TwG):Prop:=∀{F:Fm} {j:List Addr} {σ:St} {H:Hp} {ρ:Rho} {S:Sto} {r:Rs Rho} {x:Xv} {v:V} {R:St→Hp→Prop},En K F j H σ ρ S→Xis K j H x v→g x ρ S=some r→PoG K F j H E R r→t v σ H R
noncomputable def zgT (K:PySem.W.Frag) (F:Fm) (j:List Addr) (H:Hp) (E:XK) (D':Vd):Fl→Prop
 | .nx ρ S=>∀σ j' H',Ext j H j' H'→En K F j' H' σ ρ S→D'.nx σ H'
 | .bk ρ S=>∀σ j' H',Ext j H j' H'→En K F j' H' σ ρ S→D'.bk σ H'
 | .ct ρ S=>∀σ j' H',Ext j H j' H'→En K F j' H' σ ρ S→D'.ct σ H'
 | .rt x S=>∀v σ ρ j' H',Ext j H j' H'→En K F j' H' σ ρ S→Xis K j' H' x v→D'.rt v H'
 | .ex c S=>PX K F j H E c S
theorem zgT.step {K:PySem.W.Frag} {F:Fm} {j j1:List Addr} {H H1:Hp} {E:XK} {D':Vd}:∀{fl:Fl},zgT K F j H E D' fl→Ext j H j1 H1→zgT K F j1 H1 E D' fl
 | .nx _ _,h,e=>fun σ j' H' x y=>h σ j' H' (e.trans x) y
 | .bk _ _,h,e=>fun σ j' H' x y=>h σ j' H' (e.trans x) y
 | .ct _ _,h,e=>fun σ j' H' x y=>h σ j' H' (e.trans x) y
 | .rt _ _,h,e=>fun v σ ρ j' H' x y z=>h v σ ρ j' H' (e.trans x) y z
 | .ex _ _,h,e=>PX.mono h e
noncomputable def RS (K:PySem.W.Frag) (E:XK) (t:TS) (m:TwS):Prop:=∀{F:Fm} {j:List Addr} {D':Vd} {σ:St} {H:Hp} {ρ:Rho} {S:Sto} {fl:Fl},En K F j H σ ρ S→m ρ S=some fl→zgT K F j H E D' fl→t D' σ H
noncomputable def zjw (K:PySem.W.Frag) (j:List Addr) (H:Hp) (J:It) (get:Sto→Option (List Xv)):Prop:=∀{F:Fm} {j':List Addr} {H':Hp} {σ:St} {ρ:Rho} {S:Sto} {xs:List Xv} (i:Nat),Ext j H j' H'→En K F j' H' σ ρ S→get S=some xs→
 (∀x,xs[i]? =some x→J.go i H'∧∀v H'',J.yld i H' v H''→Yx H' H''∧Xis K j' H'' x v)∧(i=xs.length→J.stop i H')
noncomputable def RI (K:PySem.W.Frag) (E:XK) (t:TI) (m:TwI):Prop:=∀{F:Fm} {j:List Addr} {σ:St} {H:Hp} {ρ:Rho} {S:Sto} {r:Rs (Sto→Option (List Xv))} {R:It→Hp→Prop},En K F j H σ ρ S→m ρ S=some r→Po K F j H σ ρ E (fun get j' H'=>∀J,zjw K j' H' J get→R J H') r→t σ H R
noncomputable abbrev Op2:=Xv→Xv→Sto→Option (Xv×Sto)
noncomputable abbrev Opn:=List Xv→Sto→Option (Xv×Sto)
noncomputable def YV (K:PySem.W.Frag) (r:R2) (f:Op2):Prop:=∀{F:Fm} {j:List Addr} {σ:St} {H:Hp} {ρ:Rho} {S S':Sto} {x y z:Xv} {u v:V} {Q:VK},En K F j H σ ρ S→Xis K j H x u→Xis K j H y v→f x y S=some (z,S')→(∀w j' H',Ext j H j' H'→En K F j' H' σ ρ S'→Xis K j' H' z w→Q w H')→r u v H Q
noncomputable def zjx (K:PySem.W.Frag) (r:V→Hp→VK→Prop) (f:Xv→Sto→Option (Xv×Sto)):Prop:=∀{F:Fm} {j:List Addr} {σ:St} {H:Hp} {ρ:Rho} {S S':Sto} {x z:Xv} {u:V} {Q:VK},En K F j H σ ρ S→Xis K j H x u→f x S=some (z,S')→(∀w j' H',Ext j H j' H'→En K F j' H' σ ρ S'→Xis K j' H' z w→Q w H')→r u H Q
noncomputable def To (K:PySem.W.Frag) (r:List V→Hp→VK→Prop) (f:Opn):Prop:=∀{F:Fm} {j:List Addr} {σ:St} {H:Hp} {ρ:Rho} {S S':Sto} {xs:List Xv} {z:Xv} {vs:List V} {Q:VK},En K F j H σ ρ S→zM K j H xs vs→f xs S=some (z,S')→(∀w j' H',Ext j H j' H'→En K F j' H' σ ρ S'→Xis K j' H' z w→Q w H')→r vs H Q
noncomputable def za (i:Nat):TwE:=fun ρ S=>match ρ[i]? with
 |some (some x)=>some (.ok x S)
 |_=>none
noncomputable def eC (x:Xv):TwE:=fun _ S=>some (.ok x S)
noncomputable def okP (o:Option (Xv×Sto)):Option (Rs Xv):=o.map fun p=> .ok p.1 p.2
theorem Zj {o:Option (Xv×Sto)} {r:Rs Xv} (h:okP o=some r):∃z S,o=some (z,S)∧r= .ok z S:=by
 cases o with
 |none=>cases h
 |some p=>cases h;exact ⟨_,_,rfl,rfl⟩
noncomputable def eOp (f:Op2) (a b:TwE):TwE:=fun ρ S=>rb (a ρ S) fun x S1=>rb (b ρ S1) fun y S2=>okP (f x y S2)
noncomputable def eUn (f:Xv→Sto→Option (Xv×Sto)) (a:TwE):TwE:=fun ρ S=>rb (a ρ S) fun x S1=>okP (f x S1)
noncomputable def bE (m:TwE):TwT:=fun ρ S=>rb (m ρ S) fun x S1=>match x with
 | .bl b=>some (.ok b S1)
 |_=>none
noncomputable def eB (m:TwT):TwE:=fun ρ S=>rb (m ρ S) fun b S1=>some (.ok (.bl b) S1)
noncomputable def zgU (a b:TwT):TwT:=fun ρ S=>rb (a ρ S) fun x S1=>if x then b ρ S1 else some (.ok false S1)
noncomputable def bOr (a b:TwT):TwT:=fun ρ S=>rb (a ρ S) fun x S1=>if x then some (.ok true S1) else b ρ S1
noncomputable def Tp (a:TwT):TwT:=fun ρ S=>rb (a ρ S) fun x S1=>some (.ok (!x) S1)
noncomputable def zeg (a b:TwE):TwE:=fun ρ S=>rb (bE a ρ S) fun x S1=>if x then b ρ S1 else some (.ok (.bl false) S1)
noncomputable def eIf (c:TwT) (a b:TwE):TwE:=fun ρ S=>rb (c ρ S) fun x S1=>if x then a ρ S1 else b ρ S1
noncomputable def evL:List TwE→TwL
 |[]=>fun _ S=>some (.ok [] S)
 |m::r=>fun ρ S=>rb (m ρ S) fun x S1=>rb (evL r ρ S1) fun xs S2=>some (.ok (x::xs) S2)
noncomputable def XJ (ms:List TwE):TwE:=fun ρ S=>rb (evL ms ρ S) fun xs S1=>some (.ok (.tup xs) S1)
noncomputable def VI (ms:List TwE):TwE:=fun ρ S=>rb (evL ms ρ S) fun xs S1=>some (.ok (.ref S1.length) (S1++[.lst xs]))
noncomputable def eFn (f:Opn) (ms:List TwE):TwE:=fun ρ S=>rb (evL ms ρ S) fun xs S1=>okP (f xs S1)
noncomputable def zjy (f:Xv→Xv→Option Xv):Op2:=fun x y S=>(f x y).map fun z=>(z,S)
noncomputable def zkh (f:Xv→Option Xv):Xv→Sto→Option (Xv×Sto):=fun x S=>(f x).map fun z=>(z,S)
theorem zfe {o:Option Xv} {S S':Sto} {z:Xv} (h:(o.map fun z=>(z,S))=some (z,S')):o=some z∧S'=S:=by
 cases o with
 |none=>cases h
 |some p=>cases h;exact ⟨rfl,rfl⟩
section
variable {K:PySem.W.Frag} {E:XK} {F:Fm} {j:List Addr} {H:Hp} {σ:St} {ρ:Rho} {S:Sto}
theorem Po.val {Q:VK} {x:Xv} {v:V} (k:Po K F j H σ ρ E (PoV K Q) (.ok x S)) (En0:En K F j H σ ρ S) (h:Xis K j H x v):Q v H:=k j H Ext.refl En0 v h
theorem zb (i:Nat):RE K E (zib i) (za i):=by
 intro F j σ H ρ S r Q En0 e k
 unfold za at e
 split at e
 ·rename_i x ex
  cases e
  obtain ⟨v,e1,e2⟩:=En0.slot i _ ex
  exact ⟨v,e1,k.val En0 e2⟩
 ·cases e
theorem zgV {v:V} {x:Xv} (h:∀j H,Xis K j H x v):RE K E (tC v) (eC x):=fun En0 e k=>by
 cases e
 exact k.val En0 (h _ _)
theorem zK (i:Int):RE K E (tC (.int i)) (eC (.int i)):=zgV fun _ _=> .int i
theorem vH (x:Str):RE K E (tC (.str x)) (eC (.str x)):=zgV fun _ _=> .str x
theorem zbK (b:Bool):RE K E (tC (.bl b)) (eC (.bl b)):=zgV fun _ _=> .bl b
theorem zix:RE K E (tC .non) (eC .non):=zgV fun _ _=> .non
theorem zD {r:R2} {f:Op2} {ta tb:TE} {a b:TwE} (ho:YV K r f) (ha:RE K E ta a) (hb:RE K E tb b):RE K E (tOp r ta tb) (eOp f a b):=by
 intro F j σ H ρ S r Q En0 e k
 rcases zl e with ⟨x,S1,e1,e⟩|⟨c,S1,e1,rfl⟩
 ·refine ha En0 e1 fun j1 H1 X1 E1 u hu=> ?_
  rcases zl e with ⟨y,S2,e2,e⟩|⟨c,S2,e2,rfl⟩
  ·obtain ⟨z,S3,e3,rfl⟩:=Zj e
   exact hb E1 e2 fun j2 H2 X2 E2 v hv=>ho E2 (hu.mono X2) hv e3 fun w j3 H3 X3 E3 hw=>k _ _ (X1.trans (X2.trans X3)) E3 _ hw
  ·exact hb E1 e2 (PX.mono k X1)
 ·exact ha En0 e1 k
theorem zjz {r:V→Hp→VK→Prop} {f:Xv→Sto→Option (Xv×Sto)} {ta:TE} {a:TwE} (ho:zjx K r f) (ha:RE K E ta a):RE K E (tUn r ta) (eUn f a):=by
 intro F j σ H ρ S r Q En0 e k
 rcases zl e with ⟨x,S1,e1,e⟩|⟨c,S1,e1,rfl⟩
 ·obtain ⟨z,S3,e3,rfl⟩:=Zj e
  exact ha En0 e1 fun j1 H1 X1 E1 u hu=>ho E1 hu e3 fun w j3 H3 X3 E3 hw=>k _ _ (X1.trans X3) E3 _ hw
 ·exact ha En0 e1 k
theorem Vh {t:TE} {m:TwE} (h:RE K E t m):RT K E (tB t) (bE m):=by
 intro F j σ H ρ S r Q En0 e k
 rcases zl e with ⟨x,S1,e1,e⟩|⟨c,S1,e1,rfl⟩
 ·split at e
  ·cases e
   exact h En0 e1 fun j1 H1 X1 E1 u hu=>⟨_,hu.bl_inv,k _ _ X1 E1⟩
  ·cases e
 ·exact h En0 e1 k
theorem Xw {t:TE} {m:TwE} (h:RE K E t m):RT K E (zhM t) (bE m):=Vh h
theorem ziy {t u:TT} {a b:TwT} (ha:RT K E t a) (hb:RT K E u b):RT K E (zi8 t u) (zgU a b):=by
 intro F j σ H ρ S r Q En0 e k
 rcases zl e with ⟨x,S1,e1,e⟩|⟨c,S1,e1,rfl⟩
 ·refine ha En0 e1 fun j1 H1 X1 E1=> ?_
  cases x with
  |true=>exact hb E1 e (k.step X1)
  |false=>cases e;exact k _ _ X1 E1
 ·exact ha En0 e1 k
theorem zjA {t u:TT} {a b:TwT} (ha:RT K E t a) (hb:RT K E u b):RT K E (tOr t u) (bOr a b):=by
 intro F j σ H ρ S r Q En0 e k
 rcases zl e with ⟨x,S1,e1,e⟩|⟨c,S1,e1,rfl⟩
 ·refine ha En0 e1 fun j1 H1 X1 E1=> ?_
  cases x with
  |true=>cases e;exact k _ _ X1 E1
  |false=>exact hb E1 e (k.step X1)
 ·exact ha En0 e1 k
theorem zaL {t:TT} {a:TwT} (ha:RT K E t a):RT K E (zi9 t) (Tp a):=by
 intro F j σ H ρ S r Q En0 e k
 rcases zl e with ⟨x,S1,e1,e⟩|⟨c,S1,e1,rfl⟩
 ·cases e
  exact ha En0 e1 fun j1 H1 X1 E1=>k _ _ X1 E1
 ·exact ha En0 e1 k
theorem ziz {ta tb:TE} {a b:TwE} (ha:RE K E ta a) (hb:RE K E tb b):RE K E (zhH ta tb) (zeg a b):=by
 intro F j σ H ρ S r Q En0 e k
 rcases zl e with ⟨x,S1,e1,e⟩|⟨c,S1,e1,rfl⟩
 ·rcases zl e1 with ⟨y,S2,e2,e1⟩|⟨c,S2,e2,z⟩
  ·split at e1
   ·cases e1
    refine ha En0 e2 fun j1 H1 X1 E1 u hu=>⟨_,hu.bl_inv,?_⟩
    cases x with
    |true=>exact hb E1 e (k.step X1)
    |false=>cases e;exact k _ _ X1 E1 _ (.bl false)
   ·cases e1
  ·cases z
 ·rcases zl e1 with ⟨y,S2,e2,e1⟩|⟨c,S2,e2,z⟩
  ·split at e1<;>cases e1
  ·cases z;exact ha En0 e2 k
theorem ziA {ta:TE} {a:TwE} (ha:RE K E ta a):RE K E (zhI ta) (eB (Tp (bE a))):=by
 intro F j σ H ρ S r Q En0 e k
 rcases zl e with ⟨x,S1,e1,e⟩|⟨c,S1,e1,rfl⟩
 ·rcases zl e1 with ⟨y,S2,e2,e1⟩|⟨c,S2,e2,z⟩
  ·rcases zl e2 with ⟨z,S3,e3,e2⟩|⟨c,S3,e3,z⟩
   ·split at e2
    ·cases e2;cases e1;cases e
     exact ha En0 e3 fun j1 H1 X1 E1 u hu=>⟨_,hu.bl_inv,k _ _ X1 E1 _ (.bl _)⟩
    ·cases e2
   ·cases z
  ·cases z
 ·rcases zl e1 with ⟨y,S2,e2,e1⟩|⟨c,S2,e2,z⟩
  ·cases e1
  ·cases z
   rcases zl e2 with ⟨z,S3,e3,e2⟩|⟨c,S3,e3,z⟩
   ·split at e2<;>cases e2
   ·cases z;exact ha En0 e3 k
theorem zbL {t:TT} {c:TwT} {ta tb:TE} {a b:TwE} (hc:RT K E t c) (ha:RE K E ta a) (hb:RE K E tb b):RE K E (tIf t ta tb) (eIf c a b):=by
 intro F j σ H ρ S r Q En0 e k
 rcases zl e with ⟨x,S1,e1,e⟩|⟨c,S1,e1,rfl⟩
 ·refine hc En0 e1 fun j1 H1 X1 E1=> ?_
  cases x with
  |true=>exact ha E1 e (k.step X1)
  |false=>exact hb E1 e (k.step X1)
 ·exact hc En0 e1 k
noncomputable def Xv.isNon:Xv→Bool
 | .non=>true
 |_=>false
noncomputable def zcN:Xv→Sto→Option (Xv×Sto):=zkh fun x=>some (.bl x.isNon)
theorem zgW {x:Xv} {v:V} (h:Xis K j H x v):decide (v= .non)=x.isNon:=by cases h<;>simp [Xv.isNon]
theorem zff {ta:TE} {a:TwE} (ha:RE K E ta a):RE K E (zi7 ta) (eUn zcN a):=by
 intro F j σ H ρ S r Q En0 e k
 rcases zl e with ⟨x,S1,e1,e⟩|⟨c,S1,e1,rfl⟩
 ·cases e
  exact ha En0 e1 fun j1 H1 X1 E1 u hu=>k _ _ X1 E1 _ (by rw [zgW hu];exact .bl _)
 ·exact ha En0 e1 k
theorem zj:RL K E zgB (evL []):=fun En0 e k=>by
 cases e
 exact k _ _ Ext.refl En0 [] .nil
theorem ze {ta:TE} {tr:TA} {m:TwE} {ms:List TwE} (ha:RE K E ta m) (hr:RL K E tr (evL ms)):RL K E (zbt ta tr) (evL (m::ms)):=by
 intro F j σ H ρ S r Q En0 e k
 rcases zl e with ⟨x,S1,e1,e⟩|⟨c,S1,e1,rfl⟩
 ·refine ha En0 e1 fun j1 H1 X1 E1 u hu=> ?_
  rcases zl e with ⟨xs,S2,e2,e⟩|⟨c,S2,e2,rfl⟩
  ·cases e
   exact hr E1 e2 fun j2 H2 X2 E2 vs hv=>k _ _ (X1.trans X2) E2 (u::vs) (.cons (hu.mono X2) hv)
  ·exact hr E1 e2 (PX.mono k X1)
 ·exact ha En0 e1 k
theorem YC:∀{ms:List TwE} {ρ:Rho} {S S':Sto} {xs:List Xv},evL ms ρ S=some (.ok xs S')→xs.length=ms.length
 |[],_,_,_,_,h=>by cases h;rfl
 |m::ms,ρ,S,S',xs,h=>by
  rcases zl h with ⟨x,S1,e1,h⟩|⟨c,S1,e1,z⟩
  ·rcases zl h with ⟨ys,S2,e2,h⟩|⟨c,S2,e2,z⟩
   ·cases h
    simp [YC e2]
   ·cases z
  ·cases z
theorem Wi {t:TA} {ms:List TwE} (h:RL K E t (evL ms)) (hl:ms.length≤1000:=by simp):RE K E (zjj t) (XJ ms):=by
 intro F j σ H ρ S r Q En0 e k
 rcases zl e with ⟨xs,S1,e1,e⟩|⟨c,S1,e1,rfl⟩
 ·cases e
  refine h En0 e1 fun j1 H1 X1 E1 vs hv=>⟨?_,fun p hp=> ?_⟩
  ·rw [hv.len,YC e1]
   exact Nat.le_trans hl (by decide)
  ·obtain ⟨E2,X2⟩:=E1.new (o:= .tup vs) hp
   exact k _ _ (X1.trans X2) E2 _ (.tup zw (hv.mono X2))
 ·exact h En0 e1 k
theorem En.lst {xs:List Xv} {vs:List V} {p:Addr} (En0:En K F j H σ ρ S) (hv:zM K j H xs vs) (hp:H p=none):En K F (j++[p]) (upd H p (.lst vs)) σ ρ (S++[.lst xs])∧Ext j H (j++[p]) (upd H p (.lst vs))∧Xis K (j++[p]) (upd H p (.lst vs)) (.ref S.length) (.ref p):=by
 have X:Ext j H (j++[p]) (upd H p (.lst vs)):=⟨fun n a e=>by rw [List.getElem?_append_left (List.getElem?_eq_some_iff.1 e).1];exact e,xS.same (wD hp)⟩
 obtain ⟨E1,_⟩:=En0.cell (o:= .lst vs) (c:= .lst xs) hp ⟨vs,zw,hv.mono X⟩
 exact ⟨E1,X,.ref (by rw [←En0.jl];simp)⟩
theorem Vi {t:TA} {ms:List TwE} (h:RL K E t (evL ms)) (hl:ms.length≤1000:=by simp):RE K E (zjk t) (VI ms):=by
 intro F j σ H ρ S r Q En0 e k
 rcases zl e with ⟨xs,S1,e1,e⟩|⟨c,S1,e1,rfl⟩
 ·cases e
  refine h En0 e1 fun j1 H1 X1 E1 vs hv=>⟨?_,fun p hp=> ?_⟩
  ·rw [hv.len,YC e1]
   exact Nat.le_trans hl (by decide)
  ·obtain ⟨E2,X2,h2⟩:=E1.lst hv hp
   exact k _ _ (X1.trans X2) E2 _ h2
 ·exact h En0 e1 k
theorem Yd {t:TA} {ms:List TwE} {r:List V→Hp→VK→Prop} {f:Opn} (hr:To K r f) (h:RL K E t (evL ms)):RE K E (tCB r t) (eFn f ms):=by
 intro F j σ H ρ S r Q En0 e k
 rcases zl e with ⟨xs,S1,e1,e⟩|⟨c,S1,e1,rfl⟩
 ·obtain ⟨z,S3,e3,rfl⟩:=Zj e
  exact h En0 e1 fun j1 H1 X1 E1 vs hv=>hr E1 hv e3 fun w j3 H3 X3 E3 hw=>k _ _ (X1.trans X3) E3 _ hw
 ·exact h En0 e1 k
end
end L2
namespace L2
open PySem
noncomputable def yf (S:Sto):Xv→Option (List Xv)
 | .ref n=>match S[n]? with
  |some (.lst xs)=>some xs
  |some (.frz xs)=>some xs
  |_=>none
 |_=>none
noncomputable def XT (S:Sto) (x:Xv):Option (List Xv):=match x.tupOf with
 |some xs=>some xs
 |none=>yf S x
noncomputable def UI (S:Sto):Xv→Option (Nat×List Xv)
 | .ref n=>match S[n]? with
  |some (.lst xs)=>some (n,xs)
  |_=>none
 |_=>none
section
variable {K:PySem.W.Frag} {E:XK} {F:Fm} {j:List Addr} {H:Hp} {σ:St} {ρ:Rho} {S:Sto} {x:Xv} {v:V}
theorem En.lstAt {xs:List Xv} (E0:En K F j H σ ρ S) (hx:Xis K j H x v) (h:L2.yf S x=some xs):∃a vs,v= .ref a∧SqX K H a vs∧zM K j H xs vs:=by
 cases x<;>simp only [L2.yf,reduceCtorEq] at h
 obtain ⟨a,rfl,hj⟩:=hx.ref_inv
 split at h
 ·cases h
  obtain ⟨vs,e1,e2⟩:=E0.cel _ _ _ (by assumption) hj
  exact ⟨a,vs,rfl,SqX.of e1,e2⟩
 ·cases h
  obtain ⟨vs,e1,e2⟩:=E0.cel _ _ _ (by assumption) hj
  refine ⟨a,vs,rfl,?_,e2⟩
  rcases e1 with ⟨o,e1⟩|e1
  ·exact .inl (.inr ⟨o,e1⟩)
  ·exact e1 H
 ·cases h
theorem En.seqAt {xs:List Xv} (E0:En K F j H σ ρ S) (hx:Xis K j H x v) (h:L2.XT S x=some xs):∃a vs,v= .ref a∧(SqX K H a vs∨SqT K H a vs)∧zM K j H xs vs:=by
 unfold L2.XT at h
 split at h
 ·cases h
  obtain ⟨a,vs,e1,e2,e3⟩:=hx.tupO (by assumption)
  exact ⟨a,vs,e1,.inr e2,e3⟩
 ·obtain ⟨a,vs,e1,e2,e3⟩:=E0.lstAt hx h
  exact ⟨a,vs,e1,.inl e2,e3⟩
theorem TY {n:Nat} {xs:List Xv} (h:UI S x=some (n,xs)):x= .ref n∧S[n]? =some (.lst xs):=by
 cases x<;>simp only [UI,reduceCtorEq] at h
 split at h
 ·cases h;exact ⟨rfl,by assumption⟩
 ·cases h
theorem En.wl {n:Nat} {xs:List Xv} (E0:En K F j H σ ρ S) (hx:Xis K j H x v) (h:UI S x=some (n,xs)):∃a vs,v= .ref a∧j[n]? =some a∧H a=some (.lst vs)∧zM K j H xs vs:=by
 obtain ⟨rfl,hs⟩:=TY h
 obtain ⟨a,rfl,hj⟩:=hx.ref_inv
 obtain ⟨vs,e1,e2⟩:=E0.cel _ _ _ hs hj
 exact ⟨a,vs,rfl,hj,e1,e2⟩
theorem En.wr {n:Nat} {xs ys:List Xv} {ws:List V} {a:Addr} (E0:En K F j H σ ρ S) (h:UI S x=some (n,xs)) (hj:j[n]? =some a) (hw:zM K j H ys ws):En K F j (upd H a (.lst ws)) σ ρ (S.set n (.lst ys))∧Ext j H j (upd H a (.lst ws)):=
 E0.write (TY h).2 rfl hj rfl fun X=>⟨ws,zw,hw.mono X⟩
theorem tyL {a:Addr} {vs:List V} (h:SqL K H a vs):tyV K "list" (.ref a) H:= .inl ⟨rfl,vs,h⟩
noncomputable def yp:Op2:=fun x y S=>match x.tupOf,y with
 |some xs,.int i=>(atI xs i).map fun z=>(z,S)
 |_,_=>none
noncomputable def xl:Op2:=fun x y S=>match yf S x,y with
 |some xs,.int i=>(atI xs i).map fun z=>(z,S)
 |_,_=>none
noncomputable def zgX:Op2:=zjy fun x y=>match x,y with
 | .str z,.int i=>if z.length≤sizeLine then (atI z.cps.toList i).map fun c=> .str ⟨#[c]⟩ else none
 |_,_=>none
theorem xC:YV K (zgJ K) yp:=by
 intro F j σ H ρ S S' x y z u v Q E0 hx hy h k
 unfold yp at h
 split at h
 ·rename_i xs i ex
  cases e:atI xs i with
  |none=>rw [e] at h;cases h
  |some z'=>
   rw [e] at h
   cases h
   obtain ⟨a,vs,rfl,h1,h2⟩:=hx.tupO ex
   obtain ⟨w,e1,e2⟩:=h2.at_ e
   exact ⟨a,vs,_,w,rfl,hy.int_inv,h1,e1,k _ _ _ Ext.refl E0 e2⟩
 ·cases h
theorem zZ:YV K (zgI K) xl:=by
 intro F j σ H ρ S S' x y z u v Q E0 hx hy h k
 unfold xl at h
 split at h
 ·rename_i xs i ex
  cases e:atI xs i with
  |none=>rw [e] at h;cases h
  |some z'=>
   rw [e] at h
   cases h
   obtain ⟨a,vs,rfl,h1,h2⟩:=E0.lstAt hx ex
   obtain ⟨w,e1,e2⟩:=h2.at_ e
   exact ⟨a,vs,_,w,rfl,hy.int_inv,h1.sql,e1,k _ _ _ Ext.refl E0 e2⟩
 ·cases h
theorem zfg:YV K ziq zgX:=by
 intro F j σ H ρ S S' x y z u v Q E0 hx hy h k
 obtain ⟨h',rfl⟩:=zfe h
 dsimp only at h'
 split at h'
 ·split at h'
  ·rename_i zz i hz
   cases e:atI zz.cps.toList i with
   |none=>rw [e] at h';cases h'
   |some c=>
    rw [e] at h'
    cases h'
    exact ⟨zz,i,c,hx.str_inv,hy.int_inv,hz,e,k _ _ _ Ext.refl E0 (.str _)⟩
  ·cases h'
 ·cases h'
noncomputable def zcO:Op2:=fun x y S=>match XT S x,y with
 |some xs,.int i=>(atI xs i).map fun z=>(z,S)
 |_,_=>none
theorem zfh:YV K (rIx K) zcO:=by
 intro F j σ H ρ S S' x y z u v Q E0 hx hy h k
 unfold zcO at h
 split at h
 ·rename_i xs i ex
  cases e:atI xs i with
  |none=>rw [e] at h;cases h
  |some z'=>
   rw [e] at h
   cases h
   obtain ⟨a,vs,rfl,h1,h2⟩:=E0.seqAt hx ex
   obtain ⟨w,e1,e2⟩:=h2.at_ e
   rcases h1 with h1|h1
   ·exact .inl ⟨a,vs,_,w,rfl,hy.int_inv,h1.sql,e1,k _ _ _ Ext.refl E0 e2⟩
   ·exact .inr (.inl ⟨a,vs,_,w,rfl,hy.int_inv,h1,e1,k _ _ _ Ext.refl E0 e2⟩)
 ·cases h
noncomputable def oNo:TwO:=fun _ S=>some (.ok none S)
noncomputable def YQ (m:TwE):TwO:=fun ρ S=>rb (m ρ S) fun x S1=>match x with
 | .int i=>some (.ok (some i) S1)
 |_=>none
theorem zhW:RO K E zdl oNo:=fun E0 e k=>by
 cases e
 exact k _ _ Ext.refl E0
theorem VW {t:TE} {m:TwE} (h:RE K E t m):RO K E (zhQ t) (YQ m):=by
 intro F j σ H ρ S r Q En0 e k
 rcases zl e with ⟨x,S1,e1,e⟩|⟨c,S1,e1,rfl⟩
 ·split at e
  ·cases e
   exact h En0 e1 fun j1 H1 X1 E1 u hu=>⟨_,hu.int_inv,k _ _ X1 E1⟩
  ·cases e
 ·exact h En0 e1 k
noncomputable def zbM {α:Type} (xs:List α) (lo hi:Option Int):List α:=(xs.drop (HT.sIx xs.length 0 lo)).take (HT.sIx xs.length xs.length hi-HT.sIx xs.length 0 lo)
theorem zM.cut {xs:List Xv} {vs:List V} (h:zM K j H xs vs) (lo hi:Option Int):zM K j H (zbM xs lo hi) (zd3 vs lo hi):=by
 unfold zd3 zbM
 rw [h.len]
 exact (h.drop _).take _
noncomputable def eSl (f:Xv→Option Int→Option Int→Sto→Option (Xv×Sto)) (m:TwE) (lo hi:TwO):TwE:=fun ρ S=>rb (m ρ S) fun x S1=>rb (lo ρ S1) fun y S2=>rb (hi ρ S2) fun z S3=>okP (f x y z S3)
noncomputable def zfi (K:PySem.W.Frag) (r:V→Option Int→Option Int→Hp→VK→Prop) (f:Xv→Option Int→Option Int→Sto→Option (Xv×Sto)):Prop:=∀{F:Fm} {j:List Addr} {σ:St} {H:Hp} {ρ:Rho} {S S':Sto} {x z:Xv} {lo hi:Option Int} {u:V} {Q:VK},En K F j H σ ρ S→Xis K j H x u→f x lo hi S=some (z,S')→(∀w j' H',Ext j H j' H'→En K F j' H' σ ρ S'→Xis K j' H' z w→Q w H')→r u lo hi H Q
theorem zhX {r:V→Option Int→Option Int→Hp→VK→Prop} {f:Xv→Option Int→Option Int→Sto→Option (Xv×Sto)} {te:TE} {tl th:TO} {m:TwE} {lo hi:TwO} (ho:zfi K r f) (hm:RE K E te m) (hl:RO K E tl lo) (hh:RO K E th hi):RE K E (tSl r te tl th) (eSl f m lo hi):=by
 intro F j σ H ρ S r Q En0 e k
 rcases zl e with ⟨x,S1,e1,e⟩|⟨c,S1,e1,rfl⟩
 ·refine hm En0 e1 fun j1 H1 X1 E1 u hu=> ?_
  rcases zl e with ⟨y,S2,e2,e⟩|⟨c,S2,e2,rfl⟩
  ·refine hl E1 e2 fun j2 H2 X2 E2=> ?_
   rcases zl e with ⟨z,S3,e3,e⟩|⟨c,S3,e3,rfl⟩
   ·obtain ⟨w,S4,e4,rfl⟩:=Zj e
    exact hh E2 e3 fun j3 H3 X3 E3=>ho E3 (hu.mono (X2.trans X3)) e4 fun w j4 H4 X4 E4 hw=>k _ _ (X1.trans (X2.trans (X3.trans X4))) E4 _ hw
   ·exact hh E2 e3 (PX.mono k (X1.trans X2))
  ·exact hl E1 e2 (PX.mono k X1)
 ·exact hm En0 e1 k
noncomputable def zbN:Xv→Option Int→Option Int→Sto→Option (Xv×Sto):=fun x lo hi S=>(yf S x).map fun xs=>(.ref S.length,S++[.lst (zbM xs lo hi)])
theorem zjB:zfi K (zeU K) zbN:=by
 intro F j σ H ρ S S' x z lo hi u Q E0 hx h k
 unfold zbN at h
 cases e:yf S x with
 |none=>rw [e] at h;cases h
 |some xs=>
  rw [e] at h
  cases h
  obtain ⟨a,vs,rfl,h1,h2⟩:=E0.lstAt hx e
  refine ⟨a,vs,rfl,h1.sql,fun p hp=> ?_⟩
  obtain ⟨E1,X1,h3⟩:=E0.lst (h2.cut lo hi) hp
  exact k _ _ _ X1 E1 h3
noncomputable def UJ:Xv→Option Int→Option Int→Sto→Option (Xv×Sto):=fun x lo hi S=>match x with
 | .str z=>if z.length≤sizeLine then some (.str (Txt.slice z lo hi),S) else none
 |_=>none
theorem zjC:zfi K zgQ UJ:=by
 intro F j σ H ρ S S' x z lo hi u Q E0 hx h k
 unfold UJ at h
 split at h
 ·split at h
  ·cases h
   exact ⟨_,hx.str_inv,by assumption,k _ _ _ Ext.refl E0 (.str _)⟩
  ·cases h
 ·cases h
theorem zfj {te:TE} {tl th:TO} {m:TwE} {lo hi:TwO} (hm:RE K E te m) (hl:RO K E tl lo) (hh:RO K E th hi):RE K E (tSl (zeU K) te tl th) (eSl zbN m lo hi):= @zhX K E (zeU K) zbN te tl th m lo hi (@zjB K) hm hl hh
theorem ziB {te:TE} {tl th:TO} {m:TwE} {lo hi:TwO} (hm:RE K E te m) (hl:RO K E tl lo) (hh:RO K E th hi):RE K E (tSl zgQ te tl th) (eSl UJ m lo hi):= @zhX K E zgQ UJ te tl th m lo hi (@zjC K) hm hl hh
noncomputable abbrev OpM:=Xv→List Xv→Sto→Option (Xv×Sto)
noncomputable def zfk (K:PySem.W.Frag) (r:V→List V→Hp→VK→Prop) (f:OpM):Prop:=∀{F:Fm} {j:List Addr} {σ:St} {H:Hp} {ρ:Rho} {S S':Sto} {x z:Xv} {ys:List Xv} {u:V} {vs:List V} {Q:VK},En K F j H σ ρ S→Xis K j H x u→zM K j H ys vs→f x ys S=some (z,S')→(∀w j' H',Ext j H j' H'→En K F j' H' σ ρ S'→Xis K j' H' z w→Q w H')→r u vs H Q
noncomputable def eMt (f:OpM) (o:TwE) (ms:List TwE):TwE:=fun ρ S=>rb (o ρ S) fun x S1=>(yf S1 x).bind fun _=>rb (evL ms ρ S1) fun ys S2=>okP (f x ys S2)
theorem zbO {r:V→List V→Hp→VK→Prop} {f:OpM} {to:TE} {t:TA} {o:TwE} {ms:List TwE} (hr:zfk K r f) (ho:RE K E to o) (ht:RL K E t (evL ms)):RE K E (tBM K "list" r to t) (eMt f o ms):=by
 intro F j σ H ρ S r Q En0 e k
 rcases zl e with ⟨x,S1,e1,e⟩|⟨c,S1,e1,rfl⟩
 ·refine ho En0 e1 fun j1 H1 X1 E1 u hu=> ?_
  cases el:L2.yf S1 x with
  |none=>rw [el] at e;cases e
  |some l=>
   rw [el] at e
   obtain ⟨a,vs,rfl,h1,_⟩:=E1.lstAt hu el
   refine ⟨tyL h1.sql,?_⟩
   rcases zl e with ⟨ys,S2,e2,e⟩|⟨c,S2,e2,rfl⟩
   ·obtain ⟨z,S3,e3,rfl⟩:=Zj e
    exact ht E1 e2 fun j2 H2 X2 E2 ws hw=>hr E2 (hu.mono X2) hw e3 fun w j3 H3 X3 E3 hz=>k _ _ (X1.trans (X2.trans X3)) E3 _ hz
   ·exact ht E1 e2 (PX.mono k X1)
 ·exact ho En0 e1 k
theorem zfl {r:V→List V→Hp→VK→Prop} {f:OpM} {to:TE} {o:TwE} (hr:zfk K r f) (ho:RE K E to o):RE K E (zjo K "list" r to) (eMt f o []):=by
 intro F j σ H ρ S r Q En0 e k
 exact zbO hr ho zj En0 e k
noncomputable def wj:OpM:=fun x ys S=>match UI S x,ys with
 |some (n,xs),[y]=>if xs.length<sizeLine then some (.non,S.set n (.lst (xs++[y]))) else none
 |_,_=>none
theorem Xx:zfk K zdn wj:=by
 intro F j σ H ρ S S' x z ys u vs Q E0 hx hy h k
 unfold wj at h
 split at h
 ·rename_i n xs y e
  split at h
  ·rename_i hl
   cases h
   obtain ⟨a,ws,rfl,hj,h1,h2⟩:=E0.wl hx e
   obtain ⟨w,rfl,hw⟩:=hy.d1
   obtain ⟨E1,X1⟩:=E0.wr e hj (h2.append (.one hw))
   exact ⟨a,ws,w,rfl,rfl,h1,by rw [h2.len];exact hl,k _ _ _ X1 E1 .non⟩
  ·cases h
 ·cases h
noncomputable def zfm:OpM:=fun x ys S=>match UI S x,ys with
 |some (n,xs),[]=>(xs[xs.length-1]?).map fun y=>(y,S.set n (.lst xs.dropLast))
 |_,_=>none
theorem zfn:zfk K zjp zfm:=by
 intro F j σ H ρ S S' x z ys u vs Q E0 hx hy h k
 unfold zfm at h
 split at h
 ·rename_i n xs e
  cases e1:xs[xs.length-1]? with
  |none=>rw [e1] at h;cases h
  |some y=>
   rw [e1] at h
   cases h
   obtain ⟨a,ws,rfl,hj,h1,h2⟩:=E0.wl hx e
   obtain rfl:=hy.nil_inv
   obtain ⟨w,f1,f2⟩:=h2.get e1
   obtain ⟨E1,X1⟩:=E0.wr e hj h2.dropLast
   exact ⟨a,ws,w,rfl,rfl,h1,by rw [h2.len];exact f1,k _ _ _ X1 E1 (f2.mono X1)⟩
 ·cases h
noncomputable def Wt:OpM:=fun x ys S=>match UI S x,ys with
 |some (n,xs),[y]=>(XT S y).bind fun zs=>if xs.length+zs.length≤sizeLine then some (.non,S.set n (.lst (xs++zs))) else none
 |_,_=>none
theorem TZ:zfk K (zbH K) Wt:=by
 intro F j σ H ρ S S' x z ys u vs Q E0 hx hy h k
 unfold Wt at h
 split at h
 ·rename_i n xs y e
  cases e1:XT S y with
  |none=>rw [e1] at h;cases h
  |some zs=>
   rw [e1] at h
   dsimp only [Option.bind] at h
   split at h
   ·rename_i hl
    cases h
    obtain ⟨a,ws,rfl,hj,h1,h2⟩:=E0.wl hx e
    obtain ⟨w,rfl,hw⟩:=hy.d1
    obtain ⟨b,ts,rfl,g1,g2⟩:=E0.seqAt hw e1
    obtain ⟨E1,X1⟩:=E0.wr e hj (h2.append g2)
    exact ⟨a,b,ws,ts,rfl,rfl,h1,g1,by rw [h2.len,g2.len];exact hl,k _ _ _ X1 E1 .non⟩
   ·cases h
 ·cases h
noncomputable def zu (a b:TwS):TwS:=fun ρ S=>match a ρ S with
 |some (.nx ρ1 S1)=>b ρ1 S1
 |r=>r
noncomputable def yZ:TwS:=fun ρ S=>some (.nx ρ S)
noncomputable def zJ (m:TwE) (g:TwG):TwS:=fun ρ S=>sb (m ρ S) fun x S1=>sb (g x ρ S1) fun ρ1 S2=>some (.nx ρ1 S2)
noncomputable def XU (m:TwE):TwS:=fun ρ S=>sb (m ρ S) fun _ S1=>some (.nx ρ S1)
noncomputable def yk (m:TwE):TwS:=fun ρ S=>sb (m ρ S) fun x S1=>some (.rt x S1)
noncomputable def sIf (c:TwT) (a b:TwS):TwS:=fun ρ S=>sb (c ρ S) fun x S1=>if x then a ρ S1 else b ρ S1
noncomputable def YW (r:Option Fl) (go:Rho→Sto→Option Fl):Option Fl:=match r with
 |some (.nx ρ S)=>go ρ S
 |some (.ct ρ S)=>go ρ S
 |some (.bk ρ S)=>some (.nx ρ S)
 |r=>r
noncomputable def XV (get:Sto→Option (List Xv)) (g:TwG) (b:TwS):Nat→Nat→Rho→Sto→Option Fl
 |0,_,_,_=>none
 |f+1,i,ρ,S=>(get S).bind fun xs=>match xs[i]? with
  |none=>if i=xs.length then some (.nx ρ S) else none
  |some x=>sb (g x ρ S) fun ρ1 S1=>YW (b ρ1 S1) fun ρ2 S2=>XV get g b f (i+1) ρ2 S2
noncomputable def UK (m:TwI) (g:TwG) (b:TwS):TwS:=fun ρ S=>sb (m ρ S) fun get S1=>(get S1).bind fun xs=>XV get g b (xs.length+1) 0 ρ S1
noncomputable def VJ (c:TwT) (b:TwS):Nat→Rho→Sto→Option Fl
 |0,_,_=>none
 |n+1,ρ,S=>sb (c ρ S) fun x S1=>if x then YW (b ρ S1) fun ρ2 S2=>VJ c b n ρ2 S2 else some (.nx ρ S1)
noncomputable def sWh (n:Nat) (c:TwT) (b:TwS):TwS:=fun ρ S=>VJ c b n ρ S
noncomputable def gN (i:Nat):TwG:=fun x ρ S=>some (.ok (ρ.set i (some x)) S)
theorem zH {i:Nat}:RG K E (zdj i) (gN i):=fun E0 hx e k=>by
 cases e
 exact k _ _ _ Ext.refl (E0.set hx)
theorem wk:RS K E zhJ yZ:=fun E0 e k=>by
 cases e
 exact k _ _ _ Ext.refl E0
theorem zL {t u:TS} {a b:TwS} (ha:RS K E t a) (hb:RS K E u b):RS K E (zja t u) (zu a b):=by
 intro F j D' σ H ρ S fl E0 e k
 unfold zu at e
 split at e
 ·rename_i ρ1 S1 e1
  exact ha (D':={D' with nx:=u D'}) E0 e1 fun σ1 j1 H1 X1 E1=>hb E1 e (k.step X1)
 ·rename_i hn
  refine ha (D':={D' with nx:=u D'}) E0 e ?_
  cases fl with
  |nx ρ1 S1=>exact absurd e (hn ρ1 S1)
  |bk ρ1 S1=>exact k
  |ct ρ1 S1=>exact k
  |rt x S1=>exact k
  |ex c S1=>exact k
theorem yP {te:TE} {g:TG} {m:TwE} {g':TwG} (h:RE K E te m) (hg:RG K E g g'):RS K E (zjd te g) (zJ m g'):=by
 intro F j D' σ H ρ S fl E0 e k
 rcases xw e with ⟨x,S1,e1,e⟩|⟨c,S1,e1,rfl⟩
 ·refine h E0 e1 fun j1 H1 X1 E1 u hu=> ?_
  rcases xw e with ⟨ρ1,S2,e2,e⟩|⟨c,S2,e2,rfl⟩
  ·cases e
   exact hg E1 hu e2 fun σ2 j2 H2 X2 E2=>k _ _ _ (X1.trans X2) E2
  ·exact hg E1 hu e2 (PX.mono k X1)
 ·exact h E0 e1 k
theorem zaM {te:TE} {m:TwE} (h:RE K E te m):RS K E (zhK te) (XU m):=by
 intro F j D' σ H ρ S fl E0 e k
 rcases xw e with ⟨x,S1,e1,e⟩|⟨c,S1,e1,rfl⟩
 ·cases e
  exact h E0 e1 fun j1 H1 X1 E1 u hu=>k _ _ _ X1 E1
 ·exact h E0 e1 k
theorem ym {te:TE} {m:TwE} (h:RE K E te m):RS K E (zjb te) (yk m):=by
 intro F j D' σ H ρ S fl E0 e k
 rcases xw e with ⟨x,S1,e1,e⟩|⟨c,S1,e1,rfl⟩
 ·cases e
  exact h E0 e1 fun j1 H1 X1 E1 u hu=>k _ _ _ _ _ X1 E1 hu
 ·exact h E0 e1 k
theorem YR {c:TT} {t u:TS} {m:TwT} {a b:TwS} (hc:RT K E c m) (ha:RS K E t a) (hb:RS K E u b):RS K E (zjc c t u) (sIf m a b):=by
 intro F j D' σ H ρ S fl E0 e k
 rcases xw e with ⟨x,S1,e1,e⟩|⟨c,S1,e1,rfl⟩
 ·refine hc E0 e1 fun j1 H1 X1 E1=> ?_
  cases x with
  |true=>exact ha E1 e (k.step X1)
  |false=>exact hb E1 e (k.step X1)
 ·exact hc E0 e1 k
theorem zaa {r:Option Fl} {go:Rho→Sto→Option Fl} {fl:Fl} (h:YW r go=some fl):∃f,r=some f∧((∃ρ S,(f= .nx ρ S∨f= .ct ρ S)∧go ρ S=some fl)∨(∃ρ S,f= .bk ρ S∧fl= .nx ρ S)∨(f=fl∧((∃x S,fl= .rt x S)∨∃c S,fl= .ex c S))):=by
 unfold YW at h
 split at h
 ·exact ⟨_,rfl,.inl ⟨_,_,.inl rfl,h⟩⟩
 ·exact ⟨_,rfl,.inl ⟨_,_,.inr rfl,h⟩⟩
 ·cases h;exact ⟨_,rfl,.inr (.inl ⟨_,_,rfl,rfl⟩)⟩
 ·rename_i n1 n2 n3
  refine ⟨fl,h,.inr (.inr ⟨rfl,?_⟩)⟩
  cases fl with
  |nx ρ S=>exact absurd h (n1 ρ S)
  |ct ρ S=>exact absurd h (n2 ρ S)
  |bk ρ S=>exact absurd h (n3 ρ S)
  |rt x S=>exact .inl ⟨x,S,rfl⟩
  |ex c S=>exact .inr ⟨c,S,rfl⟩
theorem zcP {wi:TI} {g:TG} {tb:TS} {m:TwI} {g':TwG} {b:TwS} (hi:RI K E wi m) (hg:RG K E g g') (hb:RS K E tb b):RS K E (zje wi g tb) (UK m g' b):=by
 intro F j D' σ H ρ S fl E0 e k
 rcases xw e with ⟨get,S1,e1,e⟩|⟨c,S1,e1,rfl⟩
 ·refine hi E0 e1 fun j1 H1 X1 E1 J ok=> ?_
  cases eg:get S1 with
  |none=>rw [eg] at e;cases e
  |some xs=>
   rw [eg] at e
   refine ⟨fun i n σ H=>∃j2 ρ2 S2,Ext j1 H1 j2 H∧En K F j2 H σ ρ2 S2∧XV get g' b n i ρ2 S2=some fl,⟨xs.length+1,j1,ρ,S1,Ext.refl,E1,e⟩,?_⟩
   rintro i n σ2 H2 ⟨j2,ρ2,S2,X2,E2,e2⟩
   cases n with
   |zero=>cases e2
   |succ n=>
    unfold XV at e2
    cases eg2:get S2 with
    |none=>rw [eg2] at e2;cases e2
    |some ys=>
     rw [eg2] at e2
     dsimp only [Option.bind] at e2
     obtain ⟨go,stop⟩:=ok i X2 E2 eg2
     split at e2
     ·split at e2
      ·rename_i hl
       cases e2
       exact .inl ⟨stop hl,k _ _ _ (X1.trans X2) E2⟩
      ·cases e2
     ·rename_i x ex
      obtain ⟨g1,g2⟩:=go x ex
      refine .inr ⟨g1,fun σ' H'=>∃j3 ρ3 S3,Ext j1 H1 j3 H'∧En K F j3 H' σ' ρ3 S3∧XV get g' b n (i+1) ρ3 S3=some fl,fun _ _ z=>⟨n,Nat.lt_succ_self _,z⟩,fun v H3 hy=> ?_⟩
      obtain ⟨Sm,hv⟩:=g2 v H3 hy
      have E3:=E2.heap Sm
      have X3:Ext j2 H2 j2 H3:=Ext.same Sm
      rcases xw e2 with ⟨ρ4,S4,e4,e2⟩|⟨c,S4,e4,rfl⟩
      ·refine hg E3 hv e4 fun σ4 j4 H4 X4 E4=> ?_
       obtain ⟨f5,e5,h5⟩:=zaa e2
       refine hb E4 e5 ?_
       have X14:=X2.trans (X3.trans X4)
       rcases h5 with ⟨ρ6,S6,h6,e6⟩|⟨ρ6,S6,rfl,rfl⟩|⟨rfl,h6⟩
       ·rcases h6 with rfl|rfl
        ·exact fun σ5 j5 H5 X5 E5=>⟨j5,ρ6,S6,X14.trans X5,E5,e6⟩
        ·exact fun σ5 j5 H5 X5 E5=>⟨j5,ρ6,S6,X14.trans X5,E5,e6⟩
       ·exact fun σ5 j5 H5 X5 E5=>k _ _ _ (X1.trans (X14.trans X5)) E5
       ·rcases h6 with ⟨x6,S6,rfl⟩|⟨c6,S6,rfl⟩
        ·exact fun v σ5 ρ5 j5 H5 X5 E5 hv=>k v σ5 ρ5 _ _ (X1.trans (X14.trans X5)) E5 hv
        ·exact PX.mono k (X1.trans X14)
      ·exact hg E3 hv e4 (PX.mono k (X1.trans (X2.trans X3)))
 ·exact hi E0 e1 k
theorem zbP {c:TT} {tb:TS} {m:TwT} {b:TwS} {n:Nat} (hc:RT K E c m) (hb:RS K E tb b):RS K E (zeI c tb) (sWh n m b):=by
 intro F j D' σ H ρ S fl E0 e k
 refine ⟨fun n σ2 H2=>∃j2 ρ2 S2,Ext j H j2 H2∧En K F j2 H2 σ2 ρ2 S2∧VJ m b n ρ2 S2=some fl,⟨n,j,ρ,S,Ext.refl,E0,e⟩,?_⟩
 rintro n σ2 H2 ⟨j2,ρ2,S2,X2,E2,e2⟩
 cases n with
 |zero=>cases e2
 |succ n=>
  unfold VJ at e2
  rcases xw e2 with ⟨x,S3,e3,e2⟩|⟨c,S3,e3,rfl⟩
  ·refine hc E2 e3 fun j3 H3 X3 E3=> ?_
   have X13:=X2.trans X3
   cases x with
   |false=>cases e2;exact k _ _ _ X13 E3
   |true=>
    obtain ⟨f5,e5,h5⟩:=zaa e2
    refine ⟨fun σ' H'=>∃j3 ρ3 S3,Ext j H j3 H'∧En K F j3 H' σ' ρ3 S3∧VJ m b n ρ3 S3=some fl,fun σ' H' z=>⟨n,Nat.lt_succ_self _,z⟩,hb E3 e5 ?_⟩
    rcases h5 with ⟨ρ6,S6,h6,e6⟩|⟨ρ6,S6,rfl,rfl⟩|⟨rfl,h6⟩
    ·rcases h6 with rfl|rfl
     ·exact fun σ5 j5 H5 X5 E5=>⟨j5,ρ6,S6,X13.trans X5,E5,e6⟩
     ·exact fun σ5 j5 H5 X5 E5=>⟨j5,ρ6,S6,X13.trans X5,E5,e6⟩
    ·exact fun σ5 j5 H5 X5 E5=>k _ _ _ (X13.trans X5) E5
    ·rcases h6 with ⟨x6,S6,rfl⟩|⟨c6,S6,rfl⟩
     ·exact fun v σ5 ρ5 j5 H5 X5 E5 hv=>k v σ5 ρ5 _ _ (X13.trans X5) E5 hv
     ·exact PX.mono k X13
  ·exact hc E2 e3 (PX.mono k X2)
noncomputable def iL (m:TwE):TwI:=fun ρ S=>rb (m ρ S) fun x S1=>(yf S1 x).map fun _=> .ok (fun S=>yf S x) S1
noncomputable def iT (m:TwE):TwI:=fun ρ S=>rb (m ρ S) fun x S1=>x.tupOf.map fun l=> .ok (fun _=>some l) S1
theorem Wu {t:TE} {m:TwE} (h:RE K E t m):RI K E (zeK K t) (iL m):=by
 intro F j σ H ρ S r R En0 e k
 rcases zl e with ⟨x,S1,e1,e⟩|⟨c,S1,e1,rfl⟩
 ·cases el:yf S1 x with
  |none=>rw [el] at e;cases e
  |some l=>
   rw [el] at e
   cases e
   refine h En0 e1 fun j1 H1 X1 E1 u hu=> ?_
   obtain ⟨a,vs,rfl,h1,_⟩:=E1.lstAt hu el
   refine ⟨a,rfl,⟨vs,h1.sql⟩,k _ _ X1 E1 _ ?_⟩
   intro F2 j2 H2 σ2 ρ2 S2 xs i X2 E2 e2
   obtain ⟨a',ws,ea,g1,g2⟩:=E2.lstAt (hu.mono X2) e2
   cases ea
   refine ⟨fun y ey=> ?_,fun hle=>⟨ws,g1.sql,by rw [g2.len];omega⟩⟩
   obtain ⟨w,f1,f2⟩:=g2.get ey
   refine ⟨⟨ws,w,g1.sql,f1⟩,?_⟩
   rintro v' H' ⟨rfl,hx⟩
   have:=hx ws g1.sql
   rw [f1] at this
   cases this
   exact ⟨Yx.refl _,f2⟩
 ·exact h En0 e1 k
theorem zaN {t:TE} {m:TwE} (h:RE K E t m):RI K E (zif K t) (iT m):=by
 intro F j σ H ρ S r R En0 e k
 rcases zl e with ⟨x,S1,e1,e⟩|⟨c,S1,e1,rfl⟩
 ·cases el:x.tupOf with
  |none=>rw [el] at e;cases e
  |some l=>
   rw [el] at e
   cases e
   refine h En0 e1 fun j1 H1 X1 E1 u hu=> ?_
   obtain ⟨a,vs,rfl,h1,_⟩:=hu.tupO el
   refine ⟨a,rfl,⟨vs,h1⟩,k _ _ X1 E1 _ ?_⟩
   intro F2 j2 H2 σ2 ρ2 S2 xs i X2 E2 e2
   cases e2
   obtain ⟨a',ws,ea,g1,g2⟩:=(hu.mono X2).tupO el
   cases ea
   refine ⟨fun y ey=> ?_,fun hle=>⟨ws,g1,by rw [g2.len];omega⟩⟩
   obtain ⟨w,f1,f2⟩:=g2.get ey
   refine ⟨⟨ws,w,g1,f1⟩,?_⟩
   rintro v' H' ⟨rfl,hx⟩
   have:=hx ws g1
   rw [f1] at this
   cases this
   exact ⟨Yx.refl _,f2⟩
 ·exact h En0 e1 k
noncomputable def xh (lo:Int) (n:Nat):List Xv:=(List.range n).map fun (k:Nat)=>Xv.int (lo+(k:Int))
noncomputable def iR1 (m:TwE):TwI:=fun ρ S=>rb (m ρ S) fun x S1=>match x with
 | .int j=>if -(2^62)≤j∧j<2^62 then some (.ok (fun _=>some (xh 0 j.toNat)) S1) else none
 |_=>none
theorem zfo {lo:Int} {n:Nat}:zjw K j H (Itr lo n) (fun _=>some (xh lo n)):=by
 intro F2 j2 H2 σ2 ρ2 S2 xs i X2 E2 e2
 cases e2
 refine ⟨fun d hd=> ?_,fun hle=> ?_⟩
 ·unfold xh at hd
  rw [List.getElem?_map] at hd
  have hi:i<n:=by
   apply Classical.byContradiction
   intro hn
   rw [List.getElem?_eq_none (by simp;omega)] at hd
   cases hd
  rw [List.getElem?_range hi] at hd
  cases hd
  refine ⟨hi,?_⟩
  rintro x H' ⟨rfl,rfl⟩
  exact ⟨Yx.refl _,.int _⟩
 ·unfold xh at hle
  simp at hle
  show n≤i
  omega
theorem Ze {t:TE} {m:TwE} (h:RE K E t m):RI K E (zhL (zbt t zgB)) (iR1 m):=by
 intro F j σ H ρ S r R En0 e k
 rcases zl e with ⟨x,S1,e1,e⟩|⟨c,S1,e1,rfl⟩
 ·split at e
  ·split at e
   ·rename_i hb
    cases e
    exact h En0 e1 fun j1 H1 X1 E1 u hu=>⟨_,by rw [hu.int_inv],hb.1,hb.2,k _ _ X1 E1 _ zfo⟩
   ·cases e
  ·cases e
 ·exact h En0 e1 k
end
end L2
namespace L2
open PySem
noncomputable def rn {α β:Type} (m:Option (Rs α)) (f:α→Sto→Option β):Option β:=match m with
 |some (.ok a S)=>f a S
 |_=>none
theorem zaO {α β:Type} {m:Option (Rs α)} {f:α→Sto→Option β} {r:β} (h:rn m f=some r):∃a S,m=some (.ok a S)∧f a S=some r:=by
 unfold rn at h
 split at h
 ·exact ⟨_,_,rfl,h⟩
 ·cases h
noncomputable def xO (cap:List (Option Nat)) (ρ:Rho):Rho:=cap.map fun o=>o.bind fun i=>(ρ[i]?).join
noncomputable def Zk (get:Sto→Option (List Xv)) (g:TwG) (c:TwT) (e:TwE) (ρc:Rho):Nat→Nat→List Xv→Sto→Option (Rs Xv)
 |0,_,_,_=>none
 |f+1,i,es,S=>(get S).bind fun xs=>match xs[i]? with
  |none=>if i=xs.length then some (.ok (.ref S.length) (S++[.lst es])) else none
  |some x=>rn (g x ρc S) fun ρ1 S1=>rn (c ρ1 S1) fun b S2=>if b then rn (e ρ1 S2) fun y S3=>if es.length<sizeLine then Zk get g c e ρc f (i+1) (es++[y]) S3 else none
    else Zk get g c e ρc f (i+1) es S2
noncomputable def xy (cap:List (Option Nat)) (m:TwI) (g:TwG) (c:TwT) (e:TwE):TwE:=fun ρ S=>rb (m ρ S) fun get S1=>(get S1).bind fun xs=>Zk get g c e (xO cap ρ) (xs.length+1) 0 [] S1
noncomputable def xm:TwT:=fun _ S=>some (.ok true S)
section
variable {K:PySem.W.Frag} {E:XK} {F:Fm} {j j':List Addr} {H H':Hp} {σ σ':St} {ρ ρ':Rho} {S S':Sto} {x:Xv} {v:V} {a:Addr} {o:HO}
theorem wE:RT K E (fun _ H Q=>Q true H) xm:=fun E1 e k=>by
 cases e
 exact k _ _ Ext.refl E1
noncomputable def Wv (j:List Addr) (S:Sto) (a:Addr):Prop:=∀(n:Nat) c,j[n]? =some a→S[n]? =some c→c.fz=true
theorem En.notIn (E1:En K F j H σ ρ S) (h:H a=none):Wv j S a:=fun n c e1 e2=>by
 cases z:c.fz with
 |true=>rfl
 |false=>
  obtain ⟨o,e,_⟩:=(E1.cel n c a e2 e1).mu z
  rw [h] at e;cases e
theorem En.outside (E1:En K F j H σ ρ S) (h:Wv j S a) {o0:HO} (h0:H a=some o0) (m0:o0.mu=true) (hf:F.H0 a=none):En K F j (upd H a o) σ ρ S∧Ext j H j (upd H a o):=by
 have X:Ext j H j (upd H a o):=⟨fun _ _ e=>e,fun b u e m=>by
  have:b≠a:=fun q=>by subst q;rw [h0] at e;cases e;rw [m] at m0;cases m0
  rw [zm this];exact e⟩
 refine ⟨⟨E1.len,fun i x e=> ?_,E1.jl,E1.inj,fun n c b e1 e2=> ?_,E1.ext.trans X,E1.old,E1.l0,fun b u e=> ?_,E1.fresh,fun b e=> ?_⟩,X⟩
 ·obtain ⟨v,e1,e2⟩:=E1.slot i x e
  exact ⟨v,e1,e2.mono X⟩
 ·refine (E1.cel n c b e1 e2).mono X fun z=>zm fun q=> ?_
  subst q
  rw [h n c e2 e1] at z;cases z
 ·have hb:b≠a:=fun q=>by subst q;rw [hf] at e;cases e
  rcases E1.keep b u e with h|h
  ·exact .inl (by rw [zm hb];exact h)
  ·exact .inr h
 ·have hb:b≠a:=fun q=>by subst q;rw [zw] at e;cases e
  rw [zm hb] at e
  exact E1.dom b e
theorem En.adopt {c:Ce} (E1:En K F j H σ ρ S) (h:Wv j S a) (hf:F.H0 a=none) (hc:UH K (j++[a]) H a c):En K F (j++[a]) H σ ρ (S++[c])∧Ext j H (j++[a]) H:=by
 have X:Ext j H (j++[a]) H:=⟨fun n b e=>by rw [List.getElem?_append_left (List.getElem?_eq_some_iff.1 e).1];exact e,xS.refl _⟩
 have lt:∀{n:Nat} {d:Ce},S[n]? =some d→n<S.length:=fun e=>(List.getElem?_eq_some_iff.1 e).1
 have at_:∀{n:Nat} {b:Addr} {d:Ce},(j++[a])[n]? =some b→(S++[c])[n]? =some d→(j[n]? =some b∧S[n]? =some d)∨(n=S.length∧b=a∧d=c):=fun {n b d} e1 e2=>by
  by_cases hn:n<S.length
  ·rw [List.getElem?_append_left hn] at e2
   rw [List.getElem?_append_left (by rw [E1.jl];exact hn)] at e1
   exact .inl ⟨e1,e2⟩
  ·rw [List.getElem?_append_right (by omega)] at e2
   rw [List.getElem?_append_right (by rw [E1.jl];omega),E1.jl] at e1
   cases hm:n-S.length with
   |zero=>rw [hm] at e1 e2;simp at e1 e2;exact .inr ⟨by omega,e1.symm,e2.symm⟩
   |succ m=>rw [hm] at e1;simp at e1
 refine ⟨⟨E1.len,fun i x e=> ?_,by simp [E1.jl],fun n m b c1 c2 e1 e2 e3 e4 z1 z2=> ?_,fun n d b e1 e2=> ?_,E1.ext.trans X,fun n d e=> ?_,E1.l0,E1.keep,fun n b hn e=> ?_,E1.dom⟩,X⟩
 ·obtain ⟨v,e1,e2⟩:=E1.slot i x e
  exact ⟨v,e1,e2.mono X⟩
 ·rcases at_ e1 e3 with ⟨f1,f2⟩|⟨f1,f2,f3⟩
  ·rcases at_ e2 e4 with ⟨g1,g2⟩|⟨g1,g2,g3⟩
   ·exact E1.inj n m b c1 c2 f1 g1 f2 g2 z1 z2
   ·subst g2
    rw [h n c1 f1 f2] at z1;cases z1
  ·rcases at_ e2 e4 with ⟨g1,g2⟩|⟨g1,g2,g3⟩
   ·subst f2
    rw [h m c2 g1 g2] at z2;cases z2
   ·rw [f1,g1]
 ·rcases at_ e2 e1 with ⟨f1,f2⟩|⟨f1,rfl,rfl⟩
  ·exact (E1.cel n d b f2 f1).mono X fun _=>rfl
  ·exact hc
 ·obtain ⟨d',e1,e2⟩:=E1.old n d e
  exact ⟨d',by rw [List.getElem?_append_left (lt e1)];exact e1,e2⟩
 ·by_cases hm:n<j.length
  ·rw [List.getElem?_append_left hm] at e
   exact E1.fresh n b hn e
  ·rw [List.getElem?_append_right (by omega)] at e
   cases hk:n-j.length with
   |zero=>rw [hk] at e;simp at e;subst e;exact hf
   |succ m=>rw [hk] at e;simp at e
theorem zeh {cap:List (Option Nat)} (E1:En K F j H σ ρ S):(Zh cap σ).length=(xO cap ρ).length∧∀(i:Nat) x,(xO cap ρ)[i]? =some (some x)→∃v,(Zh cap σ)[i]? =some (some v)∧Xis K j H x v:=by
 refine ⟨by simp [Zh,xO],fun i x h=> ?_⟩
 unfold xO at h
 unfold Zh
 rw [List.getElem?_map] at h ⊢
 cases e:cap[i]? with
 |none=>rw [e] at h;cases h
 |some o=>
  rw [e] at h
  cases o with
  |none=>simp at h
  |some k=>
   simp only [Option.map_some,Option.bind_some,Option.some.injEq] at h ⊢
   cases q:ρ[k]? with
   |none=>rw [q] at h;simp at h
   |some z=>
    rw [q] at h
    simp at h
    subst h
    obtain ⟨v,e1,e2⟩:=E1.slot k x q
    exact ⟨v,by rw [e1];rfl,e2⟩
theorem wF {cap:List (Option Nat)} {wi:TI} {g:TG} {tt:TT} {te:TE} {m:TwI} {g':TwG} {c:TwT} {e:TwE} (hi:RI K E wi m) (hg:RG K E0 g g') (hc:RT K E0 tt c) (he:RE K E0 te e):RE K E (ze2 cap wi g tt te) (xy cap m g' c e):=by
 intro F j σ H ρ S r Q En0 h k
 rcases zl h with ⟨get,S1,e1,h⟩|⟨c1,S1,e1,rfl⟩
 ·refine hi En0 e1 fun j1 H1 X1 E1 J ok acc hacc=> ?_
  cases eg:get S1 with
  |none=>rw [eg] at h;cases h
  |some xs=>
   rw [eg] at h
   have hf:F.H0 acc=none:=E1.dom acc hacc
   obtain ⟨Ea,Xa⟩:=E1.new (o:= .lst []) hacc
   refine ⟨fun i n ys H2=>∃j2 S2 es,Ext j1 H1 j2 H2∧En K F j2 H2 σ ρ S2∧H2 acc=some (.lst ys)∧zM K j2 H2 es ys∧Wv j2 S2 acc∧Zk get g' c e (xO cap ρ) n i es S2=some r,
    ⟨xs.length+1,j1,S1,[],Xa,Ea,zw,.nil,E1.notIn hacc,h⟩,?_⟩
   rintro i n ys H2 ⟨j2,S2,es,X2,E2,h2,hes,nin,e2⟩
   cases n with
   |zero=>cases e2
   |succ n=>
    unfold Zk at e2
    cases eg2:get S2 with
    |none=>rw [eg2] at e2;cases e2
    |some zs=>
     rw [eg2] at e2
     dsimp only [Option.bind] at e2
     obtain ⟨go,stop⟩:=ok i X2 E2 eg2
     split at e2
     ·split at e2
      ·rename_i hl
       cases e2
       obtain ⟨E3,X3⟩:=E2.adopt (c:= .lst es) nin hf ⟨ys,h2,hes.mono ⟨fun n b e=>by rw [List.getElem?_append_left (List.getElem?_eq_some_iff.1 e).1];exact e,xS.refl _⟩⟩
       exact .inl ⟨stop hl,k _ _ (X1.trans (X2.trans X3)) E3 _ (.ref (by rw [←E2.jl];simp))⟩
      ·cases e2
     ·rename_i x ex
      obtain ⟨g1,g2⟩:=go x ex
      refine .inr ⟨g1,fun v H3 hy=> ?_⟩
      obtain ⟨Sm,hv⟩:=g2 v H3 hy
      have E3:=E2.heap Sm
      have X3:Ext j2 H2 j2 H3:=Ext.same Sm
      have h3:H3 acc=some (.lst ys):=Sm _ _ h2
      obtain ⟨cl,cs⟩:=zeh (cap:=cap) E3
      have I0:=E3.enter cl cs
      obtain ⟨ρ4,S4,e4,e2⟩:=zaO e2
      obtain ⟨b,S5,e5,e2⟩:=zaO e2
      have behind:∀{j6:List Addr} {H6:Hp} {σ6:St} {ρ6:Rho} {S6:Sto},En K ⟨H3,j2,S2⟩ j6 H6 σ6 ρ6 S6→En K F j6 H6 σ ρ S6∧Ext j2 H2 j6 H6∧H6 acc=some (.lst ys)∧Wv j6 S6 acc:=fun {j6 H6 σ6 ρ6 S6} X=>by
       obtain ⟨E6,X6⟩:=E3.leave X
       refine ⟨E6,X3.trans X6,?_,fun n d q1 q2=> ?_⟩
       ·rcases X.keep acc _ h3 with q|⟨n,d,q1,q2,q3⟩
        ·exact q
        ·rw [nin n d q1 q2] at q3;cases q3
       ·by_cases hn:n<j2.length
        ·have p1:j2[n]? =some j2[n]:=List.getElem?_eq_getElem hn
         have p2:=X6.pre n _ p1
         rw [q1] at p2
         cases p2
         have hn2:n<S2.length:=by rw [←E2.jl];exact hn
         obtain ⟨d',f1,_,f3⟩:=X.old n _ (List.getElem?_eq_getElem hn2)
         rw [q2] at f1
         cases f1
         have hz:=nin n _ p1 (List.getElem?_eq_getElem hn2)
         rw [f3 hz]
         exact hz
        ·have q:=X.fresh n acc (by dsimp only;omega) q1
         have q:H3 acc=none:=q
         rw [h3] at q;cases q
      refine hg I0 hv e4 fun σ4 j4 H4 X4 I4=>hc I4 e5 fun j5 H5 X5 I5=> ?_
      cases b with
      |true=>
       rw [if_pos rfl]
       rw [if_pos rfl] at e2
       obtain ⟨y,S6,e6,e2⟩:=zaO e2
       split at e2
       ·rename_i hsz
        refine he I5 e6 fun j6 H6 X6 I6 w hw=> ?_
        obtain ⟨E6,X26,h6,nin6⟩:=behind I6
        obtain ⟨E7,X7⟩:=E6.outside (o:= .lst (ys++[w])) nin6 h6 rfl hf
        refine ⟨h6,by rw [hes.len];exact hsz,n,Nat.lt_succ_self _,j6,S6,es++[y],X2.trans (X26.trans X7),E7,zw,((hes.mono X26).append (.one hw)).mono X7,nin6,e2⟩
       ·cases e2
      |false=>
       rw [if_neg (by simp)]
       rw [if_neg (by simp)] at e2
       obtain ⟨E6,X26,h6,nin6⟩:=behind I5
       exact ⟨n,Nat.lt_succ_self _,j5,S5,es,X2.trans X26,E6,h6,hes.mono X26,nin6,e2⟩
 ·exact hi En0 e1 k
theorem Wj {i:Nat} {cap:List (Option Nat)} {wi:TI} {g:TG} {tt:TT} {te:TE} {m:TwE} (h:RE K E (ze2 cap wi g tt te) m):RS K E (zbD i cap wi g tt te) (zJ m (gN i)):=by
 intro F j D' σ H ρ S fl E1 e k
 rcases xw e with ⟨x,S1,e1,e⟩|⟨c,S1,e1,rfl⟩
 ·cases e
  exact h (Q:=fun v H2=>D'.nx (σ.set i (some v)) H2) E1 e1 fun j1 H1 X1 E1 u hu=>k _ _ _ X1 (E1.set hu)
 ·exact h (Q:=fun v H2=>D'.nx (σ.set i (some v)) H2) E1 e1 k
noncomputable abbrev TwF:=List Xv→Sto→Option (Rs Xv)
noncomputable def zT (n k:Nat) (b:TwS):TwF:=fun xs S=>if xs.length=n then match b (xs.map some++List.replicate k none) S with
  |some (.rt x S')=>some (.ok x S')
  |some (.nx _ S')=>some (.ok .non S')
  |some (.ex c S')=>some (.ex c S')
  |_=>none
 else none
noncomputable def zjD (K:PySem.W.Frag) (F:Fm) (Q:VK) (E:XK):Rs Xv→Prop
 | .ok x S'=>∀v j' H' σ ρ,En K F j' H' σ ρ S'→Xis K j' H' x v→Q v H'
 | .ex c S'=>∀j' H' σ ρ C,En K F j' H' σ ρ S'→PySem.W.nsIn K mainGlobals c=some (some (.ref C))→E (.ref C) none H'
noncomputable def sTw (K:PySem.W.Frag) (n:Nat) (tw:TwF):Sp:=fun vs H Q E=>vs.length=n∧∃(j:List Addr) (S:Sto) (xs:List Xv) (r:Rs Xv),En K ⟨H,j,S⟩ j H (vs.map some) (xs.map some) S∧tw xs S=some r∧zjD K ⟨H,j,S⟩ Q E r
theorem yu {n k:Nat} {N:List Str} {t:TS} {b:TwS} {vs:List V} {Q:VK} (hN:N.length=n+k) (h:RS K E t b) (hs:sTw K n (zT n k b) vs H Q E):t {nx:=fun _ H'=>Q .non H',rt:=Q} (Zx N vs) H:=by
 obtain ⟨hn,j,S,xs,r,E1,e,ret⟩:=hs
 have es:Zx N vs=vs.map some++List.replicate k none:=by
  unfold Zx
  rw [hN,hn,Nat.add_sub_cancel_left]
 rw [es]
 unfold zT at e
 split at e
 ·split at e
  ·rename_i x S' e1
   cases e
   exact h E1.grow e1 fun v σ ρ j' H' X E' hv=>ret _ _ _ _ _ E' hv
  ·rename_i ρ' S' e1
   cases e
   exact h E1.grow e1 fun σ j' H' X E'=>ret _ _ _ _ _ E' .non
  ·rename_i c S' e1
   cases e
   exact h E1.grow e1 fun j' H' σ' ρ' C X E' hC=>ret _ _ _ _ _ E' hC
  ·cases e
 ·cases e
theorem VX {P:Program} {w:World} {mg:Str→Option Value} {base:Heap} {CX:CXT} {k n:Nat} {f:Addr} {fd:FuncData} {ps:List Str} (hl:ps.length=n:=by rfl):yj P w K mg base CX k f fd ps (sTw K n fun _ _=>none):=
 ⟨fun vs H Q E h=>h.1.trans hl.symm,fun A outer s H args us vs Q E hr he hb hv hs=>by
  obtain ⟨_,_,_,_,_,_,z,_⟩:=hs
  cases z⟩
noncomputable def zI (tw:TwF) (ms:List TwE):TwE:=fun ρ S=>rb (evL ms ρ S) fun xs S1=>tw xs S1
theorem UL {xs:List Xv} {vs:List V} (hv:zM K j H xs vs):(vs.map some).length=(xs.map some).length∧∀(i:Nat) x,(xs.map some)[i]? =some (some x)→∃v,(vs.map some)[i]? =some (some v)∧Xis K j H x v:=by
 refine ⟨by simp [hv.len],fun i x h=> ?_⟩
 rw [List.getElem?_map] at h ⊢
 cases e:xs[i]? with
 |none=>rw [e] at h;cases h
 |some y=>
  rw [e] at h
  simp at h
  subst h
  obtain ⟨v,e1,e2⟩:=hv.get e
  exact ⟨v,by rw [e1];rfl,e2⟩
theorem Xy {n:Nat} {tw:TwF} {xs:List Xv} {vs:List V} {r:Rs Xv} {Q:VK} {E':XK} (E1:En K F j H σ ρ S) (hv:zM K j H xs vs) (hn:vs.length=n) (et:tw xs S=some r) (k:Po K F j H σ ρ E' (PoV K Q) r):sTw K n tw vs H Q E':=by
 obtain ⟨l,s⟩:=UL hv
 refine ⟨hn,j,S,xs,r,E1.enter l s,et,?_⟩
 cases r with
 |ok x S'=>
  intro v j' H' σ' ρ' X hx
  obtain ⟨E2,X2⟩:=E1.leave X
  exact k j' H' X2 E2 v hx
 |ex c S'=>
  intro j' H' σ' ρ' C X hC
  obtain ⟨E2,X2⟩:=E1.leave X
  exact k j' H' σ ρ C X2 E2 hC
theorem yo {n:Nat} {tw:TwF} {ms:List TwE} {t:TA} (h:RL K E t (evL ms)) (hn:ms.length=n:=by rfl):RE K E (zhO (sTw K n tw) [] E t) (zI tw ms):=by
 intro F j σ H ρ S r Q En0 e k
 rcases zl e with ⟨xs,S1,e1,e⟩|⟨c,S1,e1,rfl⟩
 ·refine h En0 e1 fun j1 H1 X1 E1 vs hv=> ?_
  rw [List.append_nil]
  exact Xy E1 hv (by rw [hv.len,YC e1,hn]) e (k.step X1)
 ·exact h En0 e1 k
end
end L2
namespace L2
open PySem PySem.Spec PyProof.Rows
open PySem.Builtin.Int (intBits)
noncomputable def xI (g:Int→Int→Xv):Op2:=fun x y S=>match x,y with
 | .int a,.int b=>some (g a b,S)
 |_,_=>none
noncomputable def xIC (c:Int→Int→Bool) (g:Int→Int→Xv):Op2:=fun x y S=>match x,y with
 | .int a,.int b=>if c a b then some (g a b,S) else none
 |_,_=>none
noncomputable def vA:Op2:=xI fun i j=> .int (i+j)
noncomputable def zcQ:Op2:=xI fun i j=> .int (i-j)
noncomputable def zgY:Op2:=xIC (fun i j=>decide ((-(2^64)<i∧i<2^64)∨(-(2^64)<j∧j<2^64))) fun i j=> .int (i*j)
noncomputable def xz:Op2:=xIC (fun i j=>decide (intBits i+intBits j≤134217728)) fun i j=> .int (i*j)
noncomputable def Zl:Op2:=xIC (fun _ j=>decide (0<j)) fun i j=> .int (i % j)
noncomputable def Ww:Op2:=xIC (fun _ j=>decide (0<j∧j<1073741824)) fun i j=> .int (i / j)
noncomputable def YD:Op2:=xIC (fun _ j=>decide (j≠0∧intBits j≤9000)) fun i j=> .int (i.fdiv j)
noncomputable def zcR:Op2:=xIC (fun i j=>decide (0≤j∧j≤1000000∧i.natAbs<2^64)) fun i j=> .int (i^j.toNat)
noncomputable def dLt:Op2:=xI fun i j=> .bl (decide (i<j))
noncomputable def dGt:Op2:=xI fun i j=> .bl (decide (j<i))
noncomputable def Tq:Op2:=xI fun i j=> .bl (decide (i=j))
noncomputable def zbQ:Op2:=xI fun i j=> .bl (!decide (i=j))
noncomputable def ziC:Xv→Sto→Option (Xv×Sto):=fun x S=>match x with
 | .int i=>some (.int (-i),S)
 |_=>none
section
variable {K:PySem.W.Frag} {E:XK} {F:Fm} {j j':List Addr} {H H':Hp} {σ σ':St} {ρ ρ':Rho} {S S':Sto} {x:Xv} {v:V} {ta tb:TE} {a b:TwE}
theorem zfp {g:Int→Int→V} {g':Int→Int→Xv} (hg:∀i k j H,Xis K j H (g' i k) (g i k)):YV K (rI0 g) (xI g'):=by
 intro F j σ H ρ S S' x y z u v Q E1 hx hy h k
 unfold xI at h
 split at h
 ·cases h
  exact ⟨_,_,hx.int_inv,hy.int_inv,k _ _ _ Ext.refl E1 (hg _ _ _ _)⟩
 ·cases h
theorem zei {C:Int→Int→Prop} {c:Int→Int→Bool} {g:Int→Int→V} {g':Int→Int→Xv} (hc:∀i j,c i j=true→C i j) (hg:∀i k j H,Xis K j H (g' i k) (g i k)):YV K (rI C g) (xIC c g'):=by
 intro F j σ H ρ S S' x y z u v Q E1 hx hy h k
 unfold xIC at h
 split at h
 ·split at h
  ·cases h
   exact ⟨_,_,hx.int_inv,hy.int_inv,hc _ _ (by assumption),k _ _ _ Ext.refl E1 (hg _ _ _ _)⟩
  ·cases h
 ·cases h
theorem zaP {p:Int→Int→Bool} (ha:RE K E ta a) (hb:RE K E tb b):RE K E (zbq p ta tb) (eOp (xI fun i j=> .bl (p i j)) a b):=
 zD (r:=rI0 fun i j=> .bl (p i j)) (zfp fun i k _ _=> .bl _) ha hb
theorem UM:YV K (rI0 fun i j=> .int (i+j)) vA:=zfp fun _ _ _ _=> .int _
theorem zfq:YV K (rI0 fun i j=> .int (i-j)) zcQ:=zfp fun _ _ _ _=> .int _
theorem zfr:YV K (rI zeM fun i j=> .int (i*j)) zgY:=zei (fun i j h=>by simpa [zeM] using h) fun _ _ _ _=> .int _
theorem VY:YV K (rI zhT fun i j=> .int (i*j)) xz:=zei (fun i j h=>⟨intBits i,intBits j,Nat.le_refl _,Nat.le_refl _,by simpa using h⟩) fun _ _ _ _=> .int _
theorem Wk:YV K (rI (fun _ j=>0<j) fun i j=> .int (i % j)) Zl:=zei (fun i j h=>by simpa using h) fun _ _ _ _=> .int _
theorem zds:YV K (rI zii fun i j=> .int (i / j)) Ww:=zei (fun i j h=>by simpa [zii] using h) fun _ _ _ _=> .int _
theorem UN:YV K (rI ze4 fun i j=> .int (i.fdiv j)) YD:=zei (fun i j h=>by simpa [ze4] using h) fun _ _ _ _=> .int _
theorem zfs:YV K (rI zij fun i j=> .int (i^j.toNat)) zcR:=zei (fun i j h=>by simpa [zij] using h) fun _ _ _ _=> .int _
theorem zjE (ha:RE K E ta a) (hb:RE K E tb b):RE K E (tLt ta tb) (eOp dLt a b):=zaP ha hb
theorem zjF (ha:RE K E ta a) (hb:RE K E tb b):RE K E (tGt ta tb) (eOp dGt a b):=zaP ha hb
theorem zaQ (ha:RE K E ta a) (hb:RE K E tb b):RE K E (zi5 ta tb) (eOp Tq a b):=zaP ha hb
theorem zft (ha:RE K E ta a) (hb:RE K E tb b):RE K E (zi6 ta tb) (eOp zbQ a b):=zaP ha hb
theorem zfu:zjx K (rU fun i=> .int (-i)) ziC:=by
 intro F j σ H ρ S S' x z u Q E1 hx h k
 unfold ziC at h
 split at h
 ·cases h
  exact ⟨_,hx.int_inv,k _ _ _ Ext.refl E1 (.int _)⟩
 ·cases h
noncomputable def Wx:Op2:=fun x y S=>match x,y with
 | .str a,.str b=>if a.length+b.length≤sizeLine then some (.str (a++b),S) else none
 |_,_=>none
theorem zdt:YV K (fun x y H Q=>∃i j,x= .str i∧y= .str j∧i.length+j.length≤sizeLine∧Q (.str (i++j)) H) Wx:=by
 intro F j σ H ρ S S' x y z u v Q E1 hx hy h k
 unfold Wx at h
 split at h
 ·split at h
  ·cases h
   exact ⟨_,_,hx.str_inv,hy.str_inv,by assumption,k _ _ _ Ext.refl E1 (.str _)⟩
  ·cases h
 ·cases h
noncomputable def Vy:Op2:=fun x y S=>match x,y with
 | .tup a,.tup b=>if a.length+b.length≤sizeLine then some (.tup (a++b),S) else none
 |_,_=>none
theorem zdu:YV K (zhV K) Vy:=by
 intro F j σ H ρ S S' x y z u v Q E1 hx hy h k
 unfold Vy at h
 split at h
 ·split at h
  ·rename_i hz
   cases h
   obtain ⟨p,xs,rfl,h1,h2⟩:=hx.tup_inv
   obtain ⟨q,ys,rfl,g1,g2⟩:=hy.tup_inv
   refine ⟨p,q,xs,ys,rfl,rfl,SqT.of h1,SqT.of g1,by rw [h2.len,g2.len];exact hz,fun e=> ?_,fun _ e=> ?_,fun _ _ l hl=> ?_⟩
   ·subst e
    obtain rfl:=List.length_eq_zero_iff.1 h2.len.symm
    exact k _ _ _ Ext.refl E1 hy
   ·subst e
    obtain rfl:=List.length_eq_zero_iff.1 g2.len.symm
    refine k _ _ _ Ext.refl E1 ?_
    rw [List.append_nil]
    exact hx
   ·obtain ⟨E2,X2⟩:=E1.new (o:= .tup (xs++ys)) hl
    exact k _ _ _ X2 E2 (.tup zw ((h2.append g2).mono X2))
  ·cases h
 ·cases h
noncomputable def zfv (g:Int→Xv):Opn:=fun xs S=>match xs with
 |[.int i]=>some (g i,S)
 |_=>none
theorem zgZ {g:Int→V} {g':Int→Xv} (hg:∀i j H,Xis K j H (g' i) (g i)):To K (fun xs H Q=>∃i,xs=[V.int i]∧Q (g i) H) (zfv g'):=by
 intro F j σ H ρ S S' xs z vs Q E1 hv h k
 unfold zfv at h
 split at h
 ·cases h
  obtain ⟨x,rfl,hx⟩:=hv.d1
  exact ⟨_,by rw [hx.int_inv],k _ _ _ Ext.refl E1 (hg _ _ _)⟩
 ·cases h
noncomputable def zfw (g:Int→Int→Xv):Opn:=fun xs S=>match xs with
 |[.int i,.int j]=>some (g i j,S)
 |_=>none
theorem zg0 {g:Int→Int→V} {g':Int→Int→Xv} (hg:∀i k j H,Xis K j H (g' i k) (g i k)):To K (fun xs H Q=>∃i j,xs=[V.int i,V.int j]∧Q (g i j) H) (zfw g'):=by
 intro F j σ H ρ S S' xs z vs Q E1 hv h k
 unfold zfw at h
 split at h
 ·cases h
  obtain ⟨x,y,rfl,hx,hy⟩:=hv.d2
  exact ⟨_,_,by rw [hx.int_inv,hy.int_inv],k _ _ _ Ext.refl E1 (hg _ _ _ _)⟩
 ·cases h
noncomputable def zej:Opn:=zfv fun i=> .int (if i<0 then -i else i)
noncomputable def ziD:Opn:=zfw fun i j=> .int (if j<i then j else i)
theorem zfx:To K (fun xs H Q=>∃i,xs=[V.int i]∧Q (.int (if i<0 then -i else i)) H) zej:=zgZ fun _ _ _=> .int _
theorem zfy:To K (fun xs H Q=>∃i j,xs=[V.int i,V.int j]∧Q (.int (if j<i then j else i)) H) ziD:=zg0 fun _ _ _ _=> .int _
noncomputable def vV:Opn:=fun xs S=>match xs with
 |[x]=>(XT S x).map fun l=>(.int l.length,S)
 |_=>none
theorem Wl:To K (fun xs H Q=>∃p ys,xs=[V.ref p]∧(SqL K H p ys∨SqT K H p ys)∧Q (.int ys.length) H) vV:=by
 intro F j σ H ρ S S' xs z vs Q E1 hv h k
 unfold vV at h
 split at h
 ·rename_i x
  cases e:XT S x with
  |none=>rw [e] at h;cases h
  |some l=>
   rw [e] at h
   cases h
   obtain ⟨w,rfl,hx⟩:=hv.d1
   obtain ⟨a,ws,rfl,h1,h2⟩:=E1.seqAt hx e
   refine ⟨a,ws,rfl,?_,k _ _ _ Ext.refl E1 (by rw [h2.len];exact .int _)⟩
   rcases h1 with h1|h1
   ·exact .inl h1.sql
   ·exact .inr h1
 ·cases h
noncomputable def Vj:Opn:=fun xs S=>match xs with
 |[.tup l]=>some (.tup l,S)
 |[x]=>(yf S x).map fun l=>(.tup l,S)
 |_=>none
theorem zbR:To K (fun xs H Q=>∃p ys,xs=[V.ref p]∧((SqL K H p ys∧∀l,H l=none→Q (.ref l) (upd H l (.tup ys)))∨(SqT K H p ys∧Q (.ref p) H))) Vj:=by
 intro F j σ H ρ S S' xs z vs Q E1 hv h k
 unfold Vj at h
 split at h
 ·cases h
  obtain ⟨w,rfl,hx⟩:=hv.d1
  obtain ⟨a,ws,rfl,h1,h2⟩:=hx.tup_inv
  exact ⟨a,ws,rfl,.inr ⟨SqT.of h1,k _ _ _ Ext.refl E1 hx⟩⟩
 ·rename_i x _
  cases e:yf S x with
  |none=>rw [e] at h;cases h
  |some l=>
   rw [e] at h
   cases h
   obtain ⟨w,rfl,hx⟩:=hv.d1
   obtain ⟨a,ws,rfl,h1,h2⟩:=E1.lstAt hx e
   refine ⟨a,ws,rfl,.inl ⟨h1.sql,fun p hp=> ?_⟩⟩
   obtain ⟨E2,X2⟩:=E1.new (o:= .tup ws) hp
   exact k _ _ _ X2 E2 (.tup zw (h2.mono X2))
 ·cases h
noncomputable def zab:List Xv→Option (List Int)
 |[]=>some []
 | .int i::r=>(zab r).map (i:: ·)
 |_::_=>none
theorem zbS:∀{xs:List Xv} {ns:List Int} {vs:List V},zab xs=some ns→zM K j H xs vs→vs=ns.map V.int
 |[],ns,vs,e,h=>by cases e;exact h.nil_inv
 |x::r,ns,vs,e,h=>by
  obtain ⟨v,ws,rfl,h1,h2⟩:=h.cons_inv
  cases x<;>simp only [zab,reduceCtorEq] at e
  cases e2:zab r with
  |none=>rw [e2] at e;cases e
  |some ms=>
   rw [e2] at e
   cases e
   rw [h1.int_inv,zbS e2 h2]
   rfl
noncomputable def Zz:List Xv→Option (List Bool)
 |[]=>some []
 | .bl i::r=>(Zz r).map (i:: ·)
 |_::_=>none
theorem UO:∀{xs:List Xv} {ns:List Bool} {vs:List V},Zz xs=some ns→zM K j H xs vs→vs=ns.map V.bl
 |[],ns,vs,e,h=>by cases e;exact h.nil_inv
 |x::r,ns,vs,e,h=>by
  obtain ⟨v,ws,rfl,h1,h2⟩:=h.cons_inv
  cases x<;>simp only [Zz,reduceCtorEq] at e
  cases e2:Zz r with
  |none=>rw [e2] at e;cases e
  |some ms=>
   rw [e2] at e
   cases e
   rw [h1.bl_inv,UO e2 h2]
   rfl
noncomputable def zfz:Opn:=fun xs S=>match xs with
 |[x]=>((yf S x).bind Zz).map fun ns=>(.bl (ns.any id),S)
 |_=>none
noncomputable def Tr:Opn:=fun xs S=>match xs with
 |[x]=>((yf S x).bind Zz).map fun ns=>(.bl (ns.all id),S)
 |_=>none
theorem ziE:To K (zju K) zfz:=by
 intro F j σ H ρ S S' xs z vs Q E1 hv h k
 unfold zfz at h
 split at h
 ·rename_i x
  cases e:yf S x with
  |none=>rw [e] at h;cases h
  |some l=>
   rw [e] at h
   cases e2:Zz l with
   |none=>simp [e2] at h
   |some ns=>
    simp only [Option.bind_some,e2,Option.map_some,Option.some.injEq,Prod.mk.injEq] at h
    obtain ⟨rfl,rfl⟩:=h
    obtain ⟨w,rfl,hx⟩:=hv.d1
    obtain ⟨p,ws,rfl,h1,h2⟩:=E1.lstAt hx e
    refine ⟨p,ns,rfl,?_,k _ _ _ Ext.refl E1 (.bl _)⟩
    rw [←UO e2 h2]
    exact h1.sql
 ·cases h
theorem UP:To K (zjv K) Tr:=by
 intro F j σ H ρ S S' xs z vs Q E1 hv h k
 unfold Tr at h
 split at h
 ·rename_i x
  cases e:yf S x with
  |none=>rw [e] at h;cases h
  |some l=>
   rw [e] at h
   cases e2:Zz l with
   |none=>simp [e2] at h
   |some ns=>
    simp only [Option.bind_some,e2,Option.map_some,Option.some.injEq,Prod.mk.injEq] at h
    obtain ⟨rfl,rfl⟩:=h
    obtain ⟨w,rfl,hx⟩:=hv.d1
    obtain ⟨p,ws,rfl,h1,h2⟩:=E1.lstAt hx e
    refine ⟨p,ns,rfl,?_,k _ _ _ Ext.refl E1 (.bl _)⟩
    rw [←UO e2 h2]
    exact h1.sql
 ·cases h
noncomputable def XL (neg:Bool):Op2:=fun x y S=>match x,y with
 | .int a,.int b=>some (.bl (neg !=decide (a=b)),S)
 | .str a,.str b=>some (.bl (neg !=decide (a=b)),S)
 | .bl a,.bl b=>some (.bl (neg !=decide (a=b)),S)
 | .non,.non=>some (.bl (neg !=true),S)
 | .int _,.str _=>some (.bl (neg !=false),S)
 | .str _,.int _=>some (.bl (neg !=false),S)
 |_,_=>none
theorem Xg:YV K rEq (XL false):=by
 intro F j σ H ρ S S' x y z u v Q E1 hx hy h k
 cases hx<;>cases hy<;>simp only [XL,reduceCtorEq,Option.some.injEq,Prod.mk.injEq,Bool.false_bne] at h<;>obtain ⟨rfl,rfl⟩:=h<;>refine ⟨rfl,k _ _ _ Ext.refl E1 ?_⟩<;>simp<;>exact .bl _
noncomputable def D.many:D→Bool
 | .tup _=>true
 | .lst _=>true
 |_=>false
noncomputable def zfA (c:String) (S:Sto):Xv→Option Bool
 | .non=>some false
 | .int _=>some (c=="int")
 | .bl _=>some (c=="bool"||c=="int")
 | .str _=>some (c=="str")
 | .tup _=>some (c=="tuple")
 | .ct _=>some (c=="tuple")
 | .ref n=>(yf S (.ref n)).map fun _=>c=="list"
 | .lam _ _=>none
structure UQ (c:String):Prop where
 non:∀K,PySem.W.kitOne K (.type "NoneType") (.type c)=some false
 bl:∀K,PySem.W.kitOne K (.type "bool") (.type c)=some (c=="bool"||c=="int")
 int:∀K,PySem.W.kitOne K (.type "int") (.type c)=some (c=="int")
 str:∀K,PySem.W.kitOne K (.type "str") (.type c)=some (c=="str")
 tup:∀K,PySem.W.kitOne K (.type "tuple") (.type c)=some (c=="tuple")
 lst:∀K,PySem.W.kitOne K (.type "list") (.type c)=some (c=="list")
theorem Zm (a b:String) (K:PySem.W.Frag) (h1:(Value.type a==Value.type b)=false) (h:(fastBuiltinMro a).map (·.contains (.type b))=some false) (hm:PySem.W.kitMeta b=true):PySem.W.kitOne K (.type a) (.type b)=some false:=ziw h1 h hm rfl
theorem zdv:UQ "int":=⟨fun K=>Zm _ _ K (by decide) (by decide+kernel) (by decide+kernel),fun K=>zaH,fun K=>Xf,fun K=>Zm _ _ K (by decide) (by decide+kernel) (by decide+kernel),fun K=>Zm _ _ K (by decide) (by decide+kernel) (by decide+kernel),fun K=>Zm _ _ K (by decide) (by decide+kernel) (by decide+kernel)⟩
theorem zbT:UQ "bool":=⟨fun K=>Zm _ _ K (by decide) (by decide+kernel) (by decide+kernel),fun K=>Xf,fun K=>zaI,fun K=>Zm _ _ K (by decide) (by decide+kernel) (by decide+kernel),fun K=>Zm _ _ K (by decide) (by decide+kernel) (by decide+kernel),fun K=>Zm _ _ K (by decide) (by decide+kernel) (by decide+kernel)⟩
theorem zdw:UQ "str":=⟨fun K=>Zm _ _ K (by decide) (by decide+kernel) (by decide+kernel),fun K=>Zm _ _ K (by decide) (by decide+kernel) (by decide+kernel),fun K=>Zm _ _ K (by decide) (by decide+kernel) (by decide+kernel),fun K=>Xf,fun K=>Zm _ _ K (by decide) (by decide+kernel) (by decide+kernel),fun K=>Zm _ _ K (by decide) (by decide+kernel) (by decide+kernel)⟩
theorem zac:UQ "tuple":=⟨fun K=>Zm _ _ K (by decide) (by decide+kernel) (by decide+kernel),fun K=>Zm _ _ K (by decide) (by decide+kernel) (by decide+kernel),fun K=>Zm _ _ K (by decide) (by decide+kernel) (by decide+kernel),fun K=>Zm _ _ K (by decide) (by decide+kernel) (by decide+kernel),fun K=>Xf,fun K=>Zm _ _ K (by decide) (by decide+kernel) (by decide+kernel)⟩
theorem zbU:UQ "list":=⟨fun K=>Zm _ _ K (by decide) (by decide+kernel) (by decide+kernel),fun K=>Zm _ _ K (by decide) (by decide+kernel) (by decide+kernel),fun K=>Zm _ _ K (by decide) (by decide+kernel) (by decide+kernel),fun K=>Zm _ _ K (by decide) (by decide+kernel) (by decide+kernel),fun K=>Zm _ _ K (by decide) (by decide+kernel) (by decide+kernel),fun K=>Xf⟩
noncomputable def Wy (c:String):Xv→Sto→Option (Xv×Sto):=fun x S=>(zfA c S x).map fun b=>(.bl b,S)
theorem zg1 {c:String} (ok:UQ c) (E1:En K F j H σ ρ S) {b:Bool} {Q:VK} (h:Xis K j H x v) (e:zfA c S x=some b) (k:Q (.bl b) H):zgP K [v,.ty c] H Q:=by
 cases h with
 |non=>cases e;exact ⟨_,_,_,_,_,rfl,rfl,.of .non,ok.non K,k⟩
 |bl b=>cases e;exact ⟨_,_,_,_,_,rfl,rfl,.of (.bl b),ok.bl K,k⟩
 |int i=>cases e;exact ⟨_,_,_,_,_,rfl,rfl,.of (.int i),ok.int K,k⟩
 |str z=>cases e;exact ⟨_,_,_,_,_,rfl,rfl,.of (.str z),ok.str K,k⟩
 |tup h l=>cases e;exact ⟨_,_,_,_,_,rfl,rfl,.sqt (SqT.of h),ok.tup K,k⟩
 |ct h l=>cases e;exact ⟨_,_,_,_,_,rfl,rfl,.sqt (h H),ok.tup K,k⟩
 |lam h l=>cases e
 | @ref n a h=>
  simp only [zfA] at e
  cases e1:yf S (.ref n) with
  |none=>rw [e1] at e;cases e
  |some l=>
   rw [e1] at e
   cases e
   obtain ⟨a',vs,ea,g1,g2⟩:=E1.lstAt (.ref h) e1
   cases ea
   exact ⟨_,_,_,_,_,rfl,rfl,.sql g1.sql,ok.lst K,k⟩
theorem ziF {c:String} {t:TE} {m:TwE} (ok:UQ c) (h:RE K E t m):RE K E (tCB (zgP K) (zbt t (zbt (tC (.ty c)) zgB))) (eUn (Wy c) m):=by
 intro F j σ H ρ S r Q En0 e k
 rcases zl e with ⟨x,S1,e1,e⟩|⟨c,S1,e1,rfl⟩
 ·obtain ⟨z,S3,e3,rfl⟩:=Zj e
  unfold Wy at e3
  cases e4:zfA c S1 x with
  |none=>rw [e4] at e3;cases e3
  |some b=>
   rw [e4] at e3
   cases e3
   exact h En0 e1 fun j1 H1 X1 E1 u hu=>zg1 ok E1 hu e4 (k _ _ X1 E1 _ (.bl _))
 ·exact h En0 e1 k
noncomputable def Xh:Xv→Sto→Option (Xv×Sto):=fun x S=>(yf S x).map fun l=>(.ref S.length,S++[.lst l.reverse])
theorem zcS {t:TE} {m:TwE} (h:RE K E t m):RE K E (zbI K t) (eUn Xh m):=by
 intro F j σ H ρ S r Q En0 e k
 rcases zl e with ⟨x,S1,e1,e⟩|⟨c,S1,e1,rfl⟩
 ·obtain ⟨z,S3,e3,rfl⟩:=Zj e
  unfold Xh at e3
  cases e4:yf S1 x with
  |none=>rw [e4] at e3;cases e3
  |some l=>
   rw [e4] at e3
   cases e3
   refine h En0 e1 fun j1 H1 X1 E1 u hu=> ?_
   obtain ⟨p,ys,rfl,h1,h2⟩:=E1.lstAt hu e4
   refine ⟨p,ys,rfl,h1,fun l hl=> ?_⟩
   obtain ⟨E2,X2,h3⟩:=E1.lst h2.reverse hl
   exact k _ _ (X1.trans X2) E2 _ h3
 ·exact h En0 e1 k
end
end L2
namespace L2
open PySem PySem.Spec PyProof.Rows
noncomputable def zcT:Xv→Option Key
 | .int i=>some (.inl i)
 | .str z=>some (.inr z)
 |_=>none
noncomputable def zbV (S:Sto):Xv→Option (Nat×List (Key×Xv))
 | .ref n=>match S[n]? with
  |some (.dk kvs)=>some (n,kvs)
  |_=>none
 |_=>none
noncomputable def Vk {κ:Type} [DecidableEq κ] (kvs:List (κ×Xv)) (k:κ):Option Xv:=(kvs.find? fun kv=>decide (kv.1=k)).map (·.2)
noncomputable def ziG {κ:Type} [DecidableEq κ] (kvs:List (κ×Xv)) (k:κ) (x:Xv):List (κ×Xv):=
 if (kvs.any fun kv=>decide (kv.1=k))=true then kvs.map (fun kv=>if kv.1=k then (kv.1,x) else kv) else kvs++[(k,x)]
section
variable {K:PySem.W.Frag} {E:XK} {F:Fm} {j:List Addr} {H:Hp} {σ:St} {ρ:Rho} {S:Sto} {x:Xv} {v:V} {κ:Type}
theorem zdx {k:Key} (h:Xis K j H x v) (e:zcT x=some k):v=kV k:=by
 cases h<;>simp only [zcT,Option.some.injEq,reduceCtorEq] at e<;>subst e<;>rfl
theorem zad {n:Nat} {kvs:List (Key×Xv)} (h:zbV S x=some (n,kvs)):x= .ref n∧S[n]? =some (.dk kvs):=by
 cases x<;>simp only [zbV,reduceCtorEq] at h
 split at h
 ·cases h;exact ⟨rfl,by assumption⟩
 ·cases h
theorem En.dk {n:Nat} {kvs:List (Key×Xv)} (E1:En K F j H σ ρ S) (hx:Xis K j H x v) (h:zbV S x=some (n,kvs)):∃a ks,v= .ref a∧j[n]? =some a∧H a=some (.dK ks)∧KX K j H kvs ks:=by
 obtain ⟨rfl,hs⟩:=zad h
 obtain ⟨a,rfl,hj⟩:=hx.ref_inv
 obtain ⟨ks,e1,e2⟩:=E1.cel _ _ _ hs hj
 exact ⟨a,ks,rfl,hj,e1,e2⟩
theorem KX.len:∀{kvs:List (κ×Xv)} {ks:List (κ×V)},KX K j H kvs ks→ks.length=kvs.length
 |_,_,.nil=>rfl
 |_,_,.cons _ l=>by rw [List.length_cons,List.length_cons,l.len]
theorem KX.val [DecidableEq κ] {k:κ}:∀{kvs:List (κ×Xv)} {ks:List (κ×V)},KX K j H kvs ks→(∀y,Vk kvs k=some y→∃w,Xd ks k=some w∧Xis K j H y w)∧(Vk kvs k=none→Xd ks k=none)
 |_,_,.nil=>⟨fun _ e=>by simp [Vk] at e,fun _=>rfl⟩
 |(k1,y1)::r,(_,w1)::rs,.cons h l=>by
  obtain ⟨i1,i2⟩:=KX.val (k:=k) l
  by_cases e:k1=k
  ·subst e
   refine ⟨fun y ey=> ?_,fun ey=> ?_⟩
   ·simp [Vk] at ey
    subst ey
    exact ⟨w1,by simp [Xd],h⟩
   ·simp [Vk] at ey
  ·have e1:Vk ((k1,y1)::r) k=Vk r k:=by simp [Vk,List.find?_cons,e]
   have e2:Xd ((k1,w1)::rs) k=Xd rs k:=by simp [Xd,List.find?_cons,e]
   rw [e1,e2]
   exact ⟨i1,i2⟩
theorem KX.append:∀{kvs r:List (κ×Xv)} {ks rs:List (κ×V)},KX K j H kvs ks→KX K j H r rs→KX K j H (kvs++r) (ks++rs)
 |_,_,_,_,.nil,h=>h
 |_,_,_,_,.cons h l,g=> .cons h (l.append g)
theorem KX.any {f:κ→Bool}:∀{kvs:List (κ×Xv)} {ks:List (κ×V)},KX K j H kvs ks→(ks.any fun p=>f p.1)=kvs.any fun p=>f p.1
 |_,_,.nil=>rfl
 |_,_,.cons _ l=>by rw [List.any_cons,List.any_cons,l.any]
theorem KX.put [DecidableEq κ] {k:κ} (hx:Xis K j H x v) {kvs:List (κ×Xv)} {ks:List (κ×V)} (h:KX K j H kvs ks):KX K j H (ziG kvs k x) (Vg ks k v):=by
 unfold ziG Vg
 rw [h.any (f:=fun a=>decide (a=k))]
 split
 ·rename_i hc
  clear hc
  induction h with
  |nil=>exact .nil
  | @cons k1 y w r rs h l ih=>
   rw [List.map_cons,List.map_cons]
   by_cases e:k1=k
   ·rw [if_pos e,if_pos e];exact .cons hx ih
   ·rw [if_neg e,if_neg e];exact .cons h ih
 ·exact h.append (.cons hx .nil)
theorem En.wdk {n:Nat} {kvs kvs':List (Key×Xv)} {ws:List (Key×V)} {a:Addr} (E1:En K F j H σ ρ S) (h:zbV S x=some (n,kvs)) (hj:j[n]? =some a) (hw:KX K j H kvs' ws):En K F j (upd H a (.dK ws)) σ ρ (S.set n (.dk kvs'))∧Ext j H j (upd H a (.dK ws)):=
 E1.write (zad h).2 rfl hj rfl fun X=>⟨ws,zw,hw.mono X⟩
noncomputable def zaR:TwE:=fun _ S=>some (.ok (.ref S.length) (S++[.dk []]))
theorem zdy:RE K E zeZ zaR:=by
 intro F j σ H ρ S r Q En0 e k p hp
 cases e
 have X:Ext j H (j++[p]) (upd H p (.dK [])):=⟨fun n a e=>by rw [List.getElem?_append_left (List.getElem?_eq_some_iff.1 e).1];exact e,xS.same (wD hp)⟩
 obtain ⟨E1,_⟩:=En0.cell (o:= .dK []) (c:= .dk []) hp ⟨[],zw,.nil⟩
 exact k _ _ X E1 _ (.ref (by rw [←En0.jl];simp))
theorem VZ {a:Addr} {ks:List (Key×V)} {kvs:List (Key×Xv)} {key:Key} (f1:H a=some (.dK ks)) (f2:KX K j H kvs ks):∃o,zbx H a (kV key) o∧o.isSome=(Vk kvs key).isSome∧∀z zd,Xis K j H z zd→Xis K j H ((Vk kvs key).getD z) (o.getD zd):=by
 refine ⟨_,zbx.k f1,?_,fun z zd hz=> ?_⟩
 ·cases ev:Vk kvs key with
  |none=>rw [f2.val.2 ev];rfl
  |some y=>obtain ⟨w,g1,_⟩:=f2.val.1 _ ev;rw [g1];rfl
 ·cases ev:Vk kvs key with
  |none=>rw [f2.val.2 ev];exact hz
  |some y=>obtain ⟨w,g1,g2⟩:=f2.val.1 _ ev;rw [g1];exact g2
end
end L2
namespace L2
open PySem PySem.Spec PyProof.Rows
open PySem.Builtin.Int (intBits)
noncomputable def W {α:Type} (r:Option (Rs α)) (P:α→Sto→Prop):Prop:=∃a S,r=some (.ok a S)∧P a S
noncomputable def WO (r:Option (Xv×Sto)) (P:Xv→Sto→Prop):Prop:=∃a S,r=some (a,S)∧P a S
noncomputable def WS (r:Option Fl) (N:Rho→Sto→Prop) (R:Xv→Sto→Prop):Prop:=(∃ρ S,r=some (.nx ρ S)∧N ρ S)∨∃x S,r=some (.rt x S)∧R x S
section
variable {ρ:Rho} {S S':Sto} {d x y:Xv} {a b m o:TwE} {c:TwT} {s t:TwS} {i k:Nat} {P:Xv→Sto→Prop} {PB:Bool→Sto→Prop} {PL:List Xv→Sto→Prop} {PO:Option Int→Sto→Prop} {N:Rho→Sto→Prop} {R:Xv→Sto→Prop}
theorem W.of {α:Type} {r:Option (Rs α)} {a:α} {P:α→Sto→Prop} (e:r=some (.ok a S)) (h:P a S):W r P:=⟨a,S,e,h⟩
theorem WO.of {r:Option (Xv×Sto)} (e:r=some (x,S)) (h:P x S):WO r P:=⟨x,S,e,h⟩
theorem W.imp {α:Type} {r:Option (Rs α)} {P Q:α→Sto→Prop} (h:W r P) (k:∀a S,P a S→Q a S):W r Q:=by
 obtain ⟨a,S,e,h⟩:=h
 exact ⟨a,S,e,k _ _ h⟩
theorem WS.nx {r:Option Fl} (e:r=some (.nx ρ S)) (h:N ρ S):WS r N R:= .inl ⟨ρ,S,e,h⟩
theorem WS.rt {r:Option Fl} (e:r=some (.rt x S)) (h:R x S):WS r N R:= .inr ⟨x,S,e,h⟩
theorem W.bind {α β:Type} {r:Option (Rs α)} {f:α→Sto→Option (Rs β)} {P:β→Sto→Prop} (h:W r fun a S=>W (f a S) P):W (rb r f) P:=by
 obtain ⟨a,S,rfl,h⟩:=h
 exact h
theorem WS.bind {α:Type} {r:Option (Rs α)} {f:α→Sto→Option Fl} (h:W r fun a S=>WS (f a S) N R):WS (sb r f) N R:=by
 obtain ⟨a,S,rfl,h⟩:=h
 exact h
theorem W.okP {r:Option (Xv×Sto)} (h:WO r P):W (okP r) P:=by
 obtain ⟨a,S,rfl,h⟩:=h
 exact ⟨a,S,rfl,h⟩
theorem xi (h:ρ[i]? =some (some d)) (k:P d S):W (za i ρ S) P:= .of (by unfold za;rw [h]) k
theorem zki (k:P d S):W (eC d ρ S) P:= .of rfl k
theorem Wz {f:Op2} (h:W (a ρ S) fun x S1=>W (b ρ S1) fun y S2=>WO (f x y S2) P):W (eOp f a b ρ S) P:=W.bind (h.imp fun _ _ h=>W.bind (h.imp fun _ _ h=>W.okP h))
theorem zfB {f:Xv→Sto→Option (Xv×Sto)} (h:W (a ρ S) fun x S1=>WO (f x S1) P):W (eUn f a ρ S) P:=W.bind (h.imp fun _ _ h=>W.okP h)
theorem vQ (h:W (a ρ S) fun x S1=>∃v,x= .bl v∧PB v S1):W (bE a ρ S) PB:=W.bind (h.imp fun x S1 h=>by obtain ⟨v,rfl,k⟩:=h;exact .of rfl k)
theorem zjG (h:W (c ρ S) fun v S1=>P (.bl v) S1):W (eB c ρ S) P:=W.bind (h.imp fun _ _ k=> .of rfl k)
theorem zaS (h:W (c ρ S) fun v S1=>PB (!v) S1):W (Tp c ρ S) PB:=W.bind (h.imp fun _ _ k=> .of rfl k)
theorem zfC {c2:TwT} (h:W (c ρ S) fun v S1=>(v=true→W (c2 ρ S1) PB)∧(v=false→PB false S1)):W (zgU c c2 ρ S) PB:=W.bind (h.imp fun v S1 k=>by
 cases v with
 |true=>rw [if_pos rfl];exact k.1 rfl
 |false=>exact .of rfl (k.2 rfl))
theorem zjH {c2:TwT} (h:W (c ρ S) fun v S1=>(v=true→PB true S1)∧(v=false→W (c2 ρ S1) PB)):W (bOr c c2 ρ S) PB:=W.bind (h.imp fun v S1 k=>by
 cases v with
 |true=>exact .of rfl (k.1 rfl)
 |false=>rw [if_neg (by simp)];exact k.2 rfl)
theorem Ua (h:W (a ρ S) fun x S1=>∃v,x= .bl v∧(v=true→W (b ρ S1) P)∧(v=false→P (.bl false) S1)):W (zeg a b ρ S) P:=W.bind ((vQ h).imp fun v S1 k=>by
 cases v with
 |true=>rw [if_pos rfl];exact k.1 rfl
 |false=>exact .of rfl (k.2 rfl))
theorem Wm (h:W (c ρ S) fun v S1=>(v=true→W (a ρ S1) P)∧(v=false→W (b ρ S1) P)):W (eIf c a b ρ S) P:=W.bind (h.imp fun v S1 k=>by
 cases v with
 |true=>rw [if_pos rfl];exact k.1 rfl
 |false=>rw [if_neg (by simp)];exact k.2 rfl)
theorem YE (k:PL [] S):W (evL [] ρ S) PL:= .of rfl k
theorem zR {ms:List TwE} (h:W (m ρ S) fun d S1=>W (evL ms ρ S1) fun ds S2=>PL (d::ds) S2):W (evL (m::ms) ρ S) PL:=W.bind (h.imp fun _ _ h=>W.bind (h.imp fun _ _ k=> .of rfl k))
theorem zaT {ms:List TwE} (h:W (evL ms ρ S) fun ds S1=>P (.tup ds) S1):W (XJ ms ρ S) P:=W.bind (h.imp fun _ _ k=> .of rfl k)
theorem zfD {ms:List TwE} (h:W (evL ms ρ S) fun ds S1=>P (.ref S1.length) (S1++[.lst ds])):W (VI ms ρ S) P:=W.bind (h.imp fun _ _ k=> .of rfl k)
theorem ZB {f:Opn} {ms:List TwE} (h:W (evL ms ρ S) fun ds S1=>WO (f ds S1) P):W (eFn f ms ρ S) P:=W.bind (h.imp fun _ _ h=>W.okP h)
theorem vW {tw:TwF} {ms:List TwE} (h:W (evL ms ρ S) fun ds S1=>W (tw ds S1) P):W (zI tw ms ρ S) P:=W.bind h
theorem ziH (k:PO none S):W (oNo ρ S) PO:= .of rfl k
theorem zfE (h:W (m ρ S) fun x S1=>∃k,x= .int k∧PO (some k) S1):W (YQ m ρ S) PO:=W.bind (h.imp fun x S1 h=>by obtain ⟨v,rfl,k⟩:=h;exact .of rfl k)
theorem zjI {f:Xv→Option Int→Option Int→Sto→Option (Xv×Sto)} {lo hi:TwO} (h:W (m ρ S) fun x S1=>W (lo ρ S1) fun u S2=>W (hi ρ S2) fun v S3=>WO (f x u v S3) P):W (eSl f m lo hi ρ S) P:=
 W.bind (h.imp fun _ _ h=>W.bind (h.imp fun _ _ h=>W.bind (h.imp fun _ _ h=>W.okP h)))
theorem WA {f:OpM} {ms:List TwE} (h:W (o ρ S) fun x S1=>(∃l,yf S1 x=some l)∧W (evL ms ρ S1) fun ys S2=>WO (f x ys S2) P):W (eMt f o ms ρ S) P:=W.bind (h.imp fun x S1 h=>by
 obtain ⟨⟨l,e⟩,h⟩:=h
 rw [e,Option.bind_some]
 exact W.bind (h.imp fun _ _ h=>W.okP h))
theorem zfF (k:P (.ref S.length) (S++[.dk []])):W (zaR ρ S) P:= .of rfl k
theorem ya (h:WS (s ρ S) (fun ρ1 S1=>WS (t ρ1 S1) N R) R):WS (zu s t ρ S) N R:=by
 unfold zu
 rcases h with ⟨ρ1,S1,e,h⟩|⟨x,S1,e,h⟩
 ·rw [e];exact h
 ·rw [e];exact .rt rfl h
theorem yd (h:N ρ S):WS (yZ ρ S) N R:= .nx rfl h
theorem YF (h:W (m ρ S) fun d S1=>N (ρ.set i (some d)) S1):WS (zJ m (gN i) ρ S) N R:=WS.bind (h.imp fun _ _ k=> .nx rfl k)
theorem ZC (h:W (m ρ S) fun _ S1=>N ρ S1):WS (XU m ρ S) N R:=WS.bind (h.imp fun _ _ k=> .nx rfl k)
theorem yE (h:W (m ρ S) fun d S1=>R d S1):WS (yk m ρ S) N R:=WS.bind (h.imp fun _ _ k=> .rt rfl k)
theorem yv (h:W (c ρ S) fun v S1=>(v=true→WS (s ρ S1) N R)∧(v=false→WS (t ρ S1) N R)):WS (sIf c s t ρ S) N R:=WS.bind (h.imp fun v S1 k=>by
 cases v with
 |true=>rw [if_pos rfl];exact k.1 rfl
 |false=>rw [if_neg (by simp)];exact k.2 rfl)
theorem zaU {r:Option Fl} (I:Rho→Sto→Prop) (h:WS r I R) (k:∀ρ S,I ρ S→N ρ S):WS r N R:=by
 rcases h with ⟨ρ,S,e,h⟩|h
 ·exact .inl ⟨ρ,S,e,k ρ S h⟩
 ·exact .inr h
theorem zfG {n:Nat} (h:WS (VJ c s n ρ S) N R):WS (sWh n c s ρ S) N R:=h
theorem Ub {n:Nat} (h:W (c ρ S) fun v S1=>(v=true→WS (s ρ S1) (fun ρ2 S2=>WS (VJ c s n ρ2 S2) N R) R)∧(v=false→N ρ S1)):WS (VJ c s (n+1) ρ S) N R:=by
 unfold VJ
 refine WS.bind (h.imp fun v S1 k=> ?_)
 cases v with
 |true=>
  rw [if_pos rfl]
  rcases k.1 rfl with ⟨ρ2,S2,e2,h⟩|⟨x,S2,e2,h⟩
  ·rw [e2];exact h
  ·rw [e2];exact .rt rfl h
 |false=>exact .nx rfl (k.2 rfl)
theorem YG {n:TwI} {g:TwG} (h:W (n ρ S) fun get S1=>∃xs,get S1=some xs∧WS (XV get g s (xs.length+1) 0 ρ S1) N R):WS (UK n g s ρ S) N R:=WS.bind (h.imp fun get S1 h=>by
 obtain ⟨xs,e,h⟩:=h
 rw [e,Option.bind_some]
 exact h)
theorem vX {get:Sto→Option (List Xv)} {g:TwG} {xs:List Xv} (J:Nat→Rho→Sto→Prop) (hg:∀i ρ S,i≤xs.length→J i ρ S→get S=some xs)
  (h:∀(i:Nat) (x:Xv) ρ S,xs[i]? =some x→J i ρ S→W (g x ρ S) fun ρ1 S1=>WS (s ρ1 S1) (fun ρ2 S2=>J (i+1) ρ2 S2) R) (h0:J 0 ρ S) (k:∀ρ S,J xs.length ρ S→N ρ S):WS (XV get g s (xs.length+1) 0 ρ S) N R:=by
 have aux:∀(n i:Nat) (ρ:Rho) (S:Sto),i+n=xs.length→J i ρ S→WS (XV get g s (n+1) i ρ S) N R:=by
  intro n
  induction n with
  |zero=>
   intro i ρ S e hj
   unfold XV
   rw [hg i ρ S (by omega) hj,Option.bind_some,List.getElem?_eq_none (by omega)]
   dsimp only
   rw [if_pos (by omega)]
   exact .nx rfl (k ρ S (by rw [show xs.length=i by omega];exact hj))
  |succ n ih=>
   intro i ρ S e hj
   unfold XV
   have hi:i<xs.length:=by omega
   rw [hg i ρ S (by omega) hj,Option.bind_some,List.getElem?_eq_getElem hi]
   refine WS.bind ((h i _ ρ S (List.getElem?_eq_getElem hi) hj).imp fun ρ1 S1 h1=> ?_)
   rcases h1 with ⟨ρ2,S2,e2,h2⟩|⟨x,S2,e2,h2⟩
   ·rw [e2];exact ih (i+1) ρ2 S2 (by omega) h2
   ·rw [e2];exact .rt rfl h2
 exact aux xs.length 0 ρ S (by omega) h0
theorem zae (h:W (m ρ S) fun x S1=>∃l,yf S1 x=some l∧Q' (fun S=>yf S x) S1):W (iL m ρ S) Q':=W.bind (h.imp fun x S1 h=>by
 obtain ⟨l,e,k⟩:=h
 rw [e]
 exact .of rfl k)
theorem zhY {Q':(Sto→Option (List Xv))→Sto→Prop} (h:W (m ρ S) fun x S1=>∃l,x.tupOf=some l∧Q' (fun _=>some l) S1):W (iT m ρ S) Q':=W.bind (h.imp fun x S1 h=>by
 obtain ⟨l,e,k⟩:=h
 rw [e]
 exact .of rfl k)
theorem vI {Q':(Sto→Option (List Xv))→Sto→Prop} (h:W (m ρ S) fun x S1=>∃k:Int,x= .int k∧(-(2^62)≤k∧k<2^62)∧Q' (fun _=>some (xh 0 k.toNat)) S1):W (iR1 m ρ S) Q':=W.bind (h.imp fun x S1 h=>by
 obtain ⟨k,rfl,hk,q⟩:=h
 dsimp only
 rw [if_pos hk]
 exact .of rfl q)
theorem xa {lo:Int} {n i:Nat} {x:Xv} (h:(xh lo n)[i]? =some x):i<n∧x= .int (lo+i):=by
 unfold xh at h
 rw [List.getElem?_map] at h
 have hi:i<n:=by
  apply Classical.byContradiction
  intro hn
  rw [List.getElem?_eq_none (by simp;omega)] at h
  cases h
 rw [List.getElem?_range hi] at h
 cases h
 exact ⟨hi,rfl⟩
theorem yg {lo:Int} {n:Nat}:(xh lo n).length=n:=by simp [xh]
theorem wG {cap:List (Option Nat)} {n:TwI} {g:TwG} (h:W (n ρ S) fun get S1=>∃xs,get S1=some xs∧W (Zk get g c m (xO cap ρ) (xs.length+1) 0 [] S1) P):W (xy cap n g c m ρ S) P:=W.bind (h.imp fun get S1 h=>by
 obtain ⟨xs,e,h⟩:=h
 rw [e,Option.bind_some]
 exact h)
theorem we {get:Sto→Option (List Xv)} {g:TwG} {ρc:Rho} {xs:List Xv} (hl:xs.length≤sizeLine) (J:Nat→List Xv→Sto→Prop) (hg:∀i es S,i≤xs.length→J i es S→get S=some xs)
  (h:∀(i:Nat) (x:Xv) es S,xs[i]? =some x→es.length=i→J i es S→W (g x ρc S) fun ρ1 S1=>W (c ρ1 S1) fun b S2=>b=true∧W (m ρ1 S2) fun y S3=>J (i+1) (es++[y]) S3) (h0:J 0 [] S)
  (k:∀es S,es.length=xs.length→J xs.length es S→P (.ref S.length) (S++[.lst es])):W (Zk get g c m ρc (xs.length+1) 0 [] S) P:=by
 have aux:∀(n i:Nat) (es:List Xv) (S:Sto),i+n=xs.length→es.length=i→J i es S→W (Zk get g c m ρc (n+1) i es S) P:=by
  intro n
  induction n with
  |zero=>
   intro i es S e el hj
   unfold Zk
   rw [hg i es S (by omega) hj,Option.bind_some,List.getElem?_eq_none (by omega)]
   dsimp only
   rw [if_pos (by omega)]
   exact .of rfl (k es S (by omega) (by rw [show xs.length=i by omega];exact hj))
  |succ n ih=>
   intro i es S e el hj
   unfold Zk
   have hi:i<xs.length:=by omega
   rw [hg i es S (by omega) hj,Option.bind_some,List.getElem?_eq_getElem hi]
   obtain ⟨ρ1,S1,e1,b,S2,e2,rfl,y,S3,e3,q⟩:=h i _ es S (List.getElem?_eq_getElem hi) el hj
   dsimp only [rn]
   rw [e1]
   dsimp only [rn]
   rw [e2]
   dsimp only [rn]
   rw [if_pos rfl,e3]
   dsimp only [rn]
   rw [if_pos (by omega)]
   exact ih (i+1) (es++[y]) S3 (by omega) (by simp [el]) q
 exact aux xs.length 0 [] S (by omega) rfl h0
theorem zg2 (k:PB true S):W (xm ρ S) PB:= .of rfl k
theorem ziI {n k:Nat} {xs:List Xv} {ρ0:Rho} (hn:xs.length=n) (h0:xs.map some++List.replicate k none=ρ0) (h:WS (s ρ0 S) (fun _ S1=>P .non S1) P):W (zT n k s xs S) P:=by
 unfold zT
 rw [if_pos hn,h0]
 rcases h with ⟨ρ,S1,e,h⟩|⟨x,S1,e,h⟩
 ·rw [e];exact .of rfl h
 ·rw [e];exact .of rfl h
variable {p q:Int}
theorem ziJ (k:P (.int (p+q)) S):WO (vA (.int p) (.int q) S) P:= .of rfl k
theorem ziK (k:P (.int (p-q)) S):WO (zcQ (.int p) (.int q) S) P:= .of rfl k
theorem zjJ (k:P (.bl (decide (p<q))) S):WO (dLt (.int p) (.int q) S) P:= .of rfl k
theorem zjK (k:P (.bl (decide (q<p))) S):WO (dGt (.int p) (.int q) S) P:= .of rfl k
theorem ziL (k:P (.bl (decide (p=q))) S):WO (Tq (.int p) (.int q) S) P:= .of rfl k
theorem ziM (k:P (.bl (!decide (p=q))) S):WO (zbQ (.int p) (.int q) S) P:= .of rfl k
theorem xX (h:0<q) (k:P (.int (p % q)) S):WO (Zl (.int p) (.int q) S) P:= .of (by unfold Zl xIC;exact if_pos (by simpa using h)) k
theorem yy (h:intBits p+intBits q≤134217728) (k:P (.int (p*q)) S):WO (xz (.int p) (.int q) S) P:= .of (by unfold xz xIC;exact if_pos (by simpa using h)) k
theorem ziN (h:(-(2^64)<p∧p<2^64)∨(-(2^64)<q∧q<2^64)) (k:P (.int (p*q)) S):WO (zgY (.int p) (.int q) S) P:= .of (by unfold zgY xIC;exact if_pos (decide_eq_true h)) k
theorem ziO (h:0≤q∧q≤1000000∧p.natAbs<2^64) (k:P (.int (p^q.toNat)) S):WO (zcR (.int p) (.int q) S) P:= .of (by unfold zcR xIC;exact if_pos (decide_eq_true h)) k
theorem Uc (h:0<q∧q<1073741824) (k:P (.int (p / q)) S):WO (Ww (.int p) (.int q) S) P:= .of (by unfold Ww xIC;exact if_pos (decide_eq_true h)) k
theorem Ye (h:q≠0∧intBits q≤9000) (k:P (.int (p.fdiv q)) S):WO (YD (.int p) (.int q) S) P:= .of (by unfold YD xIC;exact if_pos (decide_eq_true h)) k
theorem ziP (k:P (.int (if q<p then q else p)) S):WO (ziD [.int p,.int q] S) P:= .of rfl k
theorem Vl {l:List Xv} (h:yf S x=some l) (k:P (.int l.length) S):WO (vV [x] S) P:= .of (by
 unfold vV XT
 dsimp only
 have:x.tupOf=none:=by cases x<;>first|rfl|cases h
 rw [this]
 dsimp only
 rw [h]
 rfl) k
theorem zP {l:List Xv} {z:Xv} (h:yf S x=some l) (e:atI l p=some z) (k:P z S):WO (xl x (.int p) S) P:= .of (by unfold xl;rw [h];dsimp only;rw [e];rfl) k
theorem zA {l:List Xv} {z:Xv} (h:x.tupOf=some l) (e:atI l p=some z) (k:P z S):WO (yp x (.int p) S) P:= .of (by unfold yp;rw [h];dsimp only;rw [e];rfl) k
theorem xD {β:Type} {x:β} {l:List β}:atI (x::l) 0=some x:=by
 unfold atI ixN
 rw [if_pos (show (0:Int)≤0 by decide),if_pos (by simp only [List.length_cons];omega)]
 rfl
theorem xn {β:Type} {x y:β} {l:List β}:atI (x::y::l) 1=some y:=by
 unfold atI ixN
 rw [if_pos (show (0:Int)≤1 by decide),if_pos (by simp only [List.length_cons];omega)]
 rfl
theorem ziQ {l:List Xv} (k:P y S):WO (yp (.tup (x::y::l)) (.int 1) S) P:=zA rfl xn k
theorem zcU {β:Type} {l:List β} {k:Int} {z:β} (h0:0≤k) (h:l[k.toNat]? =some z):atI l k=some z:=by
 have hk:=(List.getElem?_eq_some_iff.1 h).1
 unfold atI ixN
 rw [if_pos h0,if_pos (by omega)]
 exact h
theorem Xz {n:Nat} {l:List Xv} (h:UI S x=some (n,l)) (hz:l.length<sizeLine) (k:P .non (S.set n (.lst (l++[y])))):WO (wj x [y] S) P:= .of (by unfold wj;rw [h];dsimp only;rw [if_pos hz]) k
theorem zfH {l:List Xv} {lo hi:Option Int} (h:yf S x=some l) (k:P (.ref S.length) (S++[.lst (zbM l lo hi)])):WO (zbN x lo hi S) P:= .of (by unfold zbN;rw [h];rfl) k
theorem Zn {c:String} {v:Bool} (h:zfA c S x=some v) (k:P (.bl v) S):WO (Wy c x S) P:= .of (by unfold Wy;rw [h];rfl) k
end
theorem xP {S:Sto} {l:List Xv}:yf (S++[.lst l]) (.ref S.length)=some l:=by simp [yf]
theorem XA {S:Sto} {n:Nat} {l:List Xv} (h:S[n]? =some (.lst l)):UI S (.ref n)=some (n,l):=by simp [UI,h]
theorem zi {S:Sto} {n:Nat} {l:List Xv} (h:S[n]? =some (.lst l)):yf S (.ref n)=some l:=by simp [yf,h]
theorem zdz {S:Sto} {n:Nat} {l:List (Key×Xv)} (h:S[n]? =some (.dk l)):zbV S (.ref n)=some (n,l):=by simp [zbV,h]
end L2
namespace L2
open PySem PySem.Spec PyProof.Rows PySem.Calls
section
variable {X:Cx}
end
section
variable {K:PySem.W.Frag} {E:XK}
end
end L2
namespace L2
open PySem PySem.Spec PyProof.Rows PySem.Calls
section
variable {K:PySem.W.Frag} {E:XK}
end
end L2
namespace L2
open PySem PySem.Spec PyProof.Rows PySem.Calls
section
variable {X:Cx} {pins:List (Addr×Obj)} {σ:St} {H:Hp} {s:Shared}
end
end L2
namespace L2
open PySem PySem.Spec PyProof.Rows PySem.Calls PySem.W
section
variable {cmp:Nat→Nat→(Bool→Shared→Prop)→Shared→Prop} {r:Nat→Int} {n:Nat} {s:Shared}
end
end L2
namespace L2
open PySem PySem.Spec PyProof.Rows PySem.Calls PySem.W
section
variable {prog:Program} {w:World} {A:Around} {E:Value→Shared→Prop} {s:Shared}
end
end L2
namespace L2
open PySem PySem.Spec PyProof.Rows PySem.Calls PySem.W
open PySem.AutoSeq1 (wpAny_loadPart')
open PySem.MeetsSeq PySem.MeetsSeq2 PySem.MeetsSeq3
section
variable {prog:Program} {w:World} {A:Around} {E:Value→Shared→Prop} {s:Shared}
end
section
variable {X:Cx}
end
end L2
namespace L2
open PySem PySem.Spec PyProof.Rows PySem.Calls PySem.W
section
variable {X:Cx} {pins:List (Addr×Obj)} {σ:St} {H:Hp} {s:Shared} {a:Addr} {d:V} {u r:Value} {A:Around} {E:Value→Shared→Prop} {kvs:List (Key×V)} {k:Key}
end
section
variable {X:Cx} {o e f:Expr} {apos cpos:Pos} {td ty tx:TE}
end
end L2
namespace L2
open PySem PySem.Spec PyProof.Rows PySem.Calls PySem.W
open PySem.AutoSeq1 (wpAny_loadPart')
section
variable {prog:Program} {w:World} {A:Around} {E:Value→Shared→Prop} {s:Shared}
end
section
variable {X:Cx}
end
end L2
namespace L2
open PySem PySem.Spec PyProof.Rows PySem.Calls PySem.W
section
variable {prog:Program} {w:World} {A:Around} {E:Value→Shared→Prop} {s:Shared}
end
section
variable {X:Cx}
end
end L2
namespace L2
open PySem PySem.Spec PyProof.Rows PySem.Calls PySem.W
open PySem.AutoSeq1 (wpAny_loadPart')
section
variable {prog:Program} {w:World} {A:Around} {E:Value→Shared→Prop} {s:Shared}
end
section
variable {X:Cx}
end
end L2
namespace L2
open PySem PySem.Spec PyProof.Rows PySem.Calls
mutual
inductive vJ (h:Heap):NK→Value→Prop where
 |int (i:Int) (t:Tok):vJ h (.int i) (.int i t)
 |str (x:Str) (t:Tok):vJ h (.str x) (.str x t)
 |tup {a:Addr} {o:Obj} {items:Array Value} {n:Nat} {l:List NK}:h.get? a=some o→o.cls= .type "tuple"→o.data= .seq items n→xT h l items.toList→vJ h (.tup l) (.ref a)
inductive xT (h:Heap):List NK→List Value→Prop where
 |nil:xT h [] []
 |cons {k:NK} {v:Value} {ks:List NK} {vs:List Value}:vJ h k v→xT h ks vs→xT h (k::ks) (v::vs)
end
mutual
noncomputable def XW:NK→Nat
 | .int _=>1
 | .str _=>1
 | .tup l=>wH l+1
noncomputable def wH:List NK→Nat
 |[]=>0
 |k::r=>XW k+wH r
end
section
variable {h h':Heap}
mutual
theorem vJ.inj:∀{x y:NK} {v:Value},vJ h x v→vJ h y v→x=y
 |_,_,_,.int i t,hy=>by cases hy;rfl
 |_,_,_,.str x t,hy=>by cases hy;rfl
 |_,_,_,.tup e1 e2 e3 l1,hy=>by
  cases hy with
  |tup f1 f2 f3 l2=>
   rw [e1] at f1
   cases f1
   rw [e3] at f3
   injection f3 with g1 g2
   subst g1
   rw [xT.inj l1 l2]
theorem xT.inj:∀{x y:List NK} {v:List Value},xT h x v→xT h y v→x=y
 |_,_,_,.nil,hy=>by cases hy;rfl
 |_,_,_,.cons a l,hy=>by
  cases hy with
  |cons b m=>rw [vJ.inj a b,xT.inj l m]
end
mutual
theorem vJ.keeps {d:Addr} {o:Obj} {es:Array DictEntry} {ep:Nat} (ho:h.get? d=some o) (hd:o.data= .dict es ep) (hs:Heap.SameBut d h h'):∀{x:NK} {v:Value},vJ h x v→vJ h' x v
 |_,_,.int i t=> .int i t
 |_,_,.str x t=> .str x t
 |_,_,.tup (a:=a) e1 e2 e3 l=>by
  have hne:a≠d:=by
   rintro rfl
   rw [ho] at e1
   cases e1
   rw [hd] at e3
   exact nomatch e3
  exact .tup ((hs.2 a hne).trans e1) e2 e3 (xT.keeps ho hd hs l)
theorem xT.keeps {d:Addr} {o:Obj} {es:Array DictEntry} {ep:Nat} (ho:h.get? d=some o) (hd:o.data= .dict es ep) (hs:Heap.SameBut d h h'):∀{x:List NK} {v:List Value},xT h x v→xT h' x v
 |_,_,.nil=> .nil
 |_,_,.cons a l=> .cons (vJ.keeps ho hd hs a) (xT.keeps ho hd hs l)
end
theorem xT.len:∀{x:List NK} {v:List Value},xT h x v→x.length=v.length
 |_,_,.nil=>rfl
 |_,_,.cons a l=>by simp [l.len]
theorem xT.get:∀{x:List NK} {v:List Value} {i:Nat} {k:NK},xT h x v→x[i]? =some k→∃u,v[i]? =some u∧vJ h k u
 |_,_,_,_,.nil,e=>by simp at e
 |_,_,0,_,.cons a l,e=>by simp at e;subst e;exact ⟨_,rfl,a⟩
 |_,_,i+1,k,.cons a l,e=>by
  obtain ⟨u,e1,e2⟩:=l.get (i:=i) (k:=k) (by simpa using e)
  exact ⟨u,by simpa using e1,e2⟩
end
theorem XB:∀{l:List NK} {k:NK},k∈l→wZ k≤ZZ l
 |[],_,h=>by cases h
 |a::r,k,h=>by
  unfold ZZ
  rcases List.mem_cons.1 h with rfl|h
  ·exact Nat.le_max_left _ _
  ·exact Nat.le_trans (XB h) (Nat.le_max_right _ _)
section
variable {prog:Program} {w:World} {E:Value→Shared→Prop}
theorem zg3:∀(n:Nat) {A:Around} {s:Shared} {k:NK} {v:Value} {Q:Int→Shared→Prop},wZ k≤n→A.units+n<cLine→vJ s.heap k v→Q (YN w k) {s with toks:=s.toks+XW k}→wpAny (model prog w) A (pyHash v) Q E s:=by
 intro n
 induction n with
 |zero=>
  intro A s k v Q hn hu hk h
  cases hk with
  |int i t=>exact wpAny_pyHash_int (by simpa [YN,XW,zcu] using h)
  |str x t=>exact wpAny_pyHash_str (by simpa [YN,XW,zcu] using h)
  |tup _ _ _ _=>unfold wZ at hn;omega
 |succ n ih=>
  intro A s k v Q hn hu hk h
  cases hk with
  |int i t=>exact wpAny_pyHash_int (by simpa [YN,XW,zcu] using h)
  |str x t=>exact wpAny_pyHash_str (by simpa [YN,XW,zcu] using h)
  | @tup a o items m ks ho hc hd hi=>
   have ty:s.TypeIs (.ref a) "tuple":=⟨o,ho,hc⟩
   have hnl:ZZ ks≤n:=by unfold wZ at hn;omega
   have sl:=F.slot_tuple_hash
   unfold pyHash
   (try unfold pyHashByItsType)
   have main:∀{R:Value→Shared→Prop},R (.int (Builtin.Tuple.tupleHashOf (ZJ w ks)) (s.toks+wH ks)) {s with toks:=s.toks+wH ks+1}→wpAny (model prog w) A.in1 (Builtin.«tuple.__hash__» ⟨[.ref a],[]⟩) (fun fin s'=>∃v,fin=PySem.Fin.done (.ret v)∧R v s') E s:=fun {R} hR=>by
    refine wpAny_bind (m:=Builtin.Tuple.tupleItemsOf (.ref a)) (wpAny_tupleItemsOf ho hd (wpAny_bind ?_))
    rw [←Array.forIn_toList]
    refine wpAny_forIn_list _ (fun rest (acc:Array Int) s'=>∃pre post,ks=pre++post∧xT s.heap post rest∧acc.toList=ZJ w pre∧s'={s with toks:=s.toks+wH pre}) _ ?_ ?_ _ _ ⟨[],ks,rfl,hi,by simp [ZJ],by simp [wH]⟩
    ·rintro v1 more acc _ ⟨pre,post,rfl,hl,hb,rfl⟩
     cases hl with
     | @cons k _ post' _ h1 hl'=>
      have app:∀(l:List NK) (k:NK),ZJ w (l++[k])=ZJ w l++[YN w k]∧wH (l++[k])=wH l+XW k:=fun l k=>by
       induction l with
       |nil=>simp [ZJ,wH]
       |cons a r ih=>refine ⟨by simp [ZJ,ih.1],by simp [wH,ih.2];omega⟩
      refine wpAny_bind (ih (Nat.le_trans (XB (by simp)) hnl) (show A.units+1+n<cLine by omega) (show vJ s.heap k v1 from h1) ?_)
      have goal:∃pre2 post2,pre++k::post'=pre2++post2∧xT s.heap post2 more∧(acc.push (YN w k)).toList=ZJ w pre2∧({s with toks:=s.toks+wH pre+XW k}:Shared)={s with toks:=s.toks+wH pre2}:=⟨pre++[k],post',by simp,hl',by rw [(app pre k).1];simp [hb],by rw [(app pre k).2,Nat.add_assoc]⟩
      first|exact wpAny_pure goal|exact wpAny_bind (wpAny_pure (wpAny_pure goal))
    ·rintro acc _ ⟨pre,post,rfl,hl,hb,rfl⟩
     cases hl
     rw [List.append_nil] at hR
     show wpAny _ _ (retInt (Builtin.Tuple.tupleHashOf acc.toList)) _ _ _
     rw [hb]
     refine wpAny_ret_mkInt ?_
     exact hR
   refine wpAny_bind (wpAny_cRoomFor_or (.inr (show A.units<cLine by omega)) (wpAny_bind (wpAny_specialOf ty sl.lookup ?_)))
   refine wpAny_ite_split (fun z=>absurd z (by rw [beq_builtin_none];decide)) fun _=>wpAny_bind (wpAny_specialOf ty sl.lookup ?_)
   refine wpAny_bind (m:=callSpecialIfBoundUnlessNone? (.ref a) "__hash__" _) (wpAny_callSpecialIfBoundUnlessNone?_slot ty sl (wpAny_call_entry sl ty F.entry_tuple_hash (main ?_) (F.args_tuple_hash_1 _)))
   unfold YN XW reduceHash at h
   have en:({s with toks:=s.toks+wH ks+1}:Shared)={s with toks:=s.toks+(wH ks+1)}:=by rw [Nat.add_assoc]
   rw [en]
   refine wpAny_ite_split (fun z=> ?_) fun z=>wpAny_bind (wpAny_rule ?_)
   ·rw [if_pos z] at h;exact wpAny_pure h
   ·rw [if_neg z] at h;exact wpAny_pure h
theorem WB {A:Around} {s:Shared} {k j:NK} {v u:Value} (hu:A.units<cLine) (hk:vJ s.heap k v) (hj:vJ s.heap j u) (hd:(∀l,k≠ .tup l)∨∀l,j≠ .tup l):SeqAt.EqAt A s v u (decide (k=j)):=by
 have tp:∀{a:Addr} {o:Obj} {items:Array Value} {n:Nat},s.heap.get? a=some o→o.cls= .type "tuple"→o.data= .seq items n→s.heap.IsTuple a items:=fun a b c=>⟨_,a,b,_,c⟩
 cases hk with
 |int i t=>
  cases hj with
  |int j t'=>
   rw [show decide (NK.int i=NK.int j)=(i==j) by rw [Bool.eq_iff_iff,decide_eq_true_iff,beq_iff_eq];exact ⟨fun e=>by cases e;rfl,fun e=>by rw [e]⟩]
   exact SeqAt.EqAt.int_int _ _ _ _
  |str y t'=>rw [decide_eq_false (by intro e;cases e)];exact SeqAt.EqAt.int_str _ _ _ _
  |tup a b c _=>rw [decide_eq_false (by intro e;cases e)];exact SeqAt.EqAt.int_tuple _ _ (tp a b c) hu
 |str x t=>
  cases hj with
  |int j t'=>rw [decide_eq_false (by intro e;cases e)];exact SeqAt.EqAt.str_int _ _ _ _
  |str y t'=>
   rw [show decide (NK.str x=NK.str y)=(x==y) by rw [Bool.eq_iff_iff,decide_eq_true_iff,beq_iff_eq];exact ⟨fun e=>by cases e;rfl,fun e=>by rw [e]⟩]
   exact SeqAt.EqAt.str_str _ _ _ _
  |tup a b c _=>rw [decide_eq_false (by intro e;cases e)];exact SeqAt.EqAt.str_tuple _ _ (tp a b c) hu
 |tup a b c _=>
  cases hj with
  |int j t'=>rw [decide_eq_false (by intro e;cases e)];exact SeqAt.EqAt.tuple_int _ _ (tp a b c) hu
  |str y t'=>rw [decide_eq_false (by intro e;cases e)];exact SeqAt.EqAt.tuple_str _ _ (tp a b c) hu
  |tup _ _ _ _=>
   rcases hd with h|h
   ·exact (h _ rfl).elim
   ·exact (h _ rfl).elim
theorem zbW {α:Type} (l m:List α) (e:Nat→Bool) (he:∀(j:Nat) a b,l[j]? =some a→m[j]? =some b→(e j=true↔a=b)):((List.range (min l.length m.length)).all e&&(l.length==m.length))=true↔l=m:=by
 rw [Bool.and_eq_true,List.all_eq_true,beq_iff_eq]
 constructor
 ·rintro ⟨h1,h2⟩
  refine List.ext_getElem? fun j=> ?_
  by_cases hj:j<l.length
  ·have hj2:j<m.length:=by omega
   rw [List.getElem?_eq_getElem hj,List.getElem?_eq_getElem hj2]
   exact congrArg some ((he j _ _ (List.getElem?_eq_getElem hj) (List.getElem?_eq_getElem hj2)).1 (h1 j (List.mem_range.2 (by omega))))
  ·rw [List.getElem?_eq_none (by omega),List.getElem?_eq_none (by omega)]
 ·rintro rfl
  refine ⟨fun j hj=> ?_,rfl⟩
  have hj:=List.mem_range.1 hj
  have hj:j<l.length:=by omega
  exact (he j _ _ (List.getElem?_eq_getElem hj) (List.getElem?_eq_getElem hj)).2 rfl
theorem zjL:∀(n:Nat) {A:Around} {s:Shared} {k j:NK} {v u:Value},wZ k≤n→A.units+n<cLine→vJ s.heap k v→vJ s.heap j u→SeqAt.EqAt A s v u (decide (k=j)):=by
 intro n
 induction n with
 |zero=>
  intro A s k j v u hn hu hk hj
  refine WB (by omega) hk hj (.inl fun l e=> ?_)
  subst e
  unfold wZ at hn
  omega
 |succ n ih=>
  intro A s k j v u hn hu hk hj
  cases hk with
  |int i t=>exact WB (by omega) (.int i t) hj (.inl fun l e=>by cases e)
  |str i t=>exact WB (by omega) (.str i t) hj (.inl fun l e=>by cases e)
  | @tup a o items m l ho hc hd hi=>
   cases hj with
   |int i t=>exact WB (by omega) (.tup ho hc hd hi) (.int i t) (.inr fun l e=>by cases e)
   |str i t=>exact WB (by omega) (.tup ho hc hd hi) (.str i t) (.inr fun l e=>by cases e)
   | @tup a' o' items' m' l' ho' hc' hd' hi'=>
    have hnl:ZZ l≤n:=by unfold wZ at hn;omega
    by_cases hab:a=a'
    ·subst hab
     have e:=(vJ.tup ho hc hd hi).inj (vJ.tup ho' hc' hd' hi')
     rw [decide_eq_true e]
     exact SeqAt.EqAt.same _
    ·refine SeqAt.EqAt.of_refs hab ?_
     have s1:items.size=l.length:=by have:=hi.len;simpa using this.symm
     have s2:items'.size=l'.length:=by have:=hi'.len;simpa using this.symm
     have:=SeqAt.RcAt.tuples (A:=A) (s:=s) (e:=fun q=>decide (l[q]? =l'[q]?)) ⟨o,ho,hc,m,hd⟩ ⟨o',ho',hc',m',hd'⟩ (by omega) (fun q h1 h2=>by
      have q1:l[q]? =some l[q]:=List.getElem?_eq_getElem (by omega)
      have q2:l'[q]? =some l'[q]:=List.getElem?_eq_getElem (by omega)
      obtain ⟨u1,f1,g1⟩:=hi.get q1
      obtain ⟨u2,f2,g2⟩:=hi'.get q2
      have e1:items[q]=u1:=by rw [Array.getElem?_toList] at f1;rw [Array.getElem?_eq_getElem h1] at f1;exact Option.some.inj f1
      have e2:items'[q]=u2:=by rw [Array.getElem?_toList] at f2;rw [Array.getElem?_eq_getElem h2] at f2;exact Option.some.inj f2
      rw [e1,e2]
      have:=ih (A:=A.in1) (Nat.le_trans (XB (List.getElem_mem (by omega))) hnl) (by show A.units+1+n<cLine;omega) g1 g2
      rwa [show decide (l[q]? =l'[q]?)=decide (l[q]=l'[q]) by rw [q1,q2,decide_eq_decide,Option.some.injEq]])
     rw [s1,s2] at this
     have hfin:((List.range (min l.length l'.length)).all (fun q=>decide (l[q]? =l'[q]?))&&(l.length==l'.length))=decide (NK.tup l=NK.tup l'):=by
      rw [Bool.eq_iff_iff,decide_eq_true_iff,zbW l l' _ fun j a b ha hb=>by rw [decide_eq_true_iff,ha,hb,Option.some.injEq]]
      exact ⟨fun e=>by rw [e],fun e=>by cases e;rfl⟩
     rwa [hfin] at this
theorem zfI:∀(n:Nat) {A:Around} {s:Shared} {k:NK} {v:Value} {Q:Bool→Shared→Prop},wZ k≤n→vJ s.heap k v→Q true s→wpAny (model prog w) A (eqIsQuiet n v) Q E s:=by
 intro n
 induction n with
 |zero=>
  intro A s k v Q hn hk h
  cases hk with
  |int i t=>rw [eqIsQuiet_byValue _ rfl];exact wpAny_pure h
  |str x t=>rw [eqIsQuiet_byValue _ rfl];exact wpAny_pure h
  |tup _ _ _ _=>unfold wZ at hn;omega
 |succ n ih=>
  intro A s k v Q hn hk h
  cases hk with
  |int i t=>rw [eqIsQuiet_byValue _ rfl];exact wpAny_pure h
  |str x t=>rw [eqIsQuiet_byValue _ rfl];exact wpAny_pure h
  | @tup a o items m ks ho hc hd hi=>
   have ty:s.TypeIs (.ref a) "tuple":=⟨o,ho,hc⟩
   have hnl:ZZ ks≤n:=by unfold wZ at hn;omega
   unfold eqIsQuiet
   refine wpAny_bind (wpAny_specialOf ty F.slot_tuple_eq.lookup (wpAny_bind (m:=isInstance (.ref a) (.type "tuple")) (wpAny_isInstance ty isSubtype_tuple_tuple ?_)))
   refine wpAny_ite_split (fun z=>by cases z) fun _=>wpAny_bind (wpAny_seqItems ho hd (wpAny_bind (m:=forIn items _ _) ?_))
   rw [←Array.forIn_toList]
   refine wpAny_forIn_list _ (fun rest acc s'=>acc.1=none∧s'=s∧∃post,(∀k∈post,wZ k≤n)∧xT s.heap post rest) _ ?_ ?_ _ _ ⟨rfl,rfl,ks,fun k hk=>Nat.le_trans (XB hk) hnl,hi⟩
   ·rintro v1 rest acc _ ⟨ha,rfl,post,hall,hl⟩
    cases hl with
    | @cons k _ post' _ h1 hl'=>exact wpAny_bind (ih (hall k (by simp)) h1 (wpAny_ite_split (fun z=>by cases z) fun _=>wpAny_pure ⟨rfl,rfl,post',fun u hu=>hall u (List.mem_cons_of_mem _ hu),hl'⟩))
   ·rintro ⟨a1,a2⟩ _ ⟨ha,rfl,_⟩
    cases ha
    exact wpAny_pure h
end
noncomputable def Vz (prog:Program) (w:World):HeapKind prog w NK where
 is:=fun h k a=>vJ h k (.ref a)∧wZ k≤8
 hash:=YN w
 draws:=XW
 room:=fun A=>A.units+8<cLine
 inj:=fun hx hy=>hx.1.inj hy.1
 keeps:=fun x ho hd hs=>⟨x.1.keeps ho hd hs,x.2⟩
 pyHash:=fun hu hk h=>zg3 8 hk.2 hu hk.1 h
 eqBool:=fun hu hx hy h=>zjL 8 hx.2 hu hx.1 hy.1 _ _ _ _ h
 quiet:=fun hk h=>zfI 8 hk.2 hk.1 h
end L2
namespace L2
open PySem PySem.Spec PyProof.Rows PySem.Calls
mutual
inductive NIs (K:PySem.W.Frag) (H:Hp):V→NK→Prop where
 |int (i:Int):NIs K H (.int i) (.int i)
 |str (x:Str):NIs K H (.str x) (.str x)
 |tup {a:Addr} {vs:List V} {l:List NK}:SqT K H a vs→zaV K H vs l→NIs K H (.ref a) (.tup l)
inductive zaV (K:PySem.W.Frag) (H:Hp):List V→List NK→Prop where
 |nil:zaV K H [] []
 |cons {v:V} {k:NK} {vs:List V} {ks:List NK}:NIs K H v k→zaV K H vs ks→zaV K H (v::vs) (k::ks)
end
section
variable {X:Cx} {pins:List (Addr×Obj)} {σ:St} {H:Hp} {s:Shared}
mutual
theorem NIs.isNK (I:Inv X pins σ H s):∀{v:V} {k:NK} {u:Value},NIs X.K H v k→zQ v u→vJ s.heap k u
 |_,_,_,.int i,r=>by obtain ⟨t,rfl⟩:=(show ∃t,_=Value.int i t from r);exact .int i t
 |_,_,_,.str x,r=>by obtain ⟨t,rfl⟩:=(show ∃t,_=Value.str x t from r);exact .str x t
 |_,_,_,.tup (a:=a) h l,r=>by
  cases (show _=Value.ref a from r)
  obtain ⟨its,r1,⟨o,p1,p2,n,p3⟩,_⟩:=I.tuple h
  exact .tup p1 p2 p3 (zaV.isNK I l (by simpa using r1))
theorem zaV.isNK (I:Inv X pins σ H s):∀{v:List V} {k:List NK} {u:List Value},zaV X.K H v k→zO v u→xT s.heap k u
 |_,_,_,.nil,r=>by cases r;exact .nil
 |_,_,_,.cons h l,r=>by
  cases r with
  |cons a b=>exact .cons (NIs.isNK I h a) (zaV.isNK I l b)
end
end
noncomputable def zfJ (K:PySem.W.Frag) (H:Hp) (ks:List (NK×Addr×V)):Prop:=∀p∈ks,NIs K H (.ref p.2.1) p.1∧wZ p.1≤8
noncomputable def YX (ks:List (NK×Addr×V)) (k:NK):Option V:=(ks.find? fun p=>decide (p.1=k)).map (·.2.2)
noncomputable def zaW (ks:List (NK×Addr×V)) (k:NK) (b:Addr) (v:V):List (NK×Addr×V):=if (YX ks k).isSome=true then ks.map (fun p=>if p.1=k then (p.1,p.2.1,v) else p) else ks++[(k,b,v)]
theorem zbX (ks:List (NK×Addr×V)) (k:NK) (b:Addr) (v:V):(zaW ks k b v).length≤ks.length+1:=by
 unfold zaW
 split
 ·rw [List.length_map];omega
 ·simp
noncomputable abbrev PN:List (NK×Addr×V)→List (NK×Addr×Value)→Prop:=Paired fun (p:NK×Addr×V) (q:NK×Addr×Value)=>p.1=q.1∧p.2.1=q.2.1∧zQ p.2.2 q.2.2
theorem PN.val {ks:List (NK×Addr×V)} {xs:List (NK×Addr×Value)} (r:PN ks xs) (k:NK):Yq (YX ks k) ((atKey xs k).map (·.2)):=by
 induction r with
 |nil=>exact True.intro
 | @cons p q ps qs h t ih=>
  obtain ⟨h1,_,h2⟩:=h
  by_cases e:p.1=k
  ·have e':q.1=k:=h1.symm.trans e
   have b:atKey (q::qs) k=some q.2:=by simp [atKey,List.find?_cons,e']
   have a:YX (p::ps) k=some p.2.2:=by simp [YX,List.find?_cons,e]
   rw [a,b];exact h2
  ·have e':¬q.1=k:=fun z=>e (h1.trans z)
   have b:atKey (q::qs) k=atKey qs k:=by simp [atKey,List.find?_cons,e']
   have a:YX (p::ps) k=YX ps k:=by simp [YX,List.find?_cons,e]
   rw [a,b];exact ih
theorem PN.put {ks:List (NK×Addr×V)} {xs:List (NK×Addr×Value)} (r:PN ks xs) (k:NK) {b:Addr} {y:V} {u:Value} (ry:zQ y u):PN (zaW ks k b y) (storedH xs k b u):=by
 have e:(YX ks k).isSome=(atKey xs k).isSome:=by rw [(r.val k).isSome_eq,Option.isSome_map]
 unfold zaW storedH
 rw [e]
 by_cases q:(atKey xs k).isSome=true
 ·rw [if_pos q,if_pos q]
  clear q e
  induction r with
  |nil=>exact .nil
  | @cons p q ps qs h t ih=>
   rw [List.map_cons,List.map_cons]
   refine .cons ?_ ih
   obtain ⟨h1,h2,h3⟩:=h
   unfold putAt
   by_cases e:p.1=k
   ·rw [if_pos e,if_pos (h1.symm.trans e)];exact ⟨h1,h2,ry⟩
   ·rw [if_neg e,if_neg (fun z=>e (h1.trans z))];exact ⟨h1,h2,h3⟩
 ·rw [if_neg q,if_neg q];exact Paired.snoc r ⟨rfl,rfl,ry⟩
theorem PN.all {P:NK→Addr→Prop} {ks:List (NK×Addr×V)} {xs:List (NK×Addr×Value)} (r:PN ks xs) (h:∀p∈ks,P p.1 p.2.1):∀x∈xs,P x.1 x.2.1:=by
 induction r with
 |nil=>intro x hx;cases hx
 | @cons p q ps qs h' t ih=>
  intro x hx
  rcases List.mem_cons.1 hx with rfl|hx
  ·obtain ⟨e1,e2,_⟩:=h'
   rw [←e1,←e2]
   exact h p (by simp)
  ·exact ih (fun p hp=>h p (by simp [hp])) x hx
section
variable {X:Cx} {pins:List (Addr×Obj)} {σ:St} {H:Hp} {s:Shared} {a:Addr}
theorem zhZ {ks:List (NK×Addr×V)} (I:Inv X pins σ H s) (e:H a=some (.dN ks)) (hk:zfJ X.K H ks):ks.length≤sizeLine∧(a==sysModules)=false∧∃xs,PN ks xs∧s.heap.DictOfH (Vz X.prog X.w) a xs:=by
 obtain ⟨z,y,xs,r,o,es,ep,h1,h2,h3,h4,h5⟩:=(show yI X.prog X.w H s.heap a (.dN ks) from I.hok a _ e)
 refine ⟨z,y,xs,r,o,es,ep,h1,h2,h3,h4,?_,h5⟩
 exact PN.all r (P:=fun k b=>(Vz X.prog X.w).is s.heap k b) fun p hp=>⟨(hk p hp).1.isNK I rfl,(hk p hp).2⟩
theorem zfK (I:Inv X pins σ H s) (e:H a=some (.dK [])):(a==sysModules)=false∧s.heap.DictOfH (Vz X.prog X.w) a []:=by
 obtain ⟨z,y,vs,r,o,es,ep,h1,h2,h3,h4,h5,_⟩:=zhS I.hok e
 cases r
 refine ⟨y,o,es,ep,h1,h2,h3,?_,by simp,by simp⟩
 have:es.toList=[]:=by
  have:=h5.length
  simpa using this
 rw [this]
 rfl
end
noncomputable def zaf (K:PySem.W.Frag) (H:Hp) (a:Addr) (y:V) (r:Option V):Prop:=
 zbx H a y r∨∃k b,y= .ref b∧NIs K H y k∧wZ k≤8∧((∃ks,H a=some (.dN ks)∧zfJ K H ks∧r=YX ks k)∨(H a=some (.dK [])∧r=none))
noncomputable def zfL (K:PySem.W.Frag) (H:Hp) (a:Addr) (y v:V) (H':Hp):Prop:=
 zeX H a y v H'∨∃k b,y= .ref b∧NIs K H y k∧wZ k≤8∧((∃ks,H a=some (.dN ks)∧zfJ K H ks∧ks.length<sizeLine∧H'=upd H a (.dN (zaW ks k b v)))∨(H a=some (.dK [])∧H'=upd H a (.dN [(k,b,v)])))
section
variable {X:Cx} {pins:List (Addr×Obj)} {σ:St} {H:Hp} {s:Shared} {a:Addr} {y v d:V} {u r:Value} {o:Option V} {A:Around} {E:Value→Shared→Prop}
theorem dgN {k:NK} (I:Inv X pins σ H s) (h:(∃ks,H a=some (.dN ks)∧zfJ X.K H ks∧o=YX ks k)∨(H a=some (.dK [])∧o=none)):(a==sysModules)=false∧∃xs,s.heap.DictOfH (Vz X.prog X.w) a xs∧Yq o ((atKey xs k).map (·.2)):=by
 rcases h with ⟨ks,e,hk,rfl⟩|⟨e,rfl⟩
 ·obtain ⟨_,hd,xs,rel,dd⟩:=zhZ I e hk
  exact ⟨hd,xs,dd,rel.val k⟩
 ·obtain ⟨hd,dd⟩:=zfK I e
  exact ⟨hd,[],dd,True.intro⟩
theorem zcV {Q:Value→Shared→Prop} (hu:A.units+9<cLine) (I:Inv X pins σ H s) (g:zaf X.K H a y (some v)) (ry:zQ y u) (h:∀w' s',Inv X pins σ H s'→zQ v w'→Q w' s'):wpAny (model X.prog X.w) A (getItem (.ref a) u) Q E s:=by
 rcases g with g|⟨k,b,rfl,hk,hd,g⟩
 ·exact zd4 (by omega) I g ry h
 ·cases (show u=Value.ref b from ry)
  obtain ⟨_,xs,dd,rel⟩:=dgN I g
  obtain ⟨w',hw,rw'⟩:=Yq.some_of rel
  obtain ⟨p,hp,hp2⟩:=Option.map_eq_some_iff.mp hw
  refine wpAny_getItem_heap (knd:=Vz X.prog X.w) (by show A.units+1+8<cLine;omega) ⟨hk.isNK I rfl,hd⟩ dd hp ?_
  rw [hp2]
  exact h w' _ (I.tok _) rw'
theorem zfM {Q:Value→Shared→Prop} (hu:A.units+9<cLine) (I:Inv X pins σ H s) (g:zaf X.K H a y o) (ry:zQ y u) (h:∀s',Inv X pins σ H s'→Q (.bool (!o.isSome)) s'):wpAny (model X.prog X.w) A (compareOp .NotIn u (.ref a)) Q E s:=by
 rcases g with g|⟨k,b,rfl,hk,hd,g⟩
 ·exact zgL (by omega) I g ry h
 ·cases (show u=Value.ref b from ry)
  obtain ⟨hs,xs,dd,rel⟩:=dgN I g
  refine wpAny_notIn_heap (knd:=Vz X.prog X.w) (by show A.units+1+8<cLine;omega) ⟨hk.isNK I rfl,hd⟩ hs dd ?_
  have q:=rel.isSome_eq
  rw [Option.isSome_map] at q
  rw [←q]
  exact h _ (I.tok _)
theorem zcW {H':Hp} {Q:Unit→Shared→Prop} (hu:A.units+9<cLine) (I:Inv X pins σ H s) (g:zfL X.K H a y v H') (ry:zQ y u) (rv:zQ v r) (h:∀s',Inv X pins σ H' s'→Q () s'):
  wpAny (model X.prog X.w) A (setItem (.ref a) u r) Q E s:=by
 rcases g with g|⟨k,b,rfl,hk,hd,⟨ks,e,hks,hl,rfl⟩|⟨e,rfl⟩⟩
 ·exact zd5 (by omega) I g ry rv h
 ·cases (show u=Value.ref b from ry)
  obtain ⟨z,hs,xs,rel,dd⟩:=zhZ I e hks
  have hz:xs.length≤sizeLine:=by rw [←Paired.length rel];exact z
  have hl2:(zaW ks k b v).length≤sizeLine:=by have:=zbX ks k b v;omega
  refine wpAny_setItem_heap (knd:=Vz X.prog X.w) (hsz:=hz) (by show A.units+1+8<cLine;omega) ⟨hk.isNK I rfl,hd⟩ dd fun h' dd' hs'=>h _ ?_
  obtain ⟨q,es,ep,hq,h2,h3,h4,_,h5⟩:=dd'
  exact VT I (by rw [e];exact True.intro) hs' ⟨q,hq⟩ ⟨hl2,hs,_,rel.put k rv,q,es,ep,hq,h2,h3,h4,h5⟩
 ·cases (show u=Value.ref b from ry)
  obtain ⟨hs,dd⟩:=zfK I e
  refine wpAny_setItem_heap (knd:=Vz X.prog X.w) (hsz:=Nat.zero_le _) (by show A.units+1+8<cLine;omega) ⟨hk.isNK I rfl,hd⟩ dd fun h' dd' hs'=>h _ ?_
  obtain ⟨q,es,ep,hq,h2,h3,h4,_,h5⟩:=dd'
  refine VT I (by rw [e];exact True.intro) hs' ⟨q,hq⟩ ⟨by simp;decide,hs,_,?_,q,es,ep,hq,h2,h3,h4,h5⟩
  exact .cons ⟨rfl,rfl,rv⟩ .nil
theorem zaX (I:Inv X pins σ H s) (g:zaf X.K H a y o):s.TypeIs (.ref a) "dict":=by
 rcases g with g|⟨k,b,rfl,hk,hd,g⟩
 ·exact zby I g
 ·obtain ⟨_,xs,dd,_⟩:=dgN I g
  exact dd.typeIs
end
noncomputable def zfN (K:PySem.W.Frag) (td ty:TE):TE:=fun σ H Q=>td σ H fun x H1=>ty σ H1 fun y H2=>∃a v,x= .ref a∧zaf K H2 a y (some v)∧Q v H2
noncomputable def zh0 (K:PySem.W.Frag) (neg:Bool) (ty td:TE):TE:=fun σ H Q=>ty σ H fun y H1=>td σ H1 fun x H2=>∃a o,x= .ref a∧zaf K H2 a y o∧Q (.bl (neg !=o.isSome)) H2
noncomputable def zfO (K:PySem.W.Frag) (td ty tv:TE):TS:=fun D σ H=>tv σ H fun v H1=>td σ H1 fun x H2=>ty σ H2 fun y H3=>∃a H4,x= .ref a∧zfL K H3 a y v H4∧D.nx σ H4
section
variable {X:Cx} {o i e f value:Expr} {pos pos' tpos apos cpos:Pos} {td ty tv tx:TE} {K:PySem.W.Frag} {r:Nat}
theorem zfP (hr:wc r X.A):X.A.units+9<cLine:=by have:=hr.un;omega
theorem zbY (hr:wc r X.A) (ho:PE X o td) (hi:PE X i ty) (hs:zjr i) (hK:X.K=K:=by rfl):PE X (.Subscript o i pos) (zfN K td ty):=by
 subst hK
 intro pins s σ H Q I h
 refine zgM PySem.F.slot_dict_getitem.lookup hs (thn (ho pins s σ H _ I h) ?_)
 rintro u s1 ⟨x,H1,I1,rx,q1⟩
 refine thn (hi pins s1 σ H1 _ I1 q1) ?_
 rintro iv s2 ⟨y,H2,I2,ry,a,v,ex,g,q2⟩
 subst ex
 obtain rfl:u=Value.ref a:=rx
 exact ⟨zaX I2 g,zcV (zfP hr) I2 g ry fun w' s3 I3 rw'=>⟨v,H2,I3,rw',q2⟩⟩
theorem UR (hr:wc r X.A) (hi:PE X i ty) (ho:PE X o td) (hK:X.K=K:=by rfl):PC X .NotIn i o (zh0 K true ty td):=by
 subst hK
 intro pins s σ H Q I h
 refine thn (hi pins s σ H _ I h) ?_
 rintro iv s1 ⟨y,H1,I1,ry,q1⟩
 refine thn (ho pins s1 σ H1 _ I1 q1) ?_
 rintro u s2 ⟨x,H2,I2,rx,a,ov,ex,g,q2⟩
 subst ex
 obtain rfl:u=Value.ref a:=rx
 exact zfM (zfP hr) I2 g ry fun s3 I3=>⟨.bl (true !=ov.isSome),H2,I3,by cases ov.isSome<;>rfl,q2⟩
theorem zbZ (hr:wc r X.A) (ho:PE X o td) (hi:PE X i ty) (hv:PE X value tv) (hs:swapsWith value (some (.Subscript o i pos')) pos.line X.env=pure false) (hK:X.K=K:=by rfl):
  PS X (.Assign [.Subscript o i pos'] value pos) (zfO K td ty tv):=by
 subst hK
 intro pins s σ H D I h
 refine wpAny_Assign_Subscript (thn (hv pins s σ H _ I h) ?_) hs
 rintro r s1 ⟨v,H1,I1,rv,q1⟩
 refine thn (ho pins s1 σ H1 _ I1 q1) ?_
 rintro u s2 ⟨x,H2,I2,rx,q2⟩
 refine thn (hi pins s2 σ H2 _ I2 q2) ?_
 rintro iv s3 ⟨y,H3,I3,ry,a,H4,ex,g,q3⟩
 subst ex
 obtain rfl:u=Value.ref a:=rx
 exact zcW (zfP hr) I3 g ry rv fun s4 I4=>⟨σ,H4,I4,q3⟩
end
end L2
namespace L2
open PySem PySem.Spec PyProof.Rows PySem.Calls PySem.W
section
variable {prog:Program} {w:World} {A:Around} {E:Value→Shared→Prop} {s:Shared} {d it:Addr} {es:Array DictEntry} {ep i:Nat}
end
end L2
namespace L2
open PySem PySem.Spec PyProof.Rows PySem.Calls PySem.W
noncomputable def ltL:List Int→List Int→Bool
 |[],[]=>false
 |[],_::_=>true
 |_::_,[]=>false
 |a::x,b::y=>if a=b then ltL x y else decide (a<b)
section
variable {prog:Program} {w:World} {A:Around} {E:Value→Shared→Prop} {s:Shared}
end
end L2
namespace L2
open PySem PySem.Spec PyProof.Rows PySem.Calls PySem.W
section
variable {prog:Program} {w:World} {A:Around} {E:Value→Shared→Prop} {s:Shared} {T:String} {r d:Addr} {n:Nat} {P:Nat→Value→Prop} {OK:Heap→Prop} {Q:Value→Shared→Prop}
end
section
variable {X:Cx}
end
end L2
namespace L2
open PySem PySem.Spec PyProof.Rows PySem.Calls
open AutoSeq1 (wpAny_loadPart')
section
variable {prog:Program} {w:World} {A:Around} {E:Value→Shared→Prop} {s:Shared} {it t:Addr} {its:Array Value}
end
section
variable {X:Cx}
end
end L2
namespace L2
open PySem PySem.Spec PyProof.Rows
section
variable {X:Cx}
end
end L2
namespace L2
open PySem PySem.Spec PyProof.Rows PySem.Calls PySem.W
section
variable {cmp:Nat→Nat→(Bool→Shared→Prop)→Shared→Prop} {r:Nat→Int} {n:Nat} {s:Shared}
end
section
variable {prog:Program} {w:World} {A:Around} {E:Value→Shared→Prop} {κ:SortKind} {it:Array Keyed} {s:Shared}
end
end L2
namespace L2
open PySem PySem.Spec PyProof.Rows PySem.Calls PySem.W
section
variable {X:Cx} {pins:List (Addr×Obj)} {σ:St} {H:Hp} {s:Shared} {h':Heap}
end
noncomputable def zjM (is:List (List Int)):Prop:=(2≤is.length→∀l∈is,l≠[])∧∀i j,i<j→j<is.length→ltL (is.getD j []) (is.getD i [])=true
section
variable {X:Cx} {k:Nat} {f:Addr} {fd:FuncData} {ps:List Str} {sp:Sp} {pins:List (Addr×Obj)} {σ:St} {H:Hp} {s:Shared}
end
section
variable {X:Cx}
end
end L2
namespace L2
open PySem PySem.Spec PyProof.Rows PySem.Calls PySem.W
section
variable {X:Cx}
end
end L2
namespace L2
open PySem PySem.Spec PyProof.Rows
namespace Sm
noncomputable def inB (b j:Nat):Bool:=b.testBit j
noncomputable def plL (b:Nat):List Nat:=(List.range 8).filter (inB b)
noncomputable def pl (b:Nat):Array Nat:=(plL b).toArray
noncomputable def st (h:Int):Nat→Nat×Nat
 |0=>(SetTable.bits h % 8,SetTable.bits h)
 |n+1=>SetTable.leap 7 (st h n).1 (st h n).2
noncomputable def pos (h:Int) (n:Nat):Nat:=(st h n).1
noncomputable def mkP (s:Nat×Nat):SetTable.Probe:={j:=s.1,more:=0,i:=s.1,perturb:=s.2,dummy:=none}
structure Tb (t:SetTable) (b:Nat):Prop where
 mask:t.mask=7
 place:t.place=pl b
 dum:t.dummies= #[]
noncomputable def ix (b j:Nat):Nat:=((List.range j).filter (inB b)).length
inductive zh1 (f:Nat→Int) (b:Nat) (x:Int) (n:Nat):SetTable.Met→Prop
 |empty (m:Nat):n≤m→inB b (pos x m)=false→(∀k,n≤k→k<m→inB b (pos x k)=true∧f (pos x k)≠x)→zh1 f b x n (.empty (pos x m) none)
 |cand (m:Nat):n≤m→inB b (pos x m)=true→f (pos x m)=x→(∀k,n≤k→k<m→inB b (pos x k)=true∧f (pos x k)≠x)→zh1 f b x n (.candidate (pos x m) (ix b (pos x m)) (mkP (st x (m+1))))
noncomputable def zjN (b:Nat) (f:Nat→Int):Prop:=∀j<8,inB b j=true→∃n,pos (f j) n=j∧∀m,m<n→inB b (pos (f j) m)=true
end Sm
end L2
namespace L2
open PySem PySem.Spec PyProof.Rows PySem.Calls PySem.W
section
variable {prog:Program} {w:World} {E:Value→Shared→Prop}
structure zkm (w:World) (h:Heap) (a:Addr) (b:Nat) (f:Nat→Int×Value) (kf:Nat→NK) (o:Obj) (ep:Nat) (t:SetTable):Prop where
 get:h.get? a=some o
 ex:o.ExactSet
 data:o.data= .set ((Sm.pl b).map f) ep t
 tb:Sm.Tb t b
 plain:t.plain=true
 lt:b<256
 few:(Sm.plL b).length≤4
 chain:Sm.zjN b fun j=>(f j).1
 keys:∀j<8,Sm.inB b j=true→(f j).1=YN w (kf j)∧(∃c,(f j).2= .ref c∧vJ h (kf j) (.ref c))∧wZ (kf j)≤8
 inj:∀i<8,∀j<8,Sm.inB b i=true→Sm.inB b j=true→kf i=kf j→i=j
variable {a:Addr} {b:Nat} {f:Nat→Int×Value} {kf:Nat→NK} {o:Obj} {ep:Nat} {t:SetTable} {A:Around} {s:Shared}
end
end L2
namespace L2
open PySem PySem.Spec PyProof.Rows PySem.Calls PySem.W
section
variable {h h':Heap}
end
section
variable {prog:Program} {w:World} {E:Value→Shared→Prop}
variable {a:Addr} {b:Nat} {f:Nat→Int×Value} {kf:Nat→NK} {o:Obj} {ep:Nat} {t:SetTable} {A:Around} {s:Shared}
end
end L2
namespace L2
open PySem PySem.Spec PyProof.Rows PySem.Calls PySem.W
section
variable {h h':Heap}
end
section
variable {prog:Program} {w:World}
variable {A:Around} {R:Result→Shared→Prop} {I:Addr} {fp wr:List Addr} {G:Array GenState→Array GenState→Prop} {n:Nat} {P:Nat→Value→Prop} {St:Nat→Shared→Prop}
end
end L2
namespace L2
open PySem PySem.Spec PyProof.Rows PySem.Calls PySem.W
section
variable {prog:Program} {w:World} {A:Around} {E:Value→Shared→Prop} {s:Shared}
end
end L2
set_option maxHeartbeats 3200000
namespace L2
open PySem PySem.Spec PyProof.Rows PySem.Calls PySem.W
section
variable {prog:Program} {w:World} {A:Around} {E:Value→Shared→Prop} {s:Shared}
end
end L2
namespace L2
open PySem PySem.Spec PyProof.Rows PySem.Calls PySem.W
structure zkn (h:Heap) (a:Addr) (b:Nat) (f:Nat→Int×Value) (o:Obj) (ep:Nat) (t:SetTable):Prop where
 get:h.get? a=some o
 ex:o.ExactSet
 data:o.data= .set ((Sm.pl b).map f) ep t
 tb:Sm.Tb t b
 plain:t.plain=true
 lt:b<256
 few:(Sm.plL b).length≤4
section
variable {prog:Program} {w:World} {A:Around} {E:Value→Shared→Prop} {s:Shared} {d it:Addr}
variable {b:Nat} {f:Nat→Int×Value} {o:Obj} {ep:Nat} {t:SetTable}
end
end L2
namespace L2
open PySem PySem.Spec PyProof.Rows PySem.Calls PySem.W
section
variable {prog:Program} {w:World} {A:Around} {E:Value→Shared→Prop} {s:Shared} {d it:Addr}
variable {b:Nat} {f:Nat→Int×Value} {o:Obj} {ep:Nat} {t:SetTable} {i:Nat}
end
end L2
namespace L2
open PySem PySem.Spec PyProof.Rows PySem.Calls PySem.W
mutual
noncomputable def cp:NK→NK→Bool
 | .int _,.int _=>true
 | .tup x,.tup y=>cpL x y
 |_,_=>false
noncomputable def cpL:List NK→List NK→Bool
 |a::x,b::y=>cp a b&&cpL x y
 |_,_=>true
end
end L2
namespace L2
open PySem PySem.Spec PyProof.Rows PySem.Calls PySem.W
section
open PySem.SeqAt
open PySem.AutoSeq1 (wpAny_loadPart')
open PySem.MeetsSeq PySem.MeetsSeq2 PySem.MeetsSeq3
variable {prog:Program} {w:World} {E:Value→Shared→Prop}
end
end L2
namespace L2
open PySem PySem.Spec PyProof.Rows PySem.Calls PySem.W
section
variable {prog:Program} {w:World} {A:Around} {E:Value→Shared→Prop} {s:Shared}
noncomputable def ziR (b:Bool):NK→Prop
 | .tup (.tup _::_)=>b=false
 | .tup (.int _::_)=>b=true
 |_=>False
end
end L2
namespace L2
open PySem PySem.Spec PyProof.Rows PySem.Calls PySem.W
section
variable {prog:Program} {w:World} {A:Around} {E:Value→Shared→Prop} {s:Shared}
end
end L2
namespace L2
open PySem PySem.Spec PyProof.Rows PySem.Calls PySem.W
structure KOk (b:Bool) (ks:List NK):Prop where
 cmp:∀x∈ks,∀y∈ks,cp x y=true
 dep:∀k∈ks,wZ k≤8
 fst:∀k∈ks,ziR b k
section
variable {X:Cx}
end
end L2
namespace L2
open PySem PySem.Spec PyProof.Rows PySem.Calls PySem.W
section
variable {X:Cx}
end
end L2
namespace L2
open PySem PySem.Spec PyProof.Rows PySem.Calls PySem.W
section
variable {prog:Program} {w:World} {A:Around} {E:Value→Shared→Prop} {s:Shared}
end
section
variable {X:Cx}
end
end L2
namespace L2
open PySem PySem.Spec PyProof.Rows PySem.Calls PySem.W
section
variable {X:Cx} {pins:List (Addr×Obj)} {σ:St} {H:Hp} {s:Shared}
end
section
variable {X:Cx}
end
end L2
namespace L2
open PySem PySem.Spec PyProof.Rows PySem.Calls PySem.W
section
variable {prog:Program} {w:World} {A:Around} {E:Value→Shared→Prop} {s:Shared}
end
section
variable {X:Cx} {pins:List (Addr×Obj)} {σ:St} {H H':Hp} {s:Shared} {h':Heap}
end
section
variable {X:Cx}
inductive zcX (H:Hp):List Addr→List (Int×V)→Prop
 |nil:zcX H [] []
 |cons {p:Addr} {x:Int×V} {ps:List Addr} {xs:List (Int×V)}:H p=some (.tup [.int x.1,x.2])→zcX H ps xs→zcX H (p::ps) (x::xs)
end
end L2
namespace L2
open PySem PySem.Spec PyProof.Rows PySem.Calls PySem.W
section
variable {X:Cx}
end
end L2
namespace L2
open PySem PySem.Spec PyProof.Rows PySem.Calls PySem.W
open PySem.AutoSeq1 (wpAny_loadPart')
open PySem.MeetsSeq PySem.MeetsSeq2 PySem.MeetsSeq3
section
variable {prog:Program} {w:World} {E:Value→Shared→Prop}
end
section
variable {X:Cx}
end
end L2
namespace L2
open PySem PySem.Spec PyProof.Rows PySem.Calls
section
variable {X:Cx} {tg:Expr}
end
end L2
namespace L2
open PySem PySem.Spec PyProof.Rows PySem.Calls
section
variable {prog:Program} {w:World} {A:Around} {I:Addr} {fp wr:List Addr} {G:Array GenState→Array GenState→Prop} {n:Nat} {P:Nat→Value→Prop} {St:Nat→Shared→Prop} {R:Result→Shared→Prop}
noncomputable abbrev zkt (xs:Array Value) (c:Nat):Obj:={cls:= .type "list",dict:=none,data:= .seq xs c,slots:= #[]}
noncomputable abbrev zku (I S:Addr) (d:Value):Code:= .builtin "max.loop" ⟨[.ref I,.none,.ref S],[("default",d)]⟩
variable {E:Value→Shared→Prop} {s:Shared}
end
section
variable {X:Cx}
end
end L2
namespace L2
open PySem PySem.Spec PyProof.Rows PySem.Calls
section
variable {prog:Program} {w:World} {A:Around} {E:Value→Shared→Prop} {s:Shared}
end
section
variable {X:Cx}
end
end L2
namespace L2
open PySem PySem.Spec PyProof.Rows PySem.Calls
section
variable {prog:Program} {w:World} {A:Around} {E:Value→Shared→Prop} {h:Heap} {g:Array GenState} {d:Drawn} {t:Nat} {os:OsState} {a:Addr}
end
section
variable {prog:Program} {w:World} {A:Around} {I:Addr} {fp wr:List Addr} {G:Array GenState→Array GenState→Prop} {n:Nat} {P:Nat→Value→Prop} {St:Nat→Shared→Prop} {R:Result→Shared→Prop} {KK:Type} [DecidableEq KK] {knd:KeyKind prog w KK}
variable {E:Value→Shared→Prop} {s:Shared}
end
section
variable {X:Cx}
end
end L2
namespace L2
open PySem PySem.Spec PyProof.Rows PySem.Calls
section
variable {prog:Program} {w:World} {A:Around} {I:Addr} {fp wr:List Addr} {G:Array GenState→Array GenState→Prop} {n:Nat} {P:Nat→Value→Prop} {St:Nat→Shared→Prop} {R:Result→Shared→Prop}
end
section
variable {prog:Program} {w:World} {A:Around} {E:Value→Shared→Prop} {s:Shared}
end
section
variable {X:Cx}
end
end L2
namespace L2
open PySem PySem.Spec PyProof.Rows PySem.Calls
section
variable {K:PySem.W.Frag} {E:XK}
end
section
variable {S:Sto} {x y:Xv} {P:Xv→Sto→Prop} {p q:Int}
end
end L2
namespace L2
open PySem PySem.Spec PyProof.Rows PySem.Calls
section
variable {K:PySem.W.Frag} {E:XK}
end
end L2
namespace L2
open PySem PySem.Spec PyProof.Rows PySem.Calls
section
variable {K:PySem.W.Frag} {E:XK}
end
end L2
namespace L2
open PySem PySem.Spec PyProof.Rows PySem.Calls
section
variable {K:PySem.W.Frag} {E:XK}
end
end L2
namespace L2
open PySem PySem.Spec PyProof.Rows PySem.Calls
end L2
namespace L2
open PySem PySem.Spec PyProof.Rows PySem.Calls
noncomputable def Wn (y:Xv):Option NK:=match y with
 | .tup l=>(YB (.tup l)).bind fun k=>if wZ k≤8 then some k else none
 | .ct l=>(YB (.ct l)).bind fun k=>if wZ k≤8 then some k else none
 |_=>none
noncomputable def yw (kvs:List (NK×Xv×Xv)) (k:NK):Option Xv:=(kvs.find? fun p=>decide (p.1=k)).map (·.2.2)
noncomputable def Yf (kvs:List (NK×Xv×Xv)) (k:NK) (x y:Xv):List (NK×Xv×Xv):=if (yw kvs k).isSome=true then kvs.map (fun p=>if p.1=k then (p.1,p.2.1,y) else p) else kvs++[(k,x,y)]
noncomputable def YS (S:Sto) (x y:Xv):Option (Option Xv):=match x with
 | .ref n=>match S[n]? with
  |some (.dk kvs)=>match zcT y with
   |some key=>some (Vk kvs key)
   |none=>if kvs.isEmpty=true∧(Wn y).isSome=true then some none else none
  |some (.dn kvs)=>(Wn y).map (yw kvs)
  |_=>none
 |_=>none
noncomputable def WC (S:Sto) (x y z:Xv):Option Sto:=match x with
 | .ref n=>match S[n]? with
  |some (.dk kvs)=>match zcT y with
   |some key=>if kvs.length<sizeLine then some (S.set n (.dk (ziG kvs key z))) else none
   |none=>if kvs.isEmpty=true then (Wn y).map fun k=>S.set n (.dn [(k,y,z)]) else none
  |some (.dn kvs)=>if kvs.length<sizeLine then (Wn y).map fun k=>S.set n (.dn (Yf kvs k y z)) else none
  |_=>none
 |_=>none
section
variable {K:PySem.W.Frag} {E:XK} {F:Fm} {j:List Addr} {H:Hp} {σ:St} {ρ:Rho} {S:Sto} {x y z:Xv} {u v w:V}
mutual
theorem Xis.nis:∀{x:Xv} {v:V} {k:NK},Xis K j H x v→YB x=some k→NIs K H v k
 |_,_,_,.non,e=>by simp [YB] at e
 |_,_,_,.bl b,e=>by simp [YB] at e
 |_,_,_,.int i,e=>by simp [YB] at e;subst e;exact .int i
 |_,_,_,.str i,e=>by simp [YB] at e;subst e;exact .str i
 |_,_,_,.tup h l,e=>by
  simp only [YB,Option.map_eq_some_iff] at e
  obtain ⟨m,e1,rfl⟩:=e
  exact .tup (SqT.of h) (zM.nis l e1)
 |_,_,_,.ct h l,e=>by
  simp only [YB,Option.map_eq_some_iff] at e
  obtain ⟨m,e1,rfl⟩:=e
  exact .tup (h H) (zM.nis l e1)
 |_,_,_,.ref h,e=>by simp [YB] at e
 |_,_,_,.lam h l,e=>by simp [YB] at e
theorem zM.nis:∀{x:List Xv} {v:List V} {k:List NK},zM K j H x v→YO x=some k→zaV K H v k
 |_,_,_,.nil,e=>by simp [YO] at e;subst e;exact .nil
 |_,_,_,.cons h l,e=>by
  simp only [YO,Option.bind_eq_some_iff,Option.map_eq_some_iff] at e
  obtain ⟨a,e1,b,e2,rfl⟩:=e
  exact .cons (Xis.nis h e1) (zM.nis l e2)
end
theorem Ud {k:NK} (h:Xis K j H x v) (e:Wn x=some k):∃b,v= .ref b∧NIs K H v k∧wZ k≤8∧YB x=some k:=by
 cases h with
 |tup h l=>
  simp only [Wn,Option.bind_eq_some_iff] at e
  obtain ⟨k',e1,e2⟩:=e
  split at e2
  ·cases e2;exact ⟨_,rfl,(Xis.tup h l).nis e1,by assumption,e1⟩
  ·cases e2
 |ct h l=>
  simp only [Wn,Option.bind_eq_some_iff] at e
  obtain ⟨k',e1,e2⟩:=e
  split at e2
  ·cases e2;exact ⟨_,rfl,(Xis.ct h l).nis e1,by assumption,e1⟩
  ·cases e2
 |_=>simp [Wn] at e
theorem NX.len:∀{kvs:List (NK×Xv×Xv)} {ks:List (NK×Addr×V)},NX K j H kvs ks→ks.length=kvs.length
 |_,_,.nil=>rfl
 |_,_,.cons _ _ _ l=>by simp [l.len]
theorem NX.nis:∀{kvs:List (NK×Xv×Xv)} {ks:List (NK×Addr×V)},NX K j H kvs ks→zfJ K H ks
 |_,_,.nil,p,hp=>by cases hp
 |_,_,.cons e h1 _ l,p,hp=>by
  rcases List.mem_cons.1 hp with rfl|hp
  ·exact ⟨h1.nis e.1,e.2⟩
  ·exact l.nis p hp
theorem NX.val {k:NK}:∀{kvs:List (NK×Xv×Xv)} {ks:List (NK×Addr×V)},NX K j H kvs ks→(∀y,yw kvs k=some y→∃w,YX ks k=some w∧Xis K j H y w)∧(yw kvs k=none→YX ks k=none)
 |_,_,.nil=>⟨fun _ e=>by simp [yw] at e,fun _=>rfl⟩
 |(k1,x1,y1)::r,(_,b1,w1)::rs,.cons ek h1 h l=>by
  obtain ⟨i1,i2⟩:=NX.val (k:=k) l
  by_cases e:k1=k
  ·subst e
   refine ⟨fun y ey=> ?_,fun ey=> ?_⟩
   ·simp [yw] at ey
    subst ey
    exact ⟨w1,by simp [YX],h⟩
   ·simp [yw] at ey
  ·have e1:yw ((k1,x1,y1)::r) k=yw r k:=by simp [yw,List.find?_cons,e]
   have e2:YX ((k1,b1,w1)::rs) k=YX rs k:=by simp [YX,List.find?_cons,e]
   rw [e1,e2]
   exact ⟨i1,i2⟩
theorem NX.append:∀{kvs r:List (NK×Xv×Xv)} {ks rs:List (NK×Addr×V)},NX K j H kvs ks→NX K j H r rs→NX K j H (kvs++r) (ks++rs)
 |_,_,_,_,.nil,h=>h
 |_,_,_,_,.cons e h1 h l,g=> .cons e h1 h (l.append g)
theorem NX.put {k:NK} {b:Addr} (hk:YB x=some k∧wZ k≤8) (hx:Xis K j H x (.ref b)) (hy:Xis K j H y v) {kvs:List (NK×Xv×Xv)} {ks:List (NK×Addr×V)} (h:NX K j H kvs ks):NX K j H (Yf kvs k x y) (zaW ks k b v):=by
 have e:(YX ks k).isSome=(yw kvs k).isSome:=by
  cases ev:yw kvs k with
  |none=>rw [h.val.2 ev];rfl
  |some z=>obtain ⟨w,g,_⟩:=h.val.1 _ ev;rw [g];rfl
 unfold Yf zaW
 rw [e]
 split
 ·rename_i hc
  clear hc e
  induction h with
  |nil=>exact .nil
  | @cons k1 x1 y1 b1 v1 r rs ek h1 h l ih=>
   rw [List.map_cons,List.map_cons]
   by_cases e:k1=k
   ·rw [if_pos e,if_pos e];exact .cons ek h1 hy ih
   ·rw [if_neg e,if_neg e];exact .cons ek h1 h ih
 ·exact h.append (.cons hk hx hy .nil)
theorem En.dn {n:Nat} {kvs:List (NK×Xv×Xv)} (E1:En K F j H σ ρ S) (hx:Xis K j H (.ref n) v) (h:S[n]? =some (.dn kvs)):∃a ks,v= .ref a∧j[n]? =some a∧H a=some (.dN ks)∧NX K j H kvs ks:=by
 obtain ⟨a,rfl,hj⟩:=hx.ref_inv
 obtain ⟨ks,e1,e2⟩:=E1.cel _ _ _ h hj
 exact ⟨a,ks,rfl,hj,e1,e2⟩
theorem En.dgetN {r:Option Xv} (E1:En K F j H σ ρ S) (hx:Xis K j H x u) (hy:Xis K j H y w) (h:YS S x y=some r):∃a o,u= .ref a∧zaf K H a w o∧o.isSome=r.isSome∧(∀z zd,Xis K j H z zd→Xis K j H (r.getD z) (o.getD zd))∧∀z,r=some z→∃z',o=some z'∧Xis K j H z z':=by
 unfold YS at h
 split at h
 ·rename_i n
  split at h
  ·rename_i kvs hs
   have hd:zbV S (.ref n)=some (n,kvs):=zdz hs
   obtain ⟨a,ks,rfl,hj,f1,f2⟩:=E1.dk hx hd
   split at h
   ·rename_i key ek
    cases h
    obtain ⟨o,g1,g2,g3⟩:=VZ (key:=key) f1 f2
    refine ⟨a,o,rfl,.inl (by rw [zdx hy ek];exact g1),g2,g3,fun z hz=> ?_⟩
    have:=g3 .non .non .non
    rw [hz] at this g2
    cases o with
    |none=>cases g2
    |some z'=>exact ⟨z',rfl,this⟩
   ·split at h
    ·rename_i hc
     cases h
     obtain ⟨k,hk⟩:=Option.isSome_iff_exists.1 hc.2
     obtain ⟨b,rfl,hn,hd8,_⟩:=Ud hy hk
     have:kvs=[]:=List.isEmpty_iff.1 hc.1
     subst this
     cases f2
     exact ⟨a,none,rfl,.inr ⟨k,b,rfl,hn,hd8,.inr ⟨f1,rfl⟩⟩,rfl,fun z zd hz=>hz,fun z hz=>by cases hz⟩
    ·cases h
  ·rename_i kvs hs
   obtain ⟨a,ks,rfl,hj,f1,f2⟩:=E1.dn hx hs
   rw [Option.map_eq_some_iff] at h
   obtain ⟨k,hk,rfl⟩:=h
   obtain ⟨b,rfl,hn,hd8,_⟩:=Ud hy hk
   refine ⟨a,YX ks k,rfl,.inr ⟨k,b,rfl,hn,hd8,.inl ⟨ks,f1,f2.nis,rfl⟩⟩,?_,fun z zd hz=> ?_,fun z hz=>f2.val.1 z hz⟩
   ·cases ev:yw kvs k with
    |none=>rw [f2.val.2 ev];rfl
    |some z=>obtain ⟨w,g,_⟩:=f2.val.1 _ ev;rw [g];rfl
   ·cases ev:yw kvs k with
    |none=>rw [f2.val.2 ev];exact hz
    |some z=>obtain ⟨w,g,g2⟩:=f2.val.1 _ ev;rw [g];exact g2
  ·cases h
 ·cases h
theorem En.dputN {S':Sto} (E1:En K F j H σ ρ S) (hx:Xis K j H x u) (hy:Xis K j H y w) (hz:Xis K j H z v) (h:WC S x y z=some S'):∃a H',u= .ref a∧zfL K H a w v H'∧En K F j H' σ ρ S'∧Ext j H j H':=by
 unfold WC at h
 split at h
 ·rename_i n
  split at h
  ·rename_i kvs hs
   have hd:zbV S (.ref n)=some (n,kvs):=zdz hs
   obtain ⟨a,ks,rfl,hj,f1,f2⟩:=E1.dk hx hd
   split at h
   ·rename_i key ek
    split at h
    ·rename_i hl
     cases h
     obtain ⟨E4,X4⟩:=E1.wdk hd hj (f2.put (k:=key) hz)
     refine ⟨a,_,rfl,.inl ?_,E4,X4⟩
     rw [zdx hy ek]
     exact zeX.k f1 (by rw [f2.len];exact hl)
    ·cases h
   ·split at h
    ·rename_i hc
     rw [Option.map_eq_some_iff] at h
     obtain ⟨k,hk,rfl⟩:=h
     obtain ⟨b,rfl,hn,hd8,hxk⟩:=Ud hy hk
     have:kvs=[]:=List.isEmpty_iff.1 hc
     subst this
     cases f2
     obtain ⟨E4,X4⟩:=E1.write (o:= .dN [(k,b,v)]) (c':= .dn [(k,y,z)]) hs rfl hj rfl fun X=>⟨_,zw,.cons ⟨hxk,hd8⟩ (hy.mono X) (hz.mono X) .nil⟩
     exact ⟨a,_,rfl,.inr ⟨k,b,rfl,hn,hd8,.inr ⟨f1,rfl⟩⟩,E4,X4⟩
    ·cases h
  ·rename_i kvs hs
   obtain ⟨a,ks,rfl,hj,f1,f2⟩:=E1.dn hx hs
   split at h
   ·rename_i hl
    rw [Option.map_eq_some_iff] at h
    obtain ⟨k,hk,rfl⟩:=h
    obtain ⟨b,rfl,hn,hd8,hxk⟩:=Ud hy hk
    obtain ⟨E4,X4⟩:=E1.write (o:= .dN (zaW ks k b v)) (c':= .dn (Yf kvs k y z)) hs rfl hj rfl fun X=>⟨_,zw,(f2.put ⟨hxk,hd8⟩ hy hz).mono X⟩
    exact ⟨a,_,rfl,.inr ⟨k,b,rfl,hn,hd8,.inl ⟨ks,f1,f2.nis,by rw [f2.len];exact hl,rfl⟩⟩,E4,X4⟩
   ·cases h
  ·cases h
 ·cases h
noncomputable def zaY (d k:TwE):TwE:=fun ρ S=>rb (d ρ S) fun x S1=>rb (k ρ S1) fun y S2=>(YS S2 x y).bind fun o=>o.map fun z=> .ok z S2
theorem zb0 {td ty:TE} {d k:TwE} (hd:RE K E td d) (hk:RE K E ty k):RE K E (zfN K td ty) (zaY d k):=by
 intro F j σ H ρ S r Q En0 e kk
 rcases zl e with ⟨x,S1,e1,e⟩|⟨c,S1,e1,rfl⟩
 ·refine hd En0 e1 fun j1 H1 X1 E1 u hu=> ?_
  rcases zl e with ⟨y,S2,e2,e⟩|⟨c,S2,e2,rfl⟩
  ·refine hk E1 e2 fun j2 H2 X2 E2 w hw=> ?_
   cases ed:YS S2 x y with
   |none=>rw [ed] at e;cases e
   |some o=>
    rw [ed,Option.bind_some] at e
    cases o with
    |none=>cases e
    |some z=>
     cases e
     obtain ⟨a,o,rfl,g,_,_,g3⟩:=E2.dgetN (hu.mono X2) hw ed
     obtain ⟨z',rfl,hz⟩:=g3 z rfl
     exact ⟨a,z',rfl,g,kk _ _ (X1.trans X2) E2 _ hz⟩
  ·exact hk E1 e2 (PX.mono kk X1)
 ·exact hd En0 e1 kk
noncomputable def zdA (neg:Bool) (k d:TwE):TwE:=fun ρ S=>rb (k ρ S) fun y S1=>rb (d ρ S1) fun x S2=>(YS S2 x y).map fun o=> .ok (.bl (neg !=o.isSome)) S2
theorem zdB {neg:Bool} {td ty:TE} {d k:TwE} (hk:RE K E ty k) (hd:RE K E td d):RE K E (zh0 K neg ty td) (zdA neg k d):=by
 intro F j σ H ρ S r Q En0 e kk
 rcases zl e with ⟨y,S1,e1,e⟩|⟨c,S1,e1,rfl⟩
 ·refine hk En0 e1 fun j1 H1 X1 E1 u hu=> ?_
  rcases zl e with ⟨x,S2,e2,e⟩|⟨c,S2,e2,rfl⟩
  ·refine hd E1 e2 fun j2 H2 X2 E2 w hw=> ?_
   cases ed:YS S2 x y with
   |none=>rw [ed] at e;cases e
   |some o=>
    rw [ed] at e
    cases e
    obtain ⟨a,o',rfl,g,g1,_,_⟩:=E2.dgetN hw (hu.mono X2) ed
    refine ⟨a,o',rfl,g,kk _ _ (X1.trans X2) E2 _ ?_⟩
    rw [g1]
    exact .bl _
  ·exact hd E1 e2 (PX.mono kk X1)
 ·exact hk En0 e1 kk
noncomputable def Ue (d k v:TwE):TwS:=fun ρ S=>sb (v ρ S) fun z S1=>sb (d ρ S1) fun x S2=>sb (k ρ S2) fun y S3=>(WC S3 x y z).map fun S4=> .nx ρ S4
theorem zb1 {td ty tv:TE} {d k v:TwE} (hd:RE K E td d) (hk:RE K E ty k) (hv:RE K E tv v):RS K E (zfO K td ty tv) (Ue d k v):=by
 intro F j D' σ H ρ S fl E0 e kk
 rcases xw e with ⟨z,S1,e1,e⟩|⟨c,S1,e1,rfl⟩
 ·refine hv E0 e1 fun j1 H1 X1 E1 wz hwz=> ?_
  rcases xw e with ⟨x,S2,e2,e⟩|⟨c,S2,e2,rfl⟩
  ·refine hd E1 e2 fun j2 H2 X2 E2 u hu=> ?_
   rcases xw e with ⟨y,S3,e3,e⟩|⟨c,S3,e3,rfl⟩
   ·refine hk E2 e3 fun j3 H3 X3 E3 w hw=> ?_
    cases ed:WC S3 x y z with
    |none=>rw [ed] at e;cases e
    |some S4=>
     rw [ed] at e
     cases e
     obtain ⟨a,H4,rfl,g,E4,X4⟩:=E3.dputN (hu.mono X3) hw (hwz.mono (X2.trans X3)) ed
     exact ⟨a,H4,rfl,g,kk _ _ _ (X1.trans (X2.trans (X3.trans X4))) E4⟩
   ·exact hk E2 e3 (PX.mono kk (X1.trans X2))
  ·exact hd E1 e2 (PX.mono kk X1)
 ·exact hv E0 e1 kk
end
end L2
namespace L2
open PySem PySem.Spec PyProof.Rows PySem.Calls
section
variable {K:PySem.W.Frag} {j:List Addr} {H:Hp}
end
section
variable {ρ:Rho} {S:Sto} {P:Xv→Sto→Prop} {N:Rho→Sto→Prop} {R:Xv→Sto→Prop} {a b m z:TwE} {x y:Xv}
theorem zb2 (h:W (a ρ S) fun x S1=>W (b ρ S1) fun y S2=>∃z,YS S2 x y=some (some z)∧P z S2):W (zaY a b ρ S) P:=
 W.bind (h.imp fun _ _ h=>W.bind (h.imp fun _ _ h=>by obtain ⟨z,e1,q⟩:=h;rw [e1];exact .of rfl q))
theorem zdC {neg:Bool} (h:W (a ρ S) fun y S1=>W (b ρ S1) fun x S2=>∃o,YS S2 x y=some o∧P (.bl (neg !=o.isSome)) S2):W (zdA neg a b ρ S) P:=
 W.bind (h.imp fun _ _ h=>W.bind (h.imp fun _ _ h=>by obtain ⟨o,e1,q⟩:=h;rw [e1];exact .of rfl q))
theorem US (h:W (m ρ S) fun z S1=>W (a ρ S1) fun x S2=>W (b ρ S2) fun y S3=>∃S4,WC S3 x y z=some S4∧N ρ S4):WS (Ue a b m ρ S) N R:=
 WS.bind (h.imp fun _ _ h=>WS.bind (h.imp fun _ _ h=>WS.bind (h.imp fun _ _ h=>by obtain ⟨S4,e1,q⟩:=h;rw [e1];exact .nx rfl q)))
end
end L2
namespace L2
open PySem PySem.Spec PyProof.Rows PySem.Calls
noncomputable def UT (S:Sto) (x:Xv) (nm:Str):Option (Nat×List (Str×Xv)):=match x with
 | .ref n=>match S[n]? with
  |some (.ins nm' fs)=>if nm'=nm then some (n,fs) else none
  |_=>none
 |_=>none
theorem zag {S:Sto} {x:Xv} {nm:Str} {n:Nat} {fs:List (Str×Xv)} (h:UT S x nm=some (n,fs)):x= .ref n∧S[n]? =some (.ins nm fs):=by
 unfold UT at h
 split at h
 ·split at h
  ·split at h
   ·rename_i e1 e2
    cases h
    subst e2
    exact ⟨rfl,e1⟩
   ·cases h
  ·cases h
 ·cases h
theorem zaZ {S:Sto} {nm:Str} {n:Nat} {fs:List (Str×Xv)} (h:S[n]? =some (.ins nm fs)):UT S (.ref n) nm=some (n,fs):=by
 unfold UT
 dsimp only
 rw [h]
 dsimp only
 rw [if_pos rfl]
noncomputable def Ts (f:Str) (v:Xv):List (Str×Xv)→List (Str×Xv)
 |[]=>[(f,v)]
 |(g,x)::r=>if g=f then (g,v)::r else (g,x)::Ts f v r
section
variable {K:PySem.W.Frag} {E:XK} {F:Fm} {j:List Addr} {H:Hp} {σ:St} {ρ:Rho} {S:Sto} {x:Xv} {v:V} {nm f m:Str} {C:Addr}
theorem KX.look:∀{fs:List (Str×Xv)} {vs:List (Str×V)},KX K j H fs vs→(∀y,fs.lookup f=some y→∃w,vs.lookup f=some w∧Xis K j H y w)∧(fs.lookup f=none→vs.lookup f=none)
 |_,_,.nil=>⟨(fun _ e=>by cases e),fun _=>rfl⟩
 |(g,y1)::r,(_,w1)::rs,.cons h l=>by
  obtain ⟨i1,i2⟩:=KX.look l
  rw [List.lookup_cons,List.lookup_cons]
  cases hb:(f==g) with
  |true=>exact ⟨(fun y e=>by cases e;exact ⟨w1,rfl,h⟩),(fun e=>by cases e)⟩
  |false=>exact ⟨i1,i2⟩
theorem KX.putF (hx:Xis K j H x v):∀{fs:List (Str×Xv)} {vs:List (Str×V)},KX K j H fs vs→KX K j H (Ts f x fs) (Yu f v vs)
 |_,_,.nil=> .cons hx .nil
 |(g,y1)::r,(_,w1)::rs,.cons h l=>by
  unfold Ts L2.Yu
  by_cases e:g=f
  ·rw [if_pos e,if_pos e];exact .cons hx l
  ·rw [if_neg e,if_neg e];exact .cons h (KX.putF hx l)
theorem En.ins {n:Nat} {fs:List (Str×Xv)} (hns:PySem.W.nsIn K mainGlobals nm=some (some (.ref C))) (E1:En K F j H σ ρ S) (hx:Xis K j H x v) (h:UT S x nm=some (n,fs)):∃a dx vs,v= .ref a∧j[n]? =some a∧H a=some (.ins C dx vs)∧KX K j H fs vs:=by
 obtain ⟨rfl,hs⟩:=zag h
 obtain ⟨a,rfl,hj⟩:=hx.ref_inv
 obtain ⟨C',dx,vs,e0,e1,e2⟩:=E1.cel _ _ _ hs hj
 rw [hns] at e0
 cases e0
 exact ⟨a,dx,vs,rfl,hj,e1,e2⟩
noncomputable def Zo (nm f:Str) (o:TwE):TwE:=fun ρ S=>rb (o ρ S) fun x S1=>(UT S1 x nm).bind fun p=>(p.2.lookup f).map fun y=> .ok y S1
theorem wm {to:TE} {o:TwE} (hns:PySem.W.nsIn K mainGlobals nm=some (some (.ref C))) (hc:Cls K C) (hn:Zg K C f) (h:RE K E to o):RE K E (zjh K to f) (Zo nm f o):=by
 intro F j σ H ρ S r Q En0 e k
 rcases zl e with ⟨x,S1,e1,e⟩|⟨c,S1,e1,rfl⟩
 ·refine h En0 e1 fun j1 H1 X1 E1 u hu=> ?_
  rw [Option.bind_eq_some_iff] at e
  obtain ⟨⟨n,fs⟩,e2,e⟩:=e
  rw [Option.map_eq_some_iff] at e
  obtain ⟨y,e3,rfl⟩:=e
  obtain ⟨a,dx,vs,rfl,hj,f1,f2⟩:=E1.ins hns hu e2
  obtain ⟨w,g1,g2⟩:=f2.look.1 y e3
  exact ⟨a,C,dx,vs,w,rfl,f1,hc,hn,g1,k _ _ X1 E1 _ g2⟩
 ·exact h En0 e1 k
noncomputable def zb3 (nm f:Str) (o m:TwE):TwS:=fun ρ S=>sb (m ρ S) fun y S1=>sb (o ρ S1) fun x S2=>(UT S2 x nm).bind fun p=>if p.2.length<1000 then some (.nx ρ (S2.set p.1 (.ins nm (Ts f y p.2)))) else none
theorem KX.len2:∀{fs:List (Str×Xv)} {vs:List (Str×V)},KX K j H fs vs→vs.length=fs.length
 |_,_,.nil=>rfl
 |_,_,.cons _ l=>by simp [l.len2]
theorem za0 {to tv:TE} {o m:TwE} (hns:PySem.W.nsIn K mainGlobals nm=some (some (.ref C))) (hc:Cls K C) (hn:Zg K C f) (ho:RE K E to o) (hv:RE K E tv m):RS K E (zji K to tv f) (zb3 nm f o m):=by
 intro F j D' σ H ρ S fl E0 e kk
 rcases xw e with ⟨y,S1,e1,e⟩|⟨c,S1,e1,rfl⟩
 ·refine hv E0 e1 fun j1 H1 X1 E1 wy hwy=> ?_
  rcases xw e with ⟨x,S2,e2,e⟩|⟨c,S2,e2,rfl⟩
  ·refine ho E1 e2 fun j2 H2 X2 E2 u hu=> ?_
   rw [Option.bind_eq_some_iff] at e
   obtain ⟨⟨n,fs⟩,e3,e⟩:=e
   dsimp only at e
   split at e
   ·rename_i hl
    cases e
    obtain ⟨a,dx,vs,rfl,hj,f1,f2⟩:=E2.ins hns hu e3
    obtain ⟨E4,X4⟩:=E2.write (o:= .ins C dx (L2.Yu f wy vs)) (c':= .ins nm (Ts f y fs)) (zag e3).2 rfl hj rfl fun X=>⟨C,dx,_,hns,zw,(KX.putF (hwy.mono X2) f2).mono X⟩
    exact ⟨a,C,dx,vs,rfl,f1,hc,hn,by rw [f2.len2];exact hl,kk _ _ _ (X1.trans (X2.trans X4)) E4⟩
   ·cases e
  ·exact ho E1 e2 (PX.mono kk X1)
 ·exact hv E0 e1 kk
noncomputable def yK (nm m:Str) (tw:TwF) (o:TwE) (ms:List TwE):TwE:=fun ρ S=>rb (o ρ S) fun x S1=>(UT S1 x nm).bind fun p=>if p.2.lookup m=none then rb (evL ms ρ S1) fun xs S2=>tw (x::xs) S2 else none
theorem yh {n:Nat} {tw:TwF} {o:TwE} {to:TE} {ms:List TwE} {t:TA} (hns:PySem.W.nsIn K mainGlobals nm=some (some (.ref C))) (ho:RE K E to o) (h:RL K E t (evL ms)) (hn:ms.length+1=n:=by rfl):RE K E (zeP C m (sTw K n tw) [] E to t) (yK nm m tw o ms):=by
 intro F j σ H ρ S r Q En0 e k
 rcases zl e with ⟨x,S1,e1,e⟩|⟨c,S1,e1,rfl⟩
 ·refine ho En0 e1 fun j1 H1 X1 E1 u hu=> ?_
  rw [Option.bind_eq_some_iff] at e
  obtain ⟨⟨q,fs⟩,e2,e⟩:=e
  dsimp only at e
  split at e
  ·rename_i hlk
   obtain ⟨a,dx,vs0,rfl,hj,f1,f2⟩:=E1.ins hns hu e2
   refine ⟨a,dx,vs0,rfl,f1,f2.look.2 hlk,?_⟩
   rcases zl e with ⟨xs,S2,e3,e⟩|⟨c,S2,e3,rfl⟩
   ·refine h E1 e3 fun j2 H2 X2 E2 vs hv=> ?_
    rw [List.append_nil]
    exact Xy E2 (.cons (hu.mono X2) hv) (by rw [List.length_cons,hv.len,YC e3,hn]) e (k.step (X1.trans X2))
   ·exact h E1 e3 (k.step X1)
  ·cases e
 ·exact ho En0 e1 k
noncomputable def zcY (nm:Str) (tw:TwF) (ms:List TwE):TwE:=fun ρ S=>rb (evL ms ρ S) fun xs S1=>match tw (.ref S1.length::xs) (S1++[.ins nm []]) with
 |some (.ok .non S2)=>some (.ok (.ref S1.length) S2)
 |_=>none
theorem zfQ {n:Nat} {tw:TwF} {ms:List TwE} {t:TA} (hns:PySem.W.nsIn K mainGlobals nm=some (some (.ref C))) (h:RL K E t (evL ms)) (hn:ms.length+1=n:=by rfl):RE K E (zhP C (sTw K n tw) [] E t) (zcY nm tw ms):=by
 intro F j σ H ρ S r Q En0 e k
 rcases zl e with ⟨xs,S1,e1,e⟩|⟨c,S1,e1,rfl⟩
 ·refine h En0 e1 fun j1 H1 X1 E1 vs hv=> ?_
  intro x dx hx hdx hne
  rw [List.append_nil]
  split at e
  ·rename_i S2 e2
   cases e
   have hx':upd H1 dx (.own x) x=none:=by rw [zm (fun z=>hne z.symm)];exact hx
   obtain ⟨E2,X2⟩:=E1.new (p:=dx) (o:= .own x) hdx
   obtain ⟨E3,X3⟩:=E2.cell (p:=x) (o:= .ins C dx []) (c:= .ins nm []) hx' ⟨C,dx,[],hns,zw,.nil⟩
   have X23:=X2.trans X3
   have hr:Xis K (j1++[x]) (upd (upd H1 dx (.own x)) x (.ins C dx [])) (.ref S1.length) (.ref x):= .ref (by rw [←E1.jl];simp)
   refine Xy E3 (.cons hr (hv.mono X23)) (by rw [List.length_cons,hv.len,YC e1,hn]) e2 fun j' H' X E4 v hw=> ?_
   exact ⟨hw.non_inv,k _ _ (X1.trans (X23.trans X)) E4 _ (hr.mono X)⟩
  ·cases e
 ·exact h En0 e1 k
end
section
variable {ρ:Rho} {S:Sto} {P:Xv→Sto→Prop} {N:Rho→Sto→Prop} {R:Xv→Sto→Prop} {o m:TwE} {ms:List TwE} {nm f:Str}
theorem wu (h:W (o ρ S) fun x S1=>∃n fs y,x= .ref n∧S1[n]? =some (.ins nm fs)∧fs.lookup f=some y∧P y S1):W (Zo nm f o ρ S) P:=
 W.bind (h.imp fun _ _ h=>by obtain ⟨n,fs,y,rfl,e1,e2,q⟩:=h;rw [zaZ e1,Option.bind_some,e2];exact .of rfl q)
theorem za1 (h:W (m ρ S) fun y S1=>W (o ρ S1) fun x S2=>∃n fs,x= .ref n∧S2[n]? =some (.ins nm fs)∧fs.length<1000∧N ρ (S2.set n (.ins nm (Ts f y fs)))):WS (zb3 nm f o m ρ S) N R:=
 WS.bind (h.imp fun _ _ h=>WS.bind (h.imp fun _ _ h=>by obtain ⟨n,fs,rfl,e1,e2,q⟩:=h;rw [zaZ e1,Option.bind_some,if_pos e2];exact .nx rfl q))
theorem yz {tw:TwF} (h:W (o ρ S) fun x S1=>∃n fs,x= .ref n∧S1[n]? =some (.ins nm fs)∧fs.lookup f=none∧W (evL ms ρ S1) fun xs S2=>W (tw (x::xs) S2) P):W (yK nm f tw o ms ρ S) P:=
 W.bind (h.imp fun _ _ h=>by obtain ⟨n,fs,rfl,e1,e2,q⟩:=h;rw [zaZ e1,Option.bind_some,if_pos e2];exact W.bind (q.imp fun _ _ h=>h))
theorem zg4 {tw:TwF} (h:W (evL ms ρ S) fun xs S1=>W (tw (.ref S1.length::xs) (S1++[.ins nm []])) fun v S2=>v= .non∧P (.ref S1.length) S2):W (zcY nm tw ms ρ S) P:=
 W.bind (h.imp fun xs S1 h=>by
  obtain ⟨v,S2,e,rfl,q⟩:=h
  rw [e]
  exact .of rfl q)
end
end L2
namespace L2
open PySem PySem.Spec PyProof.Rows PySem.Calls
theorem Uf {K:PySem.W.Frag} {X:Cx} (h:X.K=K:=by rfl):IxR X (rIx K):=h ▸ zir
section
variable {K:PySem.W.Frag} {E:XK} {j:List Addr} {H:Hp}
end
end L2
namespace L2
open PySem PySem.Spec PyProof.Rows PySem.Calls
section
variable {K:PySem.W.Frag} {E:XK} {F:Fm} {j:List Addr} {H:Hp} {σ:St} {ρ:Rho} {S:Sto} {x:Xv} {v:V} {c:Str} {C:Addr}
end
end L2
namespace L2
open PySem
section
variable {ρ:Rho} {S S':Sto} {x y:Xv} {a b m o:TwE} {c:TwT} {s t:TwS} {i k:Nat} {P:Xv→Sto→Prop} {PL:List Xv→Sto→Prop} {N:Rho→Sto→Prop} {R:Xv→Sto→Prop} {X:Str→Sto→Prop}
end
end L2
namespace L2
open PySem PySem.Spec PyProof.Rows PySem.Calls
section
variable {K:PySem.W.Frag} {E:XK} {F:Fm} {j:List Addr} {H:Hp} {σ:St} {ρ:Rho} {S:Sto} {x:Xv} {v:V} {nm f:Str} {C:Addr}
end
end L2
namespace L2
open PySem PySem.Spec PyProof.Rows PySem.Calls
structure zko (tw:TwF) (S:Sto) (l:List Xv) (is:List (List Int)):Prop where
 len:is.length=l.length
 key:∀(i:Nat) x,l[i]? =some x→∃k,tw [x] S=some (.ok k S)∧k.tupOf=some ((is.getD i []).map Xv.int)
 fall:zjM is
section
variable {K:PySem.W.Frag} {E:XK} {j:List Addr} {H:Hp}
end
end L2
namespace L2
open PySem PySem.Spec PyProof.Rows PySem.Calls
section
variable {K:PySem.W.Frag} {E:XK} {F:Fm} {j:List Addr} {H:Hp} {σ:St} {ρ:Rho} {S:Sto}
end
end L2
namespace L2
open PySem PySem.Spec PyProof.Rows PySem.Calls
section
variable {K:PySem.W.Frag} {E:XK}
end
section
variable {K:PySem.W.Frag} {E:XK}
end
end L2
namespace L2
open PySem PySem.Spec PyProof.Rows PySem.Calls
section
variable {K:PySem.W.Frag} {E:XK}
end
section
variable {S:Sto} {x y:Xv} {P:Xv→Sto→Prop}
end
end L2
namespace L2
open PySem PySem.Spec PyProof.Rows PySem.Calls
section
variable {K:PySem.W.Frag} {E:XK}
end
end L2
namespace L2
open PySem PySem.Spec PyProof.Rows PySem.Calls
section
variable {K:PySem.W.Frag} {E:XK}
end
section
variable {m:TwE} {ρ:Rho} {S:Sto}
end
end L2
namespace L2
open PySem PySem.Spec PyProof.Rows PySem.Calls
section
variable {K:PySem.W.Frag} {E:XK}
end
section
variable {S:Sto} {x:Xv} {P:Xv→Sto→Prop}
end
end L2
namespace L2
open PySem PySem.Spec PyProof.Rows PySem.Calls
section
variable {X:Cx} {tg:Expr}
end
section
variable {K:PySem.W.Frag} {E:XK}
end
section
variable {m:TwE} {ρ:Rho} {S:Sto}
end
end L2
namespace L2
open PySem PySem.Spec PyProof.Rows PyProof
open Builtin Builtin.Str
section
variable {X:Cx}
end
end L2
namespace L2
open PySem PySem.Spec PyProof.Rows PyProof
section
variable {X:Cx}
inductive PJ (X:Cx):List Expr→List TE→Prop where
 |nil:PJ X [] []
 |cons {e:Expr} {es:List Expr} {t:TE} {ts:List TE}:PE X e t→PJ X es ts→PJ X (e::es) (t::ts)
end
end L2
namespace L2
open PySem PySem.Spec PyProof.Rows
section
variable {K:PySem.W.Frag} {E:XK} {F:Fm} {j:List Addr} {H:Hp} {σ:St} {ρ:Rho} {S:Sto}
inductive RJ (K:PySem.W.Frag) (E:XK):List TE→List TwE→Prop where
 |nil:RJ K E [] []
 |cons {t:TE} {ts:List TE} {m:TwE} {ms:List TwE}:RE K E t m→RJ K E ts ms→RJ K E (t::ts) (m::ms)
end
section
variable {K:PySem.W.Frag} {E:XK} {j:List Addr} {H:Hp}
end
section
variable {ρ:Rho} {S:Sto} {P:Xv→Sto→Prop} {o m:TwE} {x y:Xv}
end
end L2
namespace L2
open PySem PySem.Spec PyProof.Rows
inductive Sh (n:Nat):List D→Nat→Nat→Prop where
 |nil:Sh n [] 0 0
 |int {i:Int} {r:List D} {w e:Nat}:i.natAbs<2^n→Sh n r w e→Sh n (.int i::r) (n+1+w) e
 |str {z:Str} {r:List D} {w e:Nat}:z.length≤n→(z.cps.toList.all fun c=>decide (c<16^8))=true→Sh n r w e→Sh n (.str z::r) (n+1+w) e
 |tup {l r:List D} {w e w' e':Nat}:Sh n l w e→Sh n r w' e'→Sh n (.tup l::r) (w+1+w') (max (e+1) e')
 |lst {l r:List D} {w e w' e':Nat}:Sh n l w e→Sh n r w' e'→Sh n (.lst l::r) (w+1+w') (max (e+1) e')
section
variable {X:Cx} {pins:List (Addr×Obj)} {σ:St} {H:Hp} {s:Shared}
end
structure zkp (d:D):Prop where
 seq:∃l,d= .tup l∨d= .lst l
 sh:∃n w e,Sh n [d] w e∧8≤n∧n≤1900∧e≤100∧(n+3)*w+n+1≤16777216
section
variable {X:Cx}
end
end L2
namespace L2
open PySem PySem.Spec PyProof.Rows
end L2
namespace L2
open PySem PySem.Spec PyProof.Rows
section
variable {X:Cx} {K:PySem.W.Frag}
end
end L2
namespace L2
open PySem PySem.Spec PyProof.Rows PyProof
section
variable {X:Cx} {K:PySem.W.Frag} {E:XK}
end
end L2
namespace L2
open PySem PySem.Spec PyProof.Rows
theorem zah {env:Env}:∀{ns:List (Str×NameKind)} {cs:List (Str×Addr)} {p:Str×Addr},p∈VG env ns cs→p∈cs∨(p.1,NameKind.free)∈ns
 |[],_,_,h=> .inl h
 |(n,k)::r,cs,p,h=>by
  unfold VG at h
  rcases zah h with h|h
  ·by_cases hk:(k== .free)=true
   ·rw [if_pos hk] at h
    have hk':k= .free:=by simpa using hk
    cases e:env.cells.lookup n with
    |none=>rw [e] at h;exact .inl h
    |some c=>
     rw [e] at h
     rcases List.mem_cons.mp h with rfl|h
     ·exact .inr (by rw [hk'];exact List.mem_cons_self)
     ·exact .inl h
   ·rw [if_neg hk] at h;exact .inl h
  ·exact .inr (List.mem_cons_of_mem _ h)
theorem zcZ {pos:Pos} {a b:Int} {c cv:Value} (l:List Value) (h:TriplesOk l):codeAmong pos (l++[rawInt a,rawInt b,c])=some cv→codeAmong pos l=some cv∨cv=c:=by
 fun_induction TriplesOk l with
 |case1=>
  intro e
  simp only [List.nil_append,codeAmong,rawInt] at e
  split at e
  ·cases e;exact .inr rfl
  ·cases e
 |case2 a t b u x rest ih=>
  intro e
  simp only [List.cons_append,codeAmong] at e ⊢
  split at e
  ·rename_i hc;rw [if_pos hc];exact .inl e
  ·rename_i hc;rw [if_neg hc];exact ih h e
 |case3 l h1 h2=>exact h.elim
section
variable {X:Cx} {pins:List (Addr×Obj)} {σ:St} {H H':Hp} {s:Shared}
theorem Inv.freeze {x:Str} {c:Addr} (I:Inv X pins σ H s) (hx:X.env.cells.lookup x=some c) (hz:X.zn x=true) (hf:X.fn x=false):∃H' o,Inv X pins σ H' s∧Yx H H'∧H' c=some (.frz o (.own 0))∧s.heap.get? c=some o:=by
 obtain ⟨v,o,ho,hd⟩:=I.cell x c hx
 rcases I.freeC x c hx with hn|⟨_,o',h'⟩
 ·have hab:=I.ok.cab x c (.inr hz) hx
  have ne:∀b u,H b=some u→b≠c:=fun b u e z=>by rw [z,hn] at e;cases e
  refine ⟨upd H c (.frz o (.own 0)),o,⟨I.ok,I.os,I.bare,⟨I.base.keep,I.base.slot,fun b ob e n hx'=> ?_,I.base.there,fun b xs e=> ?_,fun b ob u e=> ?_,fun b ps e=> ?_⟩,I.loc,I.cell,?_,fun y d e=> ?_,fun p hp=> ?_,fun b u e=> ?_,I.len⟩,wD hn,zw,ho⟩
  ·rw [zm (Nat.ne_of_lt (Nat.lt_of_lt_of_le (Heap.lt_size e) hab))]
   exact I.base.free b ob e n hx'
  ·have:=I.base.tups b xs e
   rw [zm (ne b _ this)];exact this
  ·have:=I.base.frzs b ob u e
   rw [zm (ne b _ this)];exact this
  ·obtain ⟨m,q⟩:=I.base.tbls b ps e
   exact ⟨m,by rw [zm (ne b _ q)];exact q⟩
  ·rw [zm (Ne.symm (I.cne x c hx))];exact I.free
  ·by_cases hdc:d=c
   ·subst hdc
    obtain rfl:=I.ok.inj y x d e hx
    exact .inr ⟨hf,o,zw⟩
   ·rw [zm hdc];exact I.freeC y d e
  ·obtain ⟨e,n,r1,r2,r3⟩:=I.pin p hp
   refine ⟨e,?_,r1,r2,r3⟩
   rw [zm]
   ·exact n
   ·intro q;rw [q,ho] at e;cases e;exact r3 v hd
  ·by_cases hb:b=c
   ·subst hb;rw [zw] at e;cases e;exact ⟨ho,o,ho⟩
   ·rw [zm hb] at e
    exact (I.hok b u e).stay (fun _ _ _ q=>q) (fun d q=>by rw [zm (ne d _ q)];exact q) fun d xs q=>by rw [zm (ne d _ q)];exact q
 ·exact ⟨H,o',I,fun _ _ e=>e,h',(I.hok c _ h').1⟩
theorem Inv.freezeL (I:Inv X pins σ H s):∀(l:List (Str×Addr)),(∀p∈l,X.env.cells.lookup p.1=some p.2∧X.zn p.1=true∧X.fn p.1=false)→∃H',Inv X pins σ H' s∧Yx H H'∧∀p∈l,∃o,H' p.2=some (.frz o (.own 0))∧s.heap.get? p.2=some o
 |[],_=>⟨H,I,fun _ _ e=>e,fun p hp=>nomatch hp⟩
 |p::r,h=>by
  obtain ⟨H1,I1,S1,f1⟩:=I.freezeL r fun q hq=>h q (List.mem_cons_of_mem _ hq)
  obtain ⟨a1,a2,a3⟩:=h p List.mem_cons_self
  obtain ⟨H2,o,I2,S2,e1,e2⟩:=I1.freeze a1 a2 a3
  refine ⟨H2,I2,fun b u e=>S2 b u (S1 b u e),fun q hq=> ?_⟩
  rcases List.mem_cons.mp hq with rfl|hq
  ·exact ⟨o,e1,e2⟩
  ·obtain ⟨o',e3,e4⟩:=f1 q hq
   exact ⟨o',S2 _ _ e3,e4⟩
theorem Inv.lamMade {P c f:Addr} {ps more:Array Value} {oc fo:Obj} {h':Heap} {t':Nat} (I:Inv X pins σ H s) (hP:H P=some (.tbl ps)) (hx:∀b o,b≠P→s.heap.get? b=some o→h'.get? b=some o)
  (hP':h'.get? P=some (PySem.W.tabObj (ps++more))) (hc:s.heap.objs.size≤c) (hco:h'.get? c=some oc) (hf:s.heap.objs.size≤f) (hfo:h'.get? f=some fo) (hcf:c≠f):
  Inv X pins σ (upd (upd (upd H P (.tbl (ps++more))) c (.frz oc (.own 0))) f (.frz fo (.own 0))) {s with heap:=h',toks:=t'}:=by
 have ltP:P<s.heap.objs.size:=(I.hok P _ hP).lt
 have gt:∀a b:Nat,a<s.heap.objs.size→s.heap.objs.size≤b→b≠a:=fun a b h1 h2=>by omega
 have cP:c≠P:=gt P c ltP hc
 have fP:f≠P:=gt P f ltP hf
 have old:∀b,b<s.heap.objs.size→b≠P→upd (upd (upd H P (.tbl (ps++more))) c (.frz oc (.own 0))) f (.frz fo (.own 0)) b=H b:=fun b hb hp=>by
  rw [zm (Ne.symm (gt b f hb hf)),zm (Ne.symm (gt b c hb hc)),zm hp]
 have ltH:∀b u,H b=some u→b<s.heap.objs.size:=fun b u e=>(I.hok b u e).lt
 have atP:upd (upd (upd H P (.tbl (ps++more))) c (.frz oc (.own 0))) f (.frz fo (.own 0)) P=some (.tbl (ps++more)):=by
  rw [zm (Ne.symm fP),zm (Ne.symm cP),zw]
 have nP:∀b,H b=none→b≠P:=fun b n z=>by rw [z,hP] at n;cases n
 refine I.step (g':=s.gens) (d':=s.drawn) (ch:=[]) (fun _ z=>nomatch z) (fun b o _ _ _ e n=>hx b o (nP b n) e) (fun b o _ _ _ e n=>⟨o.slots,hx b o (nP b n) e⟩) (fun b o _ e n=>by rw [old b (Heap.lt_size e) (nP b n)];exact n)
  (fun b o _ e=> ?_) (fun b xs e=> ?_) (fun b o u e=> ?_) (fun b qs e=> ?_) (fun m hm=> ?_) (fun b u e=> ?_) I.bare
 ·by_cases hb:b=P
  ·subst hb;exact ⟨_,hP'⟩
  ·exact ⟨o,hx b o hb e⟩
 ·rw [old b (ltH b _ e) (fun z=>by rw [z,hP] at e;cases e)];exact e
 ·rw [old b (ltH b _ e) (fun z=>by rw [z,hP] at e;cases e)];exact e
 ·by_cases hb:b=P
  ·subst hb;rw [hP] at e;cases e;exact ⟨more,atP⟩
  ·exact ⟨#[],by rw [old b (ltH b _ e) hb,e];simp⟩
 ·obtain ⟨o,es,ep,ho,r⟩:=hm
  exact ⟨o,es,ep,hx _ o (nP _ I.free) ho,r⟩
 ·by_cases h1:b=f
  ·subst h1;rw [zw] at e;cases e;exact ⟨hfo,fo,hfo⟩
  ·rw [zm h1] at e
   by_cases h2:b=c
   ·subst h2;rw [zw] at e;cases e;exact ⟨hco,oc,hco⟩
   ·rw [zm h2] at e
    by_cases h3:b=P
    ·subst h3;rw [zw] at e;cases e;exact hP'
    ·rw [zm h3] at e
     refine (I.hok b u e).stay (fun d o q r=>hx d o ?_ r) (fun d q=> ?_) fun d xs q=> ?_
     ·rcases q with q|q
      ·rw [q];exact h3
      ·intro z;rw [z,hP] at q;cases q
     ·rw [old d (ltH d _ q) (fun z=>by rw [z,hP] at q;cases q)];exact q
     ·rw [old d (ltH d _ q) (fun z=>by rw [z,hP] at q;cases q)];exact q
end
structure ziS (X:Cx) (sc:Scope) (fr:List Str) (is:List Nat):Prop where
 blk:Yz X sc
 fre:∀(i:Nat) x,fr[i]? =some x→sc.names.lookup x=some .free∧∃k,is[i]? =some k∧X.N[k]? =some x
 all:∀y∈sc.names,y.2= .free→X.zn y.1=true∧X.fn y.1=false
noncomputable def ziT (L:yY) (P:Addr) (is:List Nat):TE:=fun σ H Q=>∃(ps:Array Value) (vs:List V),H P=some (.tbl ps)∧TriplesOk ps.toList∧(∀pos cv,codeAmong pos ps.toList=some cv→∃c,cv= .ref c∧XS H L.q c)∧
 is.map (fun i=>(σ[i]?).join)=vs.map some∧
 ∀f ps' H',Yx (upd H P (.tbl ps')) H'→TriplesOk ps'.toList→(∀pos cv,codeAmong pos ps'.toList=some cv→∃c,cv= .ref c∧XS H' L.q c)→UG H' L f vs→Q (.ref f) H'
theorem ziU {X:Cx} {id:Nat} {par:Arguments} {body:Expr} {sc:Scope} {pos:Pos} {tn:XI} {fr:List Str} {is:List Nat} {c P:Addr} (S:ziS X sc fr is) (hq:X.env.qual=tn.d++".<locals>.") (hcode:X.env.code= .ref c) (hC:PySem.W.codeHdIn X.K c P=true)
  (hdef:defaultsOf par X.env=([],[]):=by rfl):PE X (.Lambda par body sc pos) (ziT ⟨id,par,body,sc,tn,fr⟩ P is):=by
 have hq:X.env.qual++"<lambda>"=tn.q:=by rw [hq];rfl
 generalize hqq:tn.q=q at hq
 intro pins s σ H Q I hh
 obtain ⟨ps,vs,hP,ht,hcs,hvs,k⟩:=hh
 simp only [yY.q,hqq] at hcs k
 have hPo:s.heap.get? P=some (PySem.W.tabObj ps):=I.hok P _ hP
 have hg:s.heap.Ns mainGlobals X.mg:=I.mod.glob.keeps I.bk
 have hgP:mainGlobals≠P:=fun z=>by
  obtain ⟨o,es,ep,e,hd,_⟩:=hg
  rw [z,hPo] at e;cases e;cases hd
 have C:PySem.W.CodeHd s.heap c P:=PySem.W.codeHd_of_K I.kIn hC
 have hb:s.heap.BuiltinsAt X.mg P:=by
  obtain ⟨bm,ob,b1,b2,b3,b4,b5,b6⟩:=I.mod.bmn
  have b3:=I.bk _ _ b3
  refine ⟨bm,ob,b1,b2,fun z=> ?_,fun z=> ?_,b3,b4,b5,b6⟩
  ·obtain ⟨o,es,ep,e,hd,_⟩:=hg
   rw [z,e] at b3;cases b3;rw [hd] at b6;cases b6
  ·rw [z,hPo] at b3;cases b3;cases b4
 have fin:∀(f c':Addr) (pm ctv:Value) (ps':Array Value) (H1:Hp) (s1:Shared),Inv X pins σ H1 s1→Yx (upd H P (.tbl ps')) H1→TriplesOk ps'.toList→(∀pos cv,codeAmong pos ps'.toList=some cv→∃c,cv= .ref c∧XS H1 q c)→
   H1 f=some (.frz (PySem.W.kla_obj "<lambda>" q par body sc (Yy sc X.env) pm c' ctv) (.own 0))→XS H1 q c'→EP X pins σ Q (.ref f) s1:=by
  intro f c' pm ctv ps' H1 s1 I1 S1 t1 c1 hf hc'
  have cl:∀p∈Yy sc X.env,X.env.cells.lookup p.1=some p.2∧X.zn p.1=true∧X.fn p.1=false:=fun p hp=>by
   refine ⟨Uz (cs:=[]) (fun p hp=>nomatch hp) p hp,?_⟩
   rcases zah hp with z|z
   ·cases z
   ·exact S.all _ z rfl
  obtain ⟨H2,I2,S2,f2⟩:=I1.freezeL (Yy sc X.env) cl
  refine ⟨.ref f,H2,I2,rfl,k f ps' H2 (fun b u e=>S2 b u (S1 b u e)) t1 (fun p cv e=> ?_) ⟨Yy sc X.env,pm,ctv,c',by rw [show yY.q ⟨id,par,body,sc,tn,fr⟩=q from hqq];exact S2 _ _ hf,by rw [show yY.q ⟨id,par,body,sc,tn,fr⟩=q from hqq];exact hc'.mono (xS.same S2),fun i x v e1 e2=> ?_,fun x y a e1 e2=> ?_,fun y hy e=> ?_,fun x a e=> ?_⟩⟩
  ·obtain ⟨d,e1,e2⟩:=c1 p cv e
   exact ⟨d,e1,e2.mono (xS.same S2)⟩
  ·obtain ⟨h1,n,h2,h3⟩:=S.fre i x e1
   have hm:(x,NameKind.free)∈sc.names:=PySem.mem_of_lookup h1
   have hs:σ[n]? =some (some v):=by
    have e:=congrArg (fun l=>l[i]?) hvs
    simp only [List.getElem?_map,h2,e2,Option.map_some,Option.some.injEq] at e
    cases q:σ[n]? with
    |none=>rw [q] at e;cases e
    |some z=>rw [q] at e;exact congrArg some e
   obtain ⟨m,hn,hl⟩:=I2.loc
   have hk:=S.blk.free _ hm rfl
   obtain ⟨u,r,l⟩:=hl n x v h3 hs (by rcases hk with k|k;exact .inr (.inl k);exact .inr (.inr k))
   rcases l with ⟨k',_⟩|⟨_,a,ha,o,ho,hd⟩
   ·rcases hk with k''|k''
    ·rw [k'] at k'';cases k''
    ·rw [k'] at k'';cases k''
   ·have hcl:(Yy sc X.env).lookup x=some a:=Ws hm ha
    obtain ⟨o',e3,e4⟩:=f2 (x,a) (PySem.mem_of_lookup hcl)
    rw [ho] at e4
    cases e4
    exact ⟨a,o,u,hcl,e3,hd,r⟩
  ·exact I1.ok.inj x y a (xo e1) (xo e2)
  ·obtain ⟨a,ha⟩:=I1.ok.has y.1 (S.blk.free y hy e)
   exact ⟨a,Ws (by rw [←e];exact hy) ha⟩
  ·obtain ⟨o,e3,e4⟩:=f2 (x,a) (PySem.mem_of_lookup e)
   obtain ⟨u,o',e5,hd⟩:=I2.cell x a (xo e)
   rw [e4] at e5
   cases e5
   exact ⟨o,u,e3,hd⟩
 refine PySem.W.kla_eval hdef ?_
 rw [hq]
 cases hca:codeAmong pos ps.toList with
 |none=>
  refine PySem.W.kla_makeFunction (I.closure S.blk) I.ok.glob hg hcode C hPo ht hca hgP hb fun c' ctv h' tk hx hge hlt hrec htb=> ?_
  obtain ⟨c₂,oc,fs,t,e2,hoc,hd,hv⟩:=hrec
  cases e2
  have I1:=I.lamMade (t':=tk) (h':=h'.push (PySem.W.kla_obj "<lambda>" q par body sc (Yy sc X.env) ((X.mg "__name__").getD .none) c' ctv)) (fo:=PySem.W.kla_obj "<lambda>" q par body sc (Yy sc X.env) ((X.mg "__name__").getD .none) c' ctv) (more:= #[rawInt pos.line,rawInt pos.col,.ref c']) hP (fun b o hb' e=>Heap.get?_push_of_some _ (hx b o hb' e)) (Heap.get?_push_of_some _ htb) hge (Heap.get?_push_of_some _ hoc) (Nat.le_trans hge (Nat.le_of_lt hlt)) (Heap.get?_push_size _ rfl) (Nat.ne_of_lt hlt)
  have ltP:P<s.heap.objs.size:=(I.hok P _ hP).lt
  have S1:Yx (upd H P (.tbl (ps++ #[rawInt pos.line,rawInt pos.col,.ref c']))) (upd (upd (upd H P (.tbl (ps++ #[rawInt pos.line,rawInt pos.col,.ref c']))) c' (.frz oc (.own 0))) h'.objs.size (.frz (PySem.W.kla_obj "<lambda>" q par body sc (Yy sc X.env) ((X.mg "__name__").getD .none) c' ctv) (.own 0))):=fun b u e=>by
   have hb':b<s.heap.objs.size:=by
    by_cases hb':b=P
    ·rw [hb'];exact ltP
    ·rw [zm hb'] at e;exact (I.hok b u e).lt
   rw [zm (Nat.ne_of_lt (Nat.lt_of_lt_of_le hb' (Nat.le_trans hge (Nat.le_of_lt hlt)))),zm (Nat.ne_of_lt (Nat.lt_of_lt_of_le hb' hge))]
   exact e
  have hcg:XS (upd (upd (upd H P (.tbl (ps++ #[rawInt pos.line,rawInt pos.col,.ref c']))) c' (.frz oc (.own 0))) h'.objs.size (.frz (PySem.W.kla_obj "<lambda>" q par body sc (Yy sc X.env) ((X.mg "__name__").getD .none) c' ctv) (.own 0))) q c':=⟨oc,fs,t,by rw [zm (Nat.ne_of_lt hlt),zw],hd,hv⟩
  refine fin _ c' _ ctv _ _ _ I1 S1 (by rw [Array.toList_append];exact TriplesOk_snoc _ _ _ _ ht) (fun p cv e=> ?_) zw hcg
  rw [Array.toList_append] at e
  rcases zcZ ps.toList ht e with e|rfl
  ·obtain ⟨d,e1,oc',fs',t',e2,r⟩:=hcs p cv e
   refine ⟨d,e1,oc',fs',t',S1 _ _ ?_,r⟩
   rw [zm (fun z=>by rw [z,hP] at e2;cases e2)]
   exact e2
  ·exact ⟨c',rfl,hcg⟩
 |some cv=>
  obtain ⟨c',rfl,hcg⟩:=hcs pos cv hca
  refine PySem.W.kla_makeFunctionHit (I.closure S.blk) I.ok.glob hg hcode C hPo ht hca hb fun ctv h' tk hk hsz=> ?_
  have hfr:H h'.objs.size=none:=I.hok.fresh hsz
  have I1:=I.laid (t':=tk) (a:=h'.objs.size) (o:= .frz (PySem.W.kla_obj "<lambda>" q par body sc (Yy sc X.env) ((X.mg "__name__").getD .none) c' ctv) (.own 0)) (fun b o e=>Heap.get?_push_of_some _ (hk b o e)) hsz ⟨Heap.get?_push_size _ rfl,_,Heap.get?_push_size _ rfl⟩
  have S1:Yx H (upd H h'.objs.size (.frz (PySem.W.kla_obj "<lambda>" q par body sc (Yy sc X.env) ((X.mg "__name__").getD .none) c' ctv) (.own 0))):=wD hfr
  refine fin _ c' _ ctv ps _ _ I1 (fun b u e=>S1 b u ?_) ht (fun p cv e=> ?_) zw (hcg.mono (xS.same S1))
  ·by_cases hb':b=P
   ·subst hb';rw [zw] at e;cases e;exact hP
   ·rw [zm hb'] at e;exact e
  ·obtain ⟨d,e1,e2⟩:=hcs p cv e
   exact ⟨d,e1,e2.mono (xS.same S1)⟩
end L2
namespace L2
open PySem PySem.Spec PyProof.Rows
noncomputable def zai (P:Program) (w:World) (K:PySem.W.Frag) (mg:Str→Option Value) (base:Heap) (N:List Str) (L:yY) (clos:List (Str×Addr)) (f c:Addr) (A:Around) (outer:List Env) (s:Shared) (H:Hp):Cx where
 prog:=P
 w:=w
 K:=K
 mg:=mg
 base:=base
 A:=A.deeper (PySem.W.envX L.q L.sc s.heap.objs.size f (.ref c) clos)
 N:=N
 s₀:=s
 H₀:=H
 env:=PySem.W.envX L.q L.sc s.heap.objs.size f (.ref c) clos
 outer:=outer
 stack:=PySem.W.envX L.q L.sc s.heap.objs.size f (.ref c) clos::outer
 ex:=[]
 calm:=true
 fn:=fun _=>false
 zn:=fun _=>false
 pn:=[]
 xe:=fun _ _=>False
structure zb4 (ps fr:List Str) (sc:Scope):Prop where
 kind:sc.kind= .function
 co:sc.isCoroutine=false
 gen:sc.isGenerator=false
 nd:ps.Nodup
 par:∀x∈ps,sc.names.lookup x=some .local
 fre:∀x∈fr,sc.names.lookup x=some .free
 noc:∀y∈sc.names,y.2≠ .cell
theorem WD {x:Str} {u:Value}:∀{l:List (Str×Value)},(l.map (·.1)).Nodup→(x,u)∈l→l.lookup x=some u
 |[],_,h=>by cases h
 |(y,v)::r,nd,h=>by
  rw [List.map_cons,List.nodup_cons] at nd
  rw [List.lookup_cons]
  rcases List.mem_cons.mp h with h'|h'
  ·cases h';simp
  ·have:x≠y:=by
    intro z
    subst z
    exact nd.1 (List.mem_map.mpr ⟨_,h',rfl⟩)
   rw [show (x==y)=false by simpa using this]
   exact WD nd.2 h'
theorem zfR {ps:List Str} {us:List Value} {i:Nat} {x:Str} {u:Value} (nd:ps.Nodup) (hl:us.length=ps.length) (h1:ps[i]? =some x) (h2:us[i]? =some u):(ps.zip us).reverse.lookup x=some u:=by
 refine WD ?_ (List.mem_reverse.mpr (List.mem_of_getElem? (i:=i) ?_))
 ·rw [List.map_reverse,(List.reverse_perm _).nodup_iff,List.map_fst_zip (by omega)]
  exact nd
 ·rw [List.getElem?_zip_eq_some]
  exact ⟨h1,h2⟩
noncomputable def CL (outer:List Env) (P:Program) (w:World) (H:Hp) (s:Shared) (Q:VK) (r:Result) (s':Shared):Prop:=match r with
 | .ok (.ret u)=>CE outer P w H s Q u s'
 |_=>False
theorem zg5 {P:Program} {w:World} {K:PySem.W.Frag} {mg:Str→Option Value} {base:Heap} {L:yY} {ps:List Str} {k:Nat} (S:zb4 ps L.fr L.sc)
  (hb:∀(clos:List (Str×Addr)) (pm ctv:Value) (c:Addr) (us:List Value),us.length=ps.length→bindArgs (PySem.W.kla_fn "<lambda>" L.q L.par L.body L.sc clos pm (.ref c) ctv) ⟨us,[]⟩=pure (ps.zip us))
  {A:Around} {outer:List Env} {s:Shared} {H:Hp} {f:Addr} {vs as:List V} {us:List Value} {Q:VK} (hr:wc (k+1) A) (e0:Tg P w K mg base A outer s H) (hL:UG H L f vs) (hvl:vs.length=L.fr.length) (r:zO as us) (hl:as.length=ps.length)
  (hbody:∀(clos:List (Str×Addr)) (c:Addr),wc k (zai P w K mg base (ps++L.fr) L clos f c A outer s H).A→∃t,PE (zai P w K mg base (ps++L.fr) L clos f c A outer s H) L.body t∧t ((as++vs).map some) H Q):
  codeAny (model P w) A (.call (.ref f) ⟨us,[]⟩) (CL outer P w H s Q) s:=by
 obtain ⟨clos,pm,ctv,c,h1,⟨oc,fs,t,hc1,hc2,hc3⟩,h3,h4,h5,h6⟩:=hL.ex
 have hfo:=(e0.hok f _ h1).1
 have hco:=(e0.hok c _ hc1).1
 have lim:s.heap.NoLimit:=e0.mod.nolimit.keeps fun b o e=>(e0.bs b o e).1
 have hul:us.length=ps.length:=by rw [←r.length];exact hl
 refine PySem.W.kla_callFunE hr.depth hfo rfl S.co S.gen rfl ⟨c,oc,fs,t,rfl,hco,hc2,hc3⟩ ?_
 rw [hb clos pm ctv c us hul]
 refine wpAny_pure (wpAny_newFunctionEnv S.noc (fun y hy=>S.par _ (List.of_mem_zip hy).1) (fun h₁ hns hsb=>⟨lim.fresh _ hsb,?_⟩) S.kind)
 show codeAny _ _ (.expr L.body (PySem.W.envX L.q L.sc s.heap.objs.size f (.ref c) clos)) _ _
 have hk:∀b o,s.heap.get? b=some o→h₁.get? b=some o:=fun b o e=>hsb.extBut b o (Nat.ne_of_lt (Heap.lt_size e)) (Heap.get?_push_of_some _ e)
 have noA:∀b:Addr,b∉(zai P w K mg base (ps++L.fr) L clos f c A outer s H).ex:=fun b z=>absurd (show b∈([]:List Addr) from z) (by simp)
 have I:Inv (zai P w K mg base (ps++L.fr) L clos f c A outer s H) [] ((as++vs).map some) H {s with heap:=h₁,toks:=s.toks+(ps.zip us).length}:=by
  refine ⟨⟨e0.mod,S.kind,rfl,rfl,Nat.le_refl _,fun y z a e1 e2=>h4 y z a e1 e2,fun y hy=> ?_,fun y a z _=>(z.elim (fun z=>Bool.noConfusion z) fun z=>Bool.noConfusion z),fun _=>hr.hd,Around.frames_deeper e0.frames,.inr ⟨rfl,rfl⟩,fun b z=>absurd z (noA b),e0.bs,e0.bsz,fun b _ _=>noA b,fun b z=>absurd z (noA b),e0.funs,e0.frf⟩,
   rfl,e0.bare,Un.kept hk,⟨_,hns,fun i y v e1 e2 e3=> ?_⟩,fun y a e=> ?_,e0.hok.fresh (Nat.le_refl _),fun y a e=> ?_,fun p hp=>absurd (show p∈([]:List (Addr×Obj)) from hp) (by simp),e0.hok.kept hk,?_⟩
  ·have hy:L.sc.names.lookup y=some .cell∨L.sc.names.lookup y=some .free:=hy
   rcases hy with hy|hy
   ·exact absurd rfl (S.noc _ (PySem.mem_of_lookup hy))
   ·exact h5 _ (PySem.mem_of_lookup hy) rfl
  ·have e1:(ps++L.fr)[i]? =some y:=e1
   rw [List.getElem?_map,Option.map_eq_some_iff] at e2
   obtain ⟨v',e2,e2'⟩:=e2
   cases e2'
   by_cases hi:i<ps.length
   ·rw [List.getElem?_append_left hi] at e1
    rw [List.getElem?_append_left (by omega)] at e2
    obtain ⟨u,hu,rv⟩:=r.get e2
    exact ⟨u,rv,.inl ⟨S.par y (List.mem_of_getElem? e1),zfR S.nd hul e1 hu⟩⟩
   ·rw [List.getElem?_append_right (by omega)] at e1
    rw [List.getElem?_append_right (by omega),hl] at e2
    obtain ⟨a,o,u,g1,g2,g3,g4⟩:=h3 _ _ _ e1 e2
    exact ⟨u,g4,.inr ⟨.inr (S.fre y (List.mem_of_getElem? e1)),a,g1,o,hk _ _ (e0.hok a _ g2).1,g3⟩⟩
  ·obtain ⟨o,u,g2,g3⟩:=h6 y a e
   exact ⟨u,o,hk _ _ (e0.hok a _ g2).1,g3⟩
  ·obtain ⟨o,u,g2,g3⟩:=h6 y a e
   exact .inr ⟨rfl,o,g2⟩
  ·show _=(ps++L.fr).length
   rw [List.length_map,List.length_append,List.length_append,hl,hvl]
 obtain ⟨tt,ht,hq⟩:=hbody clos c (hr.deeper _)
 refine PySem.W.kla_codeExpr (wpAny_mono (ht [] _ _ H Q I hq) (fun u s' hs=> ?_) fun e s' z=>False.elim z)
 obtain ⟨v,H',J,rv,q⟩:=hs
 exact ⟨v,H',J.os,J.bare,J.base,J.hok,rv,q⟩
noncomputable def FnG (H:Hp) (x:V) (f:Addr):Prop:=x= .ref f∧∃(fd:FuncData),H f=some (.frz {cls:= .type "function",data:= .func fd} (.own 0))
noncomputable def zjO (P:Program) (w:World) (K:PySem.W.Frag) (mg:Str→Option Value) (base:Heap) (k:Nat) (R:V→List V→Hp→VK→Prop):Prop:=
 ∀(A:Around) (outer:List Env) (s:Shared) (H:Hp) (f:Addr) (as:List V) (us:List Value) (Q:VK),wc k A→Tg P w K mg base A outer s H→zO as us→R (.ref f) as H Q→codeAny (model P w) A (.call (.ref f) ⟨us,[]⟩) (CL outer P w H s Q) s
noncomputable def zfS (i:Nat) (R:V→List V→Hp→VK→Prop) (t:TA):TE:=fun σ H Q=>∃x f,σ[i]? =some (some x)∧FnG H x f∧t σ H fun as H2=>FnG H2 x f∧R x as H2 Q
theorem FnG.at {P:Program} {w:World} {H:Hp} {h:Heap} {x:V} {f:Addr} (g:FnG H x f) (hok:HOk P w H h):PySem.W.FnAt f h:=by
 obtain ⟨_,fd,e⟩:=g
 exact ⟨_,_,_,_,(hok f _ e).1⟩
theorem zb5 {X:Cx} {i k:Nat} {x:Str} {p pos:Pos} {e:Expr} {es:List Expr} {t:TA} {R:V→List V→Hp→VK→Prop} (hN:X.N[i]? =some x) (hv:Vis X.env.scope x) (F:zjO X.prog X.w X.K X.mg X.base k R) (hr:wc k X.A) (ha:PA X (e::es) t)
  (hd:(x==("__debug__":Str))=false:=by decide) (hcd:(x==("__classdict__":Str))=false:=by decide) (he:starEach (e::es) X.env=(false,eval e X.env)::starEach es X.env:=by rfl) (hpl:(backTo pos (starEach es X.env)).any (·.1)=false:=by rfl):
  PE X (.Call (.Name x p) (e::es) [] pos) (zfS i R t):=by
 intro pins s σ H Q I h
 obtain ⟨v,f,hs,hf,ht⟩:=h
 obtain ⟨rfl,_⟩:=id hf
 refine wpAny_Call_Name_kw ?_
 have hx:= @zeC X i x p hN hv hd hcd pins s σ H (fun y H1=>y= .ref f∧H1=H) I ⟨.ref f,hs,rfl,rfl⟩
 refine thn hx ?_
 rintro u s1 ⟨y,H1,I1,r1,e1,e2⟩
 subst e1
 rw [e2] at I1
 obtain rfl:u=Value.ref f:=r1
 refine PySem.W.callWith_F (hf.at I1.hok) (thn (ha pos pins s1 σ H _ I1 ht) ?_) he hpl
 rintro us s2 ⟨as,H2,I2,r2,hf2,q2⟩
 refine ⟨hf2.at I2.hok,?_⟩
 refine wpAny_call (codeAny_mono (F X.A X.stack s2 H2 f as us Q hr I2.env0 r2 q2) fun r s' hq=> ?_)
 cases r with
 |error e=>exact False.elim hq
 |ok fl=>
  cases fl with
  |ret u=>exact I2.after hq
  |next=>exact False.elim hq
  |brk=>exact False.elim hq
  |cont=>exact False.elim hq
end L2
namespace L2
open PySem PySem.Spec PyProof.Rows
noncomputable def zc0 (ρ:Rho):List Nat→Option (List Xv)
 |[]=>some []
 |i::r=>(ρ[i]?).join.bind fun x=>(zc0 ρ r).map (x:: ·)
noncomputable def zb6 (L:yY) (n:Nat) (is:List Nat):TwE:=fun ρ S=>match S[n]? with
 |some (.tab t)=> @ite _ (t=L.t) (Classical.propDecidable _) ((zc0 ρ is).map fun xs=> .ok (.lam L xs) S) none
 |_=>none
noncomputable def Yg:List (yY×(List Xv→TwF))→yY→Option (List Xv→TwF)
 |[],_=>none
 |(M,t)::r,L=> @ite _ (M=L) (Classical.propDecidable _) (some t) (Yg r L)
noncomputable def Vm (fns:List (yY×(List Xv→TwF))) (i:Nat) (ms:List TwE):TwE:=fun ρ S=>match (ρ[i]?).join with
 |some (.lam L caps)=>rb (evL ms ρ S) fun xs S1=>(Yg fns L).bind fun tw=>match tw caps xs S1 with
  |some (.ok x S2)=>some (.ok x S2)
  |_=>none
 |_=>none
noncomputable def zb7 (n m:Nat) (e:TwE):List Xv→TwF:=fun caps xs S=>if xs.length=n∧caps.length=m then e ((xs++caps).map some) S else none
section
variable {K:PySem.W.Frag} {E:XK} {F:Fm} {j:List Addr} {H H':Hp} {σ:St} {ρ:Rho} {S:Sto}
theorem Ug {L:yY} {t:List Xv→TwF} {r:List (yY×(List Xv→TwF))}:Yg ((L,t)::r) L=some t:=by unfold Yg;exact if_pos rfl
theorem za2 {L M:yY} {t:List Xv→TwF} {r:List (yY×(List Xv→TwF))} (h:M.id≠L.id):Yg ((M,t)::r) L=Yg r L:=by
 rw [Yg]
 exact if_neg fun z=>h (congrArg yY.id z)
theorem zb8 {L:yY} {t:List Xv→TwF}:∀{fns:List (yY×(List Xv→TwF))},Yg fns L=some t→(L,t)∈fns
 |[],h=>by cases h
 |(M,u)::r,h=>by
  unfold Yg at h
  by_cases e:M=L
  ·rw [if_pos e] at h;cases h;rw [e];exact List.mem_cons_self
  ·rw [if_neg e] at h;exact List.mem_cons_of_mem _ (zb8 h)
theorem En.writeS {n:Nat} {a:Addr} {c c':Ce} {o:HO} (E1:En K F j H σ ρ S) (hs:S[n]? =some c) (z:c.fz=false) (hj:j[n]? =some a) (Sm:Yx (upd H a o) H') (hc:UH K j H' a c'):En K F j H' σ ρ (S.set n c')∧Ext j H j H':=by
 obtain ⟨o0,h0,m0⟩:=(E1.cel n c a hs hj).mu z
 have S1:Yx H (upd H' a o0):=fun b u e=>by
  by_cases hb:b=a
  ·subst hb;rw [zw];rw [h0] at e;exact e
  ·rw [zm hb];exact Sm b u (by rw [zm hb];exact e)
 have e2:upd (upd H' a o0) a o=H':=by
  funext b
  by_cases hb:b=a
  ·subst hb;rw [zw];exact (Sm b o zw).symm
  ·rw [zm hb,zm hb]
 have E2:=E1.heap S1
 obtain ⟨E3,X3⟩:=E2.writeF (o:=o) (c':=c') hs z hj (fun X=>by rw [e2];exact hc)
 rw [e2] at E3 X3
 exact ⟨E3,(Ext.same S1).trans X3⟩
theorem zb9 (E1:En K F j H σ ρ S):∀{is:List Nat} {xs:List Xv},zc0 ρ is=some xs→∃vs,is.map (fun i=>(σ[i]?).join)=vs.map some∧zM K j H xs vs
 |[],xs,h=>by cases h;exact ⟨[],rfl,.nil⟩
 |i::r,xs,h=>by
  unfold zc0 at h
  cases e:(ρ[i]?).join with
  |none=>rw [e] at h;cases h
  |some x=>
   rw [e] at h
   dsimp only [Option.bind] at h
   cases e2:zc0 ρ r with
   |none=>rw [e2] at h;cases h
   |some ys=>
    rw [e2] at h
    cases h
    obtain ⟨vs,h1,h2⟩:=zb9 E1 e2
    have e':ρ[i]? =some (some x):=by
     cases q:ρ[i]? with
     |none=>rw [q] at e;cases e
     |some z=>rw [q] at e;exact congrArg some e
    obtain ⟨v,h3,h4⟩:=E1.slot i x e'
    exact ⟨v::vs,by simp [h3,h1],.cons h4 h2⟩
theorem za3 {L:yY} {n:Nat} {is:List Nat} {c P:Addr} (hP:Zv K L.t=some (c,P)):RE K E (ziT L P is) (zb6 L n is):=by
 intro F j σ H ρ S r Q En0 e k
 unfold zb6 at e
 split at e
 ·rename_i t es
  by_cases ht:t=L.t
  ·rw [if_pos ht] at e
   subst ht
   cases e2:zc0 ρ is with
   |none=>rw [e2] at e;cases e
   |some xs=>
    rw [e2] at e
    cases e
    have hn:n<j.length:=by rw [En0.jl];exact (List.getElem?_eq_some_iff.1 es).1
    have hj:j[n]? =some j[n]:=List.getElem?_eq_getElem hn
    obtain ⟨ps,d,hH,htk,htr,hcs⟩:=En0.cel n _ _ es hj
    rw [hP] at htk
    cases htk
    obtain ⟨vs,h1,h2⟩:=zb9 En0 e2
    refine ⟨ps,vs,hH,htr,hcs,h1,fun f ps' H' Sm t' c' la=> ?_⟩
    obtain ⟨E2,X2⟩:=En0.writeS (c':= .tab L.t) es rfl hj Sm ⟨ps',c,Sm _ _ zw,hP,t',c'⟩
    have hset:S.set n (.tab L.t)=S:=by
     apply List.ext_getElem?
     intro m
     rw [List.getElem?_set]
     split
     ·rename_i q
      subst q
      rw [if_pos (List.getElem?_eq_some_iff.1 es).1,es]
     ·rfl
    rw [hset] at E2
    exact k _ _ X2 E2 _ (.lam la (h2.mono X2))
  ·rw [if_neg ht] at e;cases e
 ·cases e
noncomputable def zjP (K:PySem.W.Frag) (fns:List (yY×(List Xv→TwF))):V→List V→Hp→VK→Prop:=fun x as H Q=>∃(j:List Addr) (S S':Sto) (xs caps:List Xv) (L:yY) (tw:List Xv→TwF) (z:Xv),
 En K ⟨H,j,S⟩ j H (as.map some) (xs.map some) S∧Xis K j H (.lam L caps) x∧Yg fns L=some tw∧tw caps xs S=some (.ok z S')∧∀v j' H' σ ρ,En K ⟨H,j,S⟩ j' H' σ ρ S'→Xis K j' H' z v→Q v H'
noncomputable def Yh (P:Program) (w:World) (K:PySem.W.Frag) (mg:Str→Option Value) (base:Heap) (k:Nat) (L:yY) (tw:List Xv→TwF):Prop:=∀(A:Around) (outer:List Env) (s:Shared) (H:Hp) (f:Addr) (vs as:List V) (us:List Value) (Q:VK) (j:List Addr) (S S':Sto) (xs caps:List Xv) (z:Xv),
 wc k A→Tg P w K mg base A outer s H→UG H L f vs→zM K j H caps vs→zO as us→En K ⟨H,j,S⟩ j H (as.map some) (xs.map some) S→tw caps xs S=some (.ok z S')→
 (∀v j' H' σ ρ,En K ⟨H,j,S⟩ j' H' σ ρ S'→Xis K j' H' z v→Q v H')→codeAny (model P w) A (.call (.ref f) ⟨us,[]⟩) (CL outer P w H s Q) s
theorem Yh.mono {P:Program} {w:World} {mg:Str→Option Value} {base:Heap} {i k:Nat} {L:yY} {tw:List Xv→TwF} (h:Yh P w K mg base i L tw) (hk:i≤k):Yh P w K mg base k L tw:=
 fun A outer s H f vs as us Q j S S' xs caps z hr=>h A outer s H f vs as us Q j S S' xs caps z (hr.mono hk)
theorem zdD {P:Program} {w:World} {mg:Str→Option Value} {base:Heap} {k:Nat} {fns:List (yY×(List Xv→TwF))} (h:∀p∈fns,Yh P w K mg base k p.1 p.2):zjO P w K mg base k (zjP K fns):=by
 rintro A outer s H f as us Q hr e0 r ⟨j,S,S',xs,caps,L,tw,z,E1,hx,hp,ht,q⟩
 cases hx with
 |lam la l=>exact h (L,tw) (zb8 hp) A outer s H f _ as us Q j S S' xs caps z hr e0 la l r E1 ht q
theorem za4 {P:Program} {w:World} {mg:Str→Option Value} {base:Heap} {k n mm:Nat} {L:yY} {ps:List Str} {m:TwE} (Sc:zb4 ps L.fr L.sc) (hn:ps.length=n) (hm:L.fr.length=mm)
  (hb:∀(clos:List (Str×Addr)) (pm ctv:Value) (c:Addr) (us:List Value),us.length=ps.length→bindArgs (PySem.W.kla_fn "<lambda>" L.q L.par L.body L.sc clos pm (.ref c) ctv) ⟨us,[]⟩=pure (ps.zip us))
  (hrd:∀(clos:List (Str×Addr)) (f c:Addr) (A:Around) (outer:List Env) (s:Shared) (H:Hp),wc k (zai P w K mg base (ps++L.fr) L clos f c A outer s H).A→∃t,PE (zai P w K mg base (ps++L.fr) L clos f c A outer s H) L.body t∧RE K E0 t m):
  Yh P w K mg base (k+1) L (zb7 n mm m):=by
 intro A outer s H f vs as us Q j S S' xs caps z hr e0 la l r E1 ht q
 unfold zb7 at ht
 split at ht
 ·rename_i hl
  have hal:as.length=xs.length:=by have:=E1.len;simpa using this
  refine zg5 Sc hb hr e0 la (by rw [l.len,hl.2,hm]) r (by rw [hal,hl.1,hn]) fun clos c hr'=> ?_
  obtain ⟨t,h1,h2⟩:=hrd clos f c A outer s H hr'
  refine ⟨t,h1,h2 (E1.slots (σ':=(as++vs).map some) (ρ':=(xs++caps).map some) (by simp [hal,l.len]) fun i x e=> ?_) ht fun j' H' X E' v hv=>q _ _ _ _ _ E' hv⟩
  rw [List.getElem?_map,Option.map_eq_some_iff] at e
  obtain ⟨y,e,e'⟩:=e
  cases e'
  by_cases hi:i<xs.length
  ·rw [List.getElem?_append_left hi] at e
   obtain ⟨v,h3,h4⟩:=E1.slot i x (by rw [List.getElem?_map,e];rfl)
   rw [List.getElem?_map,Option.map_eq_some_iff] at h3
   obtain ⟨v',h3,h3'⟩:=h3
   cases h3'
   exact ⟨v,by rw [List.getElem?_map,List.getElem?_append_left (by omega),h3];rfl,h4⟩
  ·rw [List.getElem?_append_right (by omega)] at e
   obtain ⟨v,h3,h4⟩:=l.get e
   exact ⟨v,by rw [List.getElem?_map,List.getElem?_append_right (by omega),hal,h3];rfl,h4⟩
 ·cases ht
theorem zca {fns:List (yY×(List Xv→TwF))} {i:Nat} {t:TA} {ms:List TwE} (h:RL K E t (evL ms)):RE K E (zfS i (zjP K fns) t) (Vm fns i ms):=by
 intro F j σ H ρ S r Q En0 e k
 unfold Vm at e
 split at e
 ·rename_i L caps er
  have e':ρ[i]? =some (some (.lam L caps)):=by
   cases q:ρ[i]? with
   |none=>rw [q] at er;cases er
   |some z=>rw [q] at er;exact congrArg some er
  obtain ⟨v,e1,hx⟩:=En0.slot i _ e'
  have hx':=hx
  cases hx with
  | @lam f vs _ _ la l=>
   obtain ⟨clos,pm,ctv,c,h1,_⟩:=la.ex
   refine ⟨.ref f,f,e1,⟨rfl,_,h1⟩,?_⟩
   rcases zl e with ⟨xs,S1,e2,e⟩|⟨c,S1,e2,rfl⟩
   ·refine h En0 e2 fun j1 H1 X1 E1 as hv=>⟨⟨rfl,_,X1.imm _ _ h1 rfl⟩,?_⟩
    cases hp:Yg fns L with
    |none=>rw [hp] at e;cases e
    |some tw=>
     rw [hp] at e
     dsimp only [Option.bind] at e
     split at e
     ·rename_i x S2 e3
      cases e
      obtain ⟨l1,s1⟩:=UL hv
      refine ⟨j1,S1,S2,xs,caps,L,tw,x,E1.enter l1 s1,hx'.mono X1,hp,e3,fun v j' H' σ' ρ' Ex hz=> ?_⟩
      obtain ⟨E2,X2⟩:=E1.leave Ex
      exact k j' H' (X1.trans X2) E2 v hz
     ·cases e
   ·exact h En0 e2 k
 ·cases e
theorem za5 {L:yY} {n:Nat} {is:List Nat} {xs:List Xv} {P:Xv→Sto→Prop} (h:S[n]? =some (.tab L.t)) (hc:zc0 ρ is=some xs) (k:P (.lam L xs) S):W (zb6 L n is ρ S) P:= .of (by
 unfold zb6
 rw [h]
 dsimp only
 rw [if_pos rfl,hc]
 rfl) k
theorem zcb {fns:List (yY×(List Xv→TwF))} {i:Nat} {L:yY} {caps:List Xv} {tw:List Xv→TwF} {ms:List TwE} {P:Xv→Sto→Prop} (h:ρ[i]? =some (some (.lam L caps))) (hp:Yg fns L=some tw) (k:W (evL ms ρ S) fun xs S1=>W (tw caps xs S1) P):W (Vm fns i ms ρ S) P:=by
 unfold Vm
 rw [h]
 dsimp only [Option.join]
 refine W.bind (k.imp fun xs S1 k=> ?_)
 rw [hp]
 obtain ⟨x,S2,e,k⟩:=k
 dsimp only [Option.bind]
 rw [e]
 exact .of rfl k
theorem Uh {n m:Nat} {e:TwE} {caps xs:List Xv} {P:Xv→Sto→Prop} (h1:xs.length=n) (h2:caps.length=m) (k:W (e ((xs++caps).map some) S) P):W (zb7 n m e caps xs S) P:=by
 unfold zb7
 rw [if_pos ⟨h1,h2⟩]
 exact k
end
end L2
namespace L2
open PySem PySem.Spec PyProof.Rows
noncomputable def noE:Expr:= .Name Str.empty ⟨0,0,0,0⟩
noncomputable def zg6 (s:Stmt):Expr:=match s with
 | .Return (some e) _=>e
 |_=>noE
noncomputable def zg7 (e:Expr) (i:Nat):Expr:=match e with
 | .Call _ es _ _=>es.getD i noE
 |_=>noE
noncomputable def zg8 (s:Stmt) (i:Nat):Stmt:=(vo s).getD i (.Pass ⟨0,0,0,0⟩)
noncomputable def za6 (e:Expr):Arguments:=match e with
 | .Lambda a _ _ _=>a
 |_=>{posonlyargs:=[],args:=[],vararg:=none,kwonlyargs:=[],kw_defaults:=[],kwarg:=none,defaults:=[]}
noncomputable def Ui (e:Expr):Expr:=match e with
 | .Lambda _ b _ _=>b
 |_=>noE
noncomputable def zdE (e:Expr):Scope:=match e with
 | .Lambda _ _ s _=>s
 |_=>{kind:= .function,names:=[],isGenerator:=false,isCoroutine:=false}
theorem Yi {K:PySem.W.Frag} {f c P:Addr} (h:zfd K f=some (c,P)):PySem.W.codeHdIn K c P=true∧∀{oc:Value} {od:Option Addr} {fd:FuncData} {sl:Array (Option Value)},K.lookup f=some ⟨oc,od,.func fd,sl⟩→fd.code= .ref c:=by
 unfold zfd at h
 split at h
 ·rename_i fd1 _ e1
  split at h
  ·rename_i c1 e2
   split at h
   ·split at h
    ·split at h
     ·rename_i hd
      cases h
      refine ⟨hd,fun e=> ?_⟩
      rw [e1] at e
      cases e
      exact e2
     ·cases h
    ·cases h
   ·cases h
  ·cases h
 ·cases h
noncomputable def zdF (fz:List Str) (CX:CXT) (P:Program) (w:World) (K:PySem.W.Frag) (mg:Str→Option Value) (base:Heap) (N:List Str) (qual:Str) (scope:Scope) (f:Addr) (cd:Value) (A:Around) (outer:List Env) (s:Shared) (H:Hp) (E:XK):Cx:=
 {Th CX P w K mg base N qual scope f cd A outer s H E with fn:=fun x=> !fz.contains x,zn:=fun x=>fz.contains x}
theorem Inv.toZ {fz:List Str} {CX:CXT} {P:Program} {w:World} {K:PySem.W.Frag} {mg:Str→Option Value} {base:Heap} {N:List Str} {qual:Str} {scope:Scope} {f:Addr} {cd:Value} {A:Around} {outer:List Env} {s s1:Shared} {H H1:Hp} {E:XK} {pins:List (Addr×Obj)} {σ:St}
  (I:Inv (Th CX P w K mg base N qual scope f cd A outer s H E) pins σ H1 s1):Inv (zdF fz CX P w K mg base N qual scope f cd A outer s H E) pins σ H1 s1:=
 ⟨⟨I.ok.mod,I.ok.kind,I.ok.glob,I.ok.blt,I.ok.above,I.ok.inj,I.ok.has,fun x c _ e=>I.ok.cab x c (.inl rfl) e,I.ok.hd,I.ok.frames,I.ok.stk,I.ok.exf,I.ok.bs,I.ok.bsz,I.ok.noex,I.ok.exfs,I.ok.funs,I.ok.frf⟩,I.os,I.bare,I.base,I.loc,I.cell,I.free,
  fun x c e=> .inl ((I.freeC x c e).elim (fun z=>z) fun z=>Bool.noConfusion (show true=false from z.1)),I.pin,I.hok,I.len⟩
theorem Fun.okZ {P:Program} {w:World} {K:PySem.W.Frag} {mg:Str→Option Value} {base:Heap} {x qual:Str} {st:Stmt} {f c T:Addr} {fd:FuncData} {N ps:List Str} {k:Nat} {sp:Sp} {fz:List Str} (F:Fun K x qual st f fd) (hT:zfd K f=some (c,T)) (S:zv N ps (zh st)) (len:∀vs H Q E,sp vs H Q E→vs.length=ps.length)
  (hbody:∀(A:Around) (outer:List Env) (s:Shared) (H:Hp) (vs:List V) (Q:VK) (E:XK),wc k (A.deeper (envOfC qual (zh st) s.heap.objs.size f (.ref c)))→sp vs H Q E→
   ∃t,PSs (zdF fz (CXE P w) P w K mg base N qual (zh st) f (.ref c) A outer s H E) (vo st) t∧t {nx:=fun _ H'=>Q .non H',rt:=Q} (Zx N vs) H):yj P w K mg base (CXE P w) (k+1) f fd ps sp:=by
 obtain ⟨oc,od,kV,doc,pm,an,cdv,ct,osl,rfl,lk,hcd⟩:=F.ex
 have hc:cdv= .ref c:=(Yi hT).2 lk
 subst hc
 refine ⟨len,fun A outer s H args us vs Q E hr e0 hb r hsp=> ?_⟩
 have hl:=len _ _ _ _ hsp
 have KX:K.In s.heap:=e0.mod.kin.keeps fun b o e=>(e0.bs b o e).1
 have lim:s.heap.NoLimit:=e0.mod.nolimit.keeps fun b o e=>(e0.bs b o e).1
 have hkind:∀y∈ps.zip us,(zh st).names.lookup y.1=some .local∨((zh st).names.lookup y.1=some .cell∧((cellsFrom (s.heap.objs.size+1) (zh st).names []).lookup y.1).isSome=true):=fun ⟨n,v⟩ hy=>by
  rcases S.par n (List.of_mem_zip hy).1 with q|q
  ·exact .inl q
  ·exact .inr ⟨q,PySem.W.cellsFrom_some _ _ _ (.inl q)⟩
 refine codeAny_call_function hr.depth (KX _ _ lk) rfl S.co S.gen rfl (PySem.W.codeRec_of KX hcd) (hb _ _ _ _ ?_)
 refine wpAny_newFunctionEnv_cells S.kind hkind fun env he s1 x=> ?_
 subst he
 refine ⟨lim.keeps x.toInCall.keep,codeAny_func ?_⟩
 obtain ⟨t,ht,hq⟩:=hbody A outer s H vs Q E (hr.deeper _) hsp
 have I:Inv (zdF fz (CXE P w) P w K mg base N qual (zh st) f (.ref c) A outer s H E) [] (Zx N vs) H s1:=(TQ S hr.hd e0 hl r x).toZ
 refine wpAny_mono (ht [] s1 (Zx N vs) H _ I hq) (fun fl s' hs=> ?_) fun e s' hs=>hs
 have fin:∀{σ':St} {H':Hp} {v:V} {u:Value},Inv (zdF fz (CXE P w) P w K mg base N qual (zh st) f (.ref c) A outer s H E) [] σ' H' s'→zQ v u→Q v H'→CE outer P w H s Q u s':=
  fun {σ' H' v u} J rv q=>⟨v,H',J.os,J.bare,J.base,J.hok,rv,q⟩
 cases fl with
 |ret u=>
  obtain ⟨v,σ',H',J,rv,q⟩:=hs
  exact fin J rv q
 |next=>
  obtain ⟨σ',H',J,q⟩:=hs
  exact fin (v:=V.non) (u:=Value.none) J rfl q
 |brk=>
  obtain ⟨_,_,_,q⟩:=hs
  exact False.elim q
 |cont=>
  obtain ⟨_,_,_,q⟩:=hs
  exact False.elim q
noncomputable def zfT (osc sc:Scope) (N fz fr:List Str) (is:List Nat):Bool:=ze8 osc sc&&fr.length==is.length&&(fr.zip is).all (fun p=>sc.names.lookup p.1==some .free&&N[p.2]? ==some p.1)&&sc.names.all (fun y=>y.2 != .free||fz.contains y.1)
theorem Uj {X:Cx} {osc sc:Scope} {N fz fr:List Str} {is:List Nat} (hs:X.env.scope=osc) (hN:X.N=N) (hf:X.fn=fun x=> !fz.contains x) (hz:X.zn=fun x=>fz.contains x) (h:zfT osc sc N fz fr is=true):ziS X sc fr is:=by
 unfold zfT at h
 simp only [Bool.and_eq_true,List.all_eq_true,beq_iff_eq,bne_iff_ne,ne_eq,Bool.or_eq_true] at h
 obtain ⟨⟨⟨h1,h2⟩,h3⟩,h4⟩:=h
 refine ⟨blk hs h1,fun i x e=> ?_,fun y hy e=> ?_⟩
 ·have hi:i<is.length:=by rw [←h2];exact (List.getElem?_eq_some_iff.1 e).1
  have e2:is[i]? =some is[i]:=List.getElem?_eq_getElem hi
  obtain ⟨g1,g2⟩:=h3 (x,is[i]) (List.mem_of_getElem? (i:=i) (by rw [List.getElem?_zip_eq_some];exact ⟨e,e2⟩))
  exact ⟨g1,is[i],e2,by rw [hN];exact g2⟩
 ·have g:=(h4 y hy).resolve_left fun z=>z e
  rw [hf,hz]
  exact ⟨g,by dsimp only;rw [g];rfl⟩
theorem Uk {X:Cx} {L:yY} {e:Expr} {pos:Pos} {is:List Nat} {c P:Addr} (S:ziS X L.sc L.fr is) (hq:X.env.qual=L.t.d++".<locals>.") (hcode:X.env.code= .ref c) (hC:PySem.W.codeHdIn X.K c P=true)
  (hL:e= .Lambda L.par L.body L.sc pos:=by rfl) (hdef:defaultsOf L.par X.env=([],[]):=by rfl):PE X e (ziT L P is):=by
 rw [hL]
 exact ziU (id:=L.id) S hq hcode hC hdef
section
variable {P:Program} {w:World} {K:PySem.W.Frag} {mg:Str→Option Value} {base:Heap} {k i:Nat}
theorem zcc:∀p∈([]:List (yY×(List Xv→TwF))),Yh P w K mg base k p.1 p.2:=fun p hp=>nomatch hp
theorem XC {L:yY} {tw:List Xv→TwF} {fns:List (yY×(List Xv→TwF))} (h:Yh P w K mg base i L tw) (hk:i≤k) (r:∀p∈fns,Yh P w K mg base k p.1 p.2):∀p∈(L,tw)::fns,Yh P w K mg base k p.1 p.2:=fun p hp=>by
 rcases List.mem_cons.mp hp with rfl|hp
 ·exact h.mono hk
 ·exact r p hp
end
noncomputable def XD (nm m:Str) (tw:TwF) (o:TwE) (ms:List TwE):TwE:=fun ρ S=>rb (o ρ S) fun x S1=>(UT S1 x nm).bind fun p=>if p.2.lookup m=none then rb (evL ms ρ S1) fun xs S2=>(match tw (x::xs) S2 with
  |some (.ok y S3)=>some (.ok y S3)
  |_=>none) else none
section
variable {K:PySem.W.Frag} {E:XK} {C:Addr} {nm m:Str} {ρ:Rho} {S:Sto}
theorem XE {n:Nat} {tw:TwF} {o:TwE} {to:TE} {ms:List TwE} {t:TA} (hns:PySem.W.nsIn K mainGlobals nm=some (some (.ref C))) (ho:RE K E to o) (h:RL K E t (evL ms)) (hn:ms.length+1=n:=by rfl):RE K E (zeP C m (sTw K n tw) [] E0 to t) (XD nm m tw o ms):=by
 intro F j σ H ρ S r Q En0 e k
 rcases zl e with ⟨x,S1,e1,e⟩|⟨c,S1,e1,rfl⟩
 ·refine ho En0 e1 fun j1 H1 X1 E1 u hu=> ?_
  rw [Option.bind_eq_some_iff] at e
  obtain ⟨⟨q,fs⟩,e2,e⟩:=e
  dsimp only at e
  split at e
  ·rename_i hlk
   obtain ⟨a,dx,vs0,rfl,hj,f1,f2⟩:=E1.ins hns hu e2
   refine ⟨a,dx,vs0,rfl,f1,f2.look.2 hlk,?_⟩
   rcases zl e with ⟨xs,S2,e3,e⟩|⟨c,S2,e3,rfl⟩
   ·refine h E1 e3 fun j2 H2 X2 E2 vs hv=> ?_
    rw [List.append_nil]
    split at e
    ·rename_i y S3 e4
     cases e
     exact Xy E2 (.cons (hu.mono X2) hv) (by rw [List.length_cons,hv.len,YC e3,hn]) e4 (fun j' H' X E3 v hw=>k _ _ ((X1.trans X2).trans X) E3 v hw)
    ·cases e
   ·exact h E1 e3 (k.step X1)
  ·cases e
 ·exact ho En0 e1 k
theorem WE {tw:TwF} {o:TwE} {ms:List TwE} {P:Xv→Sto→Prop} (h:W (o ρ S) fun x S1=>∃n fs,x= .ref n∧S1[n]? =some (.ins nm fs)∧fs.lookup m=none∧W (evL ms ρ S1) fun xs S2=>W (tw (x::xs) S2) P):W (XD nm m tw o ms ρ S) P:=
 W.bind (h.imp fun x S1 h=>by
  obtain ⟨n,fs,rfl,e1,e2,k⟩:=h
  have e3:UT S1 (.ref n) nm=some (n,fs):=by unfold UT;simp [e1]
  rw [e3,Option.bind_some]
  dsimp only
  rw [if_pos e2]
  refine W.bind (k.imp fun xs S2 k=> ?_)
  obtain ⟨y,S3,e,k⟩:=k
  rw [e]
  exact .of rfl k)
end
end L2
namespace L2
open PySem PySem.Spec PyProof.Rows
theorem XF {K:PySem.W.Frag} {C m d:Str} {g f:Addr} (h1:PySem.W.nsIn K mainGlobals C=some (some (.ref g))) (h2:PySem.W.findIn K (.ref g) m=some (some (.ref f))) (h:(Zv K ⟨some C,m,d⟩).isSome=true):∃c P,zfd K f=some (c,P)∧Zv K ⟨some C,m,d⟩=some (c,P):=by
 obtain ⟨⟨c,P⟩,e⟩:=Option.isSome_iff_exists.1 h
 refine ⟨c,P,?_,e⟩
 unfold Zv zfc at e
 dsimp only at e
 rw [h1] at e
 dsimp only at e
 rw [h2] at e
 exact e
end L2
namespace L2
open PySem PySem.Spec PyProof.Rows
noncomputable def Xi (K:PySem.W.Frag) (tns:List XI):List Addr:=tns.filterMap fun t=>(Zv K t).map (·.2)
noncomputable def za7:List Addr→Bool
 |[]=>true
 |a::r=> !r.contains a&&za7 r
noncomputable def zaj (K:PySem.W.Frag) (ts:List Addr) (tns:List XI):Bool:=tns.all (fun t=>match Zv K t with
 |some (_,P)=>ts.contains P&&(K.lookup P).isNone
 |none=>false)&&za7 (Xi K tns)
theorem zak:∀{l:List Addr},za7 l=true→l.Nodup
 |[],_=>List.nodup_nil
 |a::r,h=>by
  unfold za7 at h
  simp only [Bool.and_eq_true,Bool.not_eq_true',List.contains_eq_mem,decide_eq_false_iff_not] at h
  exact List.nodup_cons.mpr ⟨h.1,zak h.2⟩
structure zg9 (K:PySem.W.Frag) (ts:List Addr) (tns:List XI) (tbs:List Addr):Prop where
 at_:∀(i:Nat) t,tns[i]? =some t→∃c P,tbs[i]? =some P∧Zv K t=some (c,P)
 len:tbs.length=tns.length
 nd:tbs.Nodup
 sub:∀P∈tbs,P∈ts∧K.lookup P=none∧∃t c,Zv K t=some (c,P)
theorem zdG {K:PySem.W.Frag} {ts:List Addr} {tns:List XI} (h:zaj K ts tns=true):zg9 K ts tns (Xi K tns):=by
 unfold zaj at h
 rw [Bool.and_eq_true,List.all_eq_true] at h
 obtain ⟨h1,h2⟩:=h
 have key:∀(l:List XI),(∀t∈l,t∈tns)→(∀(i:Nat) t,l[i]? =some t→∃c P,(Xi K l)[i]? =some P∧Zv K t=some (c,P))∧(Xi K l).length=l.length∧∀P∈Xi K l,P∈ts∧K.lookup P=none∧∃t c,Zv K t=some (c,P):=by
  intro l
  induction l with
  |nil=>intro _;exact ⟨fun i t e=>by simp at e,rfl,fun P hP=>by cases hP⟩
  |cons t r ih=>
   intro hs
   obtain ⟨g1,g2,g3⟩:=ih fun t ht=>hs t (List.mem_cons_of_mem _ ht)
   have ht:=h1 t (hs t List.mem_cons_self)
   cases e:Zv K t with
   |none=>rw [e] at ht;cases ht
   |some p=>
    obtain ⟨c,P⟩:=p
    rw [e] at ht
    simp only [Bool.and_eq_true,List.contains_eq_mem,decide_eq_true_eq,Option.isNone_iff_eq_none] at ht
    have e2:Xi K (t::r)=P::Xi K r:=by unfold Xi;rw [List.filterMap_cons,e];rfl
    rw [e2]
    refine ⟨fun i u eu=> ?_,by simp [g2],fun Q hQ=> ?_⟩
    ·cases i with
     |zero=>simp at eu;subst eu;exact ⟨c,P,rfl,e⟩
     |succ i=>
      obtain ⟨c',P',a,b⟩:=g1 i u (by simpa using eu)
      exact ⟨c',P',by simpa using a,b⟩
    ·rcases List.mem_cons.mp hQ with rfl|hQ
     ·exact ⟨ht.1,ht.2,t,c,e⟩
     ·exact g3 Q hQ
 obtain ⟨g1,g2,g3⟩:=key tns fun _ h=>h
 exact ⟨g1,g2,zak h2,g3⟩
theorem zha {K:PySem.W.Frag} {t:XI} {c P:Addr} (h:Zv K t=some (c,P)):PySem.W.codeHdIn K c P=true:=by
 unfold Zv at h
 rw [Option.bind_eq_some_iff] at h
 obtain ⟨f,_,h⟩:=h
 exact (Yi h).1
structure zfU (tbs:List Addr) (H:Hp):Prop where
 all:∀b,H b=none∨(∃o xs,H b=some (.frz o (.lst xs)))∨(b∈tbs∧H b=some (.tbl #[]))
 tb:∀P∈tbs,H P=some (.tbl #[])
noncomputable def UU (K:PySem.W.Frag) (tbs:List Addr):Sp:=fun vs H Q _=>∃(a:Addr) (ns:List Int),vs=[V.ref a]∧zfU tbs H∧SqX K H a (ns.map V.int)∧ns.length≤63∧∀H',Q (.bl true) H'
theorem zhb {P:Program} {w:World} {K:PySem.W.Frag} {mg:Str→Option Value} {base:Heap} {CX:CXT} {k:Nat} {f:Addr} {fd:FuncData} {ps:List Str} {tw:TwF} {ts tbs:List Addr} {tns:List XI} (Fn:yj P w K mg base CX k f fd ps (sTw K 1 tw)) (hT:zg9 K ts tns tbs)
  (h:∀ns:List Int,ns.length≤63→∃S,tw [.ref 0] (.frz (ns.map Xv.int)::tns.map .tab)=some (.ok (.bl true) S)):yj P w K mg base CX k f fd ps (UU K tbs):=by
 refine Fn.imp ?_
 rintro vs H Q E ⟨a,ns,rfl,hO,hS,hl,q⟩
 obtain ⟨S',e⟩:=h ns hl
 have hlen:(a::tbs).length=(Ce.frz (ns.map Xv.int)::tns.map Ce.tab).length:=by simp [hT.len]
 refine ⟨rfl,a::tbs,.frz (ns.map Xv.int)::tns.map .tab,[.ref 0],_,?_,e,fun v j' H' σ ρ E' hv=> ?_⟩
 ·refine ⟨rfl,fun i x e=> ?_,hlen,fun n m b c d e1 e2 e3 e4 z1 z2=> ?_,fun n c b e1 e2=> ?_,Ext.refl,fun n c e=>⟨c,e,fun z=>z,fun _=>rfl⟩,hlen,fun b u e=> .inl e,fun n b hn e=> ?_,fun b e=>e⟩
  ·cases i with
   |zero=>simp at e;subst e;exact ⟨_,rfl,.ref rfl⟩
   |succ i=>simp at e
  ·cases n with
   |zero=>simp at e3;subst e3;cases z1
   |succ n=>
    cases m with
    |zero=>simp at e4;subst e4;cases z2
    |succ m=>
     simp only [List.getElem?_cons_succ] at e1 e2
     obtain ⟨h1,g1⟩:=List.getElem?_eq_some_iff.1 e1
     obtain ⟨h2,g2⟩:=List.getElem?_eq_some_iff.1 e2
     rw [(List.getElem_inj hT.nd).mp (g1.trans g2.symm)]
  ·cases n with
   |zero=>
    simp at e1 e2
    subst e1 e2
    refine ⟨ns.map V.int,?_,zM.ints ns⟩
    rcases hS with (hS|⟨o,hS⟩)|hS
    ·rcases hO.all a with z|⟨o,xs,z⟩|⟨_,z⟩
     ·rw [z] at hS;cases hS
     ·rw [z] at hS;cases hS
     ·rw [z] at hS;cases hS
    ·exact .inl ⟨o,hS⟩
    ·exact .inr fun H=> .inr hS
   |succ n=>
    simp only [List.getElem?_cons_succ,List.getElem?_map,Option.map_eq_some_iff] at e1 e2
    obtain ⟨t,e1,rfl⟩:=e1
    obtain ⟨c,P',g1,g2⟩:=hT.at_ n t e1
    rw [g1] at e2
    cases e2
    exact ⟨#[],c,hO.tb _ (List.mem_of_getElem? g1),g2,trivial,fun pos cv q=>by cases q⟩
  ·dsimp only at hn
   have:=(List.getElem?_eq_some_iff.1 e).1
   omega
 ·rw [hv.bl_inv]
  exact q H'
theorem zek {P:Program} {w:World} {K:PySem.W.Frag} {mg mb:Str→Option Value} {CX:CXT} {k:Nat} {fa a:Addr} {fd:FuncData} {x:Str} {sp:Sp} {s₁:Shared} {vs:List Value} {ns:List Int} {ts tbs:List Addr} {tns:List XI}
  (KX:K.In s₁.heap) (hT:zg9 K ts tns tbs) (hts:∀P∈ts,s₁.heap.get? P=some (PySem.W.tabObj #[])) (hns:s₁.heap.Ns mainGlobals mg) (hb:s₁.heap.Ns builtinsNs mb) (hbb:∀x:Str,x≠"__name__"→mb x=bootBuiltins x) (hlim:s₁.heap.NoLimit)
  (hbm:∃bm ob,mg "__builtins__"=some (.ref bm)∧bm≠builtinsNs∧s₁.heap.get? bm=some ob∧ob.cls= .type "module"∧ob.dict=some builtinsNs∧ob.data= .plain) (hg:s₁.gens= #[])
  (ha:s₁.heap.get? a=some {cls:= .type "list",data:= .seq vs.toArray}) (hi:IntsAre vs ns) (hl:ns.length≤sizeLine) (hr:wc k callerA)
  (F:∀base:Heap,K.In base→base.Ns mainGlobals mg→yj P w K mg base CX k fa fd [x] sp) (hbind:∀(s:Shared) (u:Value),BindsTo s fd ⟨[u],[]⟩ [(x,u)])
  (hsp:∀H:Hp,zfU tbs H→SqX K H a (ns.map V.int)→sp [.ref a] H (fun v _=>v= .bl true) fun _ _ _=>False)
  (hCX:∀H e s',CX [] H s₁ (fun _ _ _=>False) e s'→False):
  codeAny (model P w) callerA (.call (.ref fa) ⟨[.ref a],[]⟩) (fun r s'=>r= .ok (.ret (.bool true))∧OldK s₁.heap s'.heap∧s'.os=s₁.os∧AllBare s'.gens) s₁:=by
 have rv:=TV hi
 have lenV:=hi.length
 have tbo:∀P∈tbs,s₁.heap.get? P=some (PySem.W.tabObj #[]):=fun P hP=>hts P (hT.sub P hP).1
 have core:∀H:Hp,zfU tbs H→SqX K H a (ns.map V.int)→HOk P w H s₁.heap→(∀b,H b≠none→b=a∨b∈tbs)→(H a≠none→K.lookup a=none)→
   codeAny (model P w) callerA (.call (.ref fa) ⟨[.ref a],[]⟩) (fun r s'=>r= .ok (.ret (.bool true))∧OldK s₁.heap s'.heap∧s'.os=s₁.os∧AllBare s'.gens) s₁:=by
  intro H hO hS hok hA hK
  have base_of:∀{b:Addr} {o:Obj},s₁.heap.get? b=some o→H b=none→(zat s₁.heap H).get? b=some o:=fun e n=>zeB e n
  have noL:∀{b:Addr} {o:Obj},s₁.heap.get? b=some o→o.cls≠ .type "list"→(o.cls≠ .none∨∀ps,o.data≠ .fields ps)→H b=none:=fun {b o} e d d'=>by
   cases q:H b with
   |none=>rfl
   |some u=>
    rcases hA b (by rw [q];simp) with rfl|hm
    ·rw [ha] at e;cases e
     exact absurd rfl d
    ·rw [tbo b hm] at e;cases e
     rcases d' with d'|d'
     ·exact absurd rfl d'
     ·exact absurd rfl (d' _)
  have noA:∀{b:Addr} {o:Obj} {es:Array DictEntry} {ep:Nat},s₁.heap.get? b=some o→o.data= .dict es ep→H b=none:=fun {b o es ep} e d=>by
   cases q:H b with
   |none=>rfl
   |some u=>
    rcases hA b (by rw [q];simp) with rfl|hm
    ·rw [ha] at e;cases e
     have d':Data.seq vs.toArray _=Data.dict es ep:=d
     cases d'
    ·rw [tbo b hm] at e;cases e
     cases d
  have nsK:∀{b:Addr} {m:Str→Option Value},s₁.heap.Ns b m→(zat s₁.heap H).Ns b m:=fun {b m} ⟨o,es,ep,e,d,r⟩=>⟨o,es,ep,base_of e (noA e d),d,r⟩
  have hKb:K.In (zat s₁.heap H):=fun b o e=>base_of (KX b o e) (by
   cases q:H b with
   |none=>rfl
   |some u=>
    rcases hA b (by rw [q];simp) with rfl|hm
    ·rw [hK (by rw [q];simp)] at e;cases e
    ·rw [(hT.sub b hm).2.1] at e;cases e)
  have hM:Mod K mg (zat s₁.heap H):=⟨hKb,nsK hns,⟨mb,nsK hb,hbb⟩,let ⟨mc,h1,h2⟩:=hlim;⟨mc,nsK h1,h2⟩,let ⟨bm,ob,b1,b2,b3,b4,b5,b6⟩:=hbm;⟨bm,ob,b1,b2,base_of b3 (noL b3 (by rw [b4];simp) (.inl (by rw [b4];simp))),b4,b5,b6⟩⟩
  have e0:Tg P w K mg (zat s₁.heap H) callerA [] s₁ H:=⟨rfl,hM,fun b o e=>zgr e,Nat.le_of_eq (zdX _ _),trivial,fun b hb=>absurd (show b∈([]:List Addr) from hb) (by simp),hok,.of_eq hg⟩
  refine codeAny_mono ((F _ hKb (nsK hns)).run callerA [] s₁ H ⟨[.ref a],[]⟩ [.ref a] [.ref a] _ _ hr e0 (hbind s₁ (.ref a)) (.cons rfl .nil) (hsp H hO hS)) fun r s' h=> ?_
  cases r with
  |error e=>exact (hCX H e s' h).elim
  |ok fl=>
   cases fl with
   |next=>exact False.elim h
   |brk=>exact False.elim h
   |cont=>exact False.elim h
   |ret u=>
    obtain ⟨v,H',os,bare,un,hok',r',q⟩:=h
    have q':v= .bl true:=q
    subst q'
    obtain rfl:u=Value.bool true:=r'
    have old:∀b o,s₁.heap.get? b=some o→b∉tbs→s'.heap.get? b=some o:=fun b o e nb=>by
     cases q:H b with
     |none=>exact un.keep b o e q (by intro z;exact absurd (show b∈([]:List Addr) from z) (by simp)) (by simp)
     |some u=>
      rcases hO.all b with z|⟨ob,xs,z⟩|⟨z,_⟩
      ·rw [q] at z;cases z
      ·have z2:=un.frzs b ob _ z
       obtain ⟨e1,_⟩:=hok b _ z
       obtain ⟨e2,_⟩:=hok' b _ z2
       rw [e] at e1;cases e1
       exact e2
      ·exact absurd z nb
    refine ⟨rfl,⟨fun b o e=> ?_,fun b o e=>un.there b o e (by simp)⟩,os,bare⟩
    by_cases hb:b∈tbs
    ·obtain ⟨_,_,t,c,ht⟩:=hT.sub b hb
     obtain ⟨o2,vs2,_,_,_,_,_,_,_,c1,c2,c3,c4,_⟩:=PySem.W.codeHd_of_K KX (zha ht)
     obtain ⟨more,e1⟩:=un.tbls b _ (hO.tb b hb)
     have e2:=hok' b _ e1
     have e3:=tbo b hb
     rw [e] at e3
     cases e3
     exact .inr (.inl ⟨⟨c,o2,vs2,c1,c2,c3,c4⟩,rfl,#[],more,rfl,e2⟩)
    ·exact .inl (old b o e hb)
 have aT:a∉tbs:=fun hm=>by
  have e:=tbo a hm
  rw [ha] at e
  cases e
 have tH:∀(H:Hp),(∀P∈tbs,H P=some (.tbl #[]))→∀b∈tbs,∀u,H b=some u→yI P w H s₁.heap b u:=fun H h b hb u e=>by
  rw [h b hb] at e
  cases e
  exact tbo b hb
 cases hk:K.lookup a with
 |some o=>
  have e:=KX a o hk
  rw [ha] at e
  cases e
  have hin:∀b,b∈tbs→(if b∈tbs then some (HO.tbl #[]) else none)=some (HO.tbl #[]):=fun b h=>if_pos h
  refine core (fun b=>if b∈tbs then some (.tbl #[]) else none) ⟨fun b=> ?_,fun b h=>if_pos h⟩ (.inr ⟨vs.toArray,_,hk,by rw [List.size_toArray,lenV];exact hl,by simpa using rv⟩) (fun b u z=> ?_) (fun b z=> ?_) fun z=>absurd (if_neg aT) z
  ·by_cases hb:b∈tbs
   ·exact .inr (.inr ⟨hb,if_pos hb⟩)
   ·exact .inl (if_neg hb)
  ·by_cases hb:b∈tbs
   ·exact tH (fun b=>if b∈tbs then some (.tbl #[]) else none) (fun b h=>if_pos h) b hb u z
   ·have z':=(if_neg hb).symm.trans z
    cases z'
  ·by_cases hb:b∈tbs
   ·exact .inr hb
   ·exact absurd (if_neg hb) z
 |none=>
  have h1:∀b,b∈tbs→(if b=a then some (HO.frz {cls:= .type "list",data:= .seq vs.toArray} (.lst (ns.map V.int))) else if b∈tbs then some (.tbl #[]) else none)=some (HO.tbl #[]):=fun b h=>by
   have ne:b≠a:=fun z=>aT (by rw [←z];exact h)
   rw [if_neg ne,if_pos h]
  refine core (fun b=>if b=a then some (.frz {cls:= .type "list",data:= .seq vs.toArray} (.lst (ns.map V.int))) else if b∈tbs then some (.tbl #[]) else none) ⟨fun b=> ?_,h1⟩ (.inl (.inr ⟨{cls:= .type "list",data:= .seq vs.toArray},if_pos rfl⟩)) (fun b u z=> ?_) (fun b z=> ?_) fun _=>hk
  ·by_cases hb:b=a
   ·exact .inr (.inl ⟨_,_,if_pos hb⟩)
   ·by_cases hm:b∈tbs
    ·exact .inr (.inr ⟨hm,h1 b hm⟩)
    ·exact .inl ((if_neg hb).trans (if_neg hm))
  ·by_cases hb:b=a
   ·have z':=(if_pos hb).symm.trans z
    cases z'
    subst hb
    exact ⟨ha,by rw [List.length_map];exact hl,vs,_,rv,ha⟩
   ·by_cases hm:b∈tbs
    ·exact tH _ h1 b hm u z
    ·have z':=((if_neg hb).trans (if_neg hm)).symm.trans z
     cases z'
  ·by_cases hb:b=a
   ·exact .inl hb
   ·by_cases hm:b∈tbs
    ·exact .inr hm
    ·exact absurd ((if_neg hb).trans (if_neg hm)) z
theorem zfV {l:PySem.W.OpenLaw} {n k:Nat} {q:Program} {loose:List Str} {XP:(Str→Option Value)→Heap→Prop} {YP:World→Heap→Prop} {d:DefRec} {K:Params→PySem.W.Frag} {CX:World→CXT} {x:Str} {ts:List Addr} {tns:List XI}
  (hn:l.most=some n) (hn2:n≤63) (hdf:d.params.defaults=[]) (hr:wc k callerA)
  (hY:∀(w:World) (h:Heap),YP w h→(K w.params).In h∧∀P∈ts,h.get? P=some (PySem.W.tabObj #[])) (hB:∀w:World,zaj (K w.params) ts tns=true)
  (F:∀(w:World) (mg:Str→Option Value) (fa:Addr) (h:Heap),(K w.params).In h→h.Ns mainGlobals mg→mg d.name=some (.ref fa)→
   ∃fd:FuncData,(∀(s:Shared) (u:Value),BindsTo s fd ⟨[u],[]⟩ [(x,u)])∧
    ∀base:Heap,(K w.params).In base→base.Ns mainGlobals mg→yj l.prog w (K w.params) mg base (CX w) k fa fd [x] (UU (K w.params) (Xi (K w.params) tns)))
  (hCX:∀(w:World) (H:Hp) (s:Shared) (e:Value) (s':Shared),CX w [] H s (fun _ _ _=>False) e s'→False):
  PySem.W.WalkO q loose XP YP l.row.toRowW d [] (fun f vs=>PySem.call f vs):=by
 refine Att.zbA hn hdf fun w s₀ s₁ mg mb fa o pm cd doc a vs ns G Y ho hd hcd hmg hobj hints hlen hg=> ?_
 obtain ⟨KX,hts⟩:=hY w _ Y
 obtain ⟨fd,hb,hF⟩:=F w mg fa _ KX G.T.g hmg
 exact zek KX (zdG (hB w)) hts G.T.g G.T.b G.T.builtins G.T.nolimit G.T.bmain hg hobj hints (Nat.le_trans (Nat.le_trans hlen hn2) (by decide)) hr hF hb (fun H hO hS=>⟨a,ns,rfl,hO,hS,Nat.le_trans hlen hn2,fun _=>rfl⟩) fun H e s'=>hCX w H s₁ e s'
end L2
namespace L2
open PySem PySem.Spec PyProof.Rows PySem.Calls PySem.W
section
variable {X:Cx}
noncomputable def zel (ns:List Int):Int:=ns.foldl (fun a b=>if b<a then b else a) (ns.headD 0)
theorem zfW (ns:List Int):∀k,k<ns.length→ns.getD (argBest (fun i j=>decide (ns.getD i 0<ns.getD j 0)) k) 0=(ns.take (k+1)).foldl (fun a b=>if b<a then b else a) (ns.headD 0)∧argBest (fun i j=>decide (ns.getD i 0<ns.getD j 0)) k≤k:=by
 intro k
 induction k with
 |zero=>
  intro h
  cases ns with
  |nil=>simp at h
  |cons a r=>simp [argBest]
 |succ k ih=>
  intro h
  obtain ⟨h1,h2⟩:=ih (by omega)
  have hg:ns[k+1]? =some (ns.getD (k+1) 0):=by rw [List.getD_eq_getElem?_getD,List.getElem?_eq_getElem h];rfl
  obtain ⟨hi,e⟩:=List.getElem?_eq_some_iff.1 hg
  rw [List.take_succ_eq_append_getElem hi,e,List.foldl_append,←h1]
  have hb:∀f:Nat→Nat→Bool,argBest f (k+1)=if f (k+1) (argBest f k)=true then k+1 else argBest f k:=fun f=>rfl
  rw [hb,List.foldl_cons,List.foldl_nil]
  by_cases q:ns.getD (k+1) 0<ns.getD (argBest (fun i j=>decide (ns.getD i 0<ns.getD j 0)) k) 0
  ·rw [if_pos (decide_eq_true q),if_pos q]
   exact ⟨rfl,Nat.le_refl _⟩
  ·rw [if_neg (by rw [decide_eq_false q];decide),if_neg q]
   exact ⟨rfl,by omega⟩
noncomputable def zh2 (K:PySem.W.Frag):List V→Hp→VK→Prop:=fun xs H Q=>∃(p:Addr) (ns:List Int),xs=[.ref p]∧SqL K H p (ns.map V.int)∧ns≠[]∧Q (.int (zel ns)) H
theorem zem {K:PySem.W.Frag} (hc:X.calm=true) (hK:X.K=K:=by rfl):Ya X (.builtin "min") (zh2 K):=by
 subst hK
 intro pins s σ H xs us Q I r h
 obtain ⟨p,ns,rfl,hq,hne,q⟩:=h
 obtain ⟨u,rfl,ru⟩:=Uv r
 cases ru
 obtain ⟨its,rv,pl,hz⟩:=I.list hq
 have lt:p<s.heap.objs.size:=by
  obtain ⟨o,n,e,_⟩:=id pl
  exact Heap.lt_size e
 have hl:=rv.length
 rw [List.length_map] at hl
 have hpos:0<ns.length:=List.length_pos_iff.2 hne
 have at_:∀(i:Nat) (v:Value),its.toArray[i]? =some v→i<ns.length∧∃t,v=Value.int (ns.getD i 0) t:=fun i v hv=>by
  have hv:its[i]? =some v:=by simpa using hv
  have hi:i<ns.length:=by rw [hl];exact (List.getElem?_eq_some_iff.1 hv).1
  obtain ⟨u,hu,t,ru⟩:=rv.get (i:=i) (x:=V.int ns[i]) (by rw [List.getElem?_map,List.getElem?_eq_getElem hi];rfl)
  rw [hu] at hv
  cases hv
  exact ⟨hi,t,by rw [ru,List.getD_eq_getElem?_getD,List.getElem?_eq_getElem hi];rfl⟩
 refine call_min_walkS (wpAny_pyIter_list pl.isList ?_)
 have W:=(Walks.list (prog:=X.prog) (w:=X.w) (A:=X.A.in1) (I.ok.hd hc) s.heap.objs.size p (Nat.ne_of_lt lt) its.toArray).toS
 refine ⟨s.heap.objs.size,_,_,_,_,_,_,fun i j=>decide (ns.getD i 0<ns.getD j 0),rfl,W,?_,?_,?_,?_,?_⟩
 ·exact ⟨⟨_,Heap.get?_push_size _ rfl,rfl,rfl⟩,Heap.IsList.push pl.isList _⟩
 ·intro b hb
  rw [Heap.size_push]
  rcases (by simpa using hb:b=s.heap.objs.size∨b=p) with rfl|rfl
  ·exact Nat.lt_succ_self _
  ·exact Nat.lt_succ_of_lt lt
 ·rw [List.size_toArray];omega
 ·exact CmpOf.ints_lt (fun i=>ns.getD i 0) (fun i v hv=>(at_ i v hv).2)
 ·intro v s' hv m
  have I1:Inv X pins σ H {s with heap:=s'.heap,toks:=s'.toks}:=I.kept fun b o e=>m.heap b o (fun z=>by
   have z:b=s.heap.objs.size:=by simpa using z
   exact absurd (Heap.lt_size e) (by rw [z];exact Nat.lt_irrefl _)) (Heap.get?_push_of_some _ e)
  have e:({s with heap:=s'.heap,toks:=s'.toks}:Shared)=s':=by
   have h1:=m.gens
   have h2:=m.drawn
   have h3:=m.os
   cases s'
   simp only at h1 h2 h3
   subst h1 h2 h3
   rfl
  rw [e] at I1
  obtain ⟨_,t,rfl⟩:=at_ _ v hv
  refine ⟨.int (zel ns),H,I1,⟨t,?_⟩,q⟩
  have:=(zfW ns (ns.length-1) (by omega)).1
  rw [show ns.length-1+1=ns.length by omega,List.take_length] at this
  rw [List.size_toArray,←hl,this]
  rfl
end
end L2
namespace L2
open PySem PySem.Spec PyProof.Rows
noncomputable def zcd:Opn:=fun xs S=>match xs with
 |[x]=>((yf S x).bind zab).bind fun ns=>if ns=[] then none else some (.int (zel ns),S)
 |_=>none
section
variable {K:PySem.W.Frag} {S:Sto} {x:Xv} {P:Xv→Sto→Prop}
theorem zhc:To K (zh2 K) zcd:=by
 intro F j σ H ρ S S' xs z vs Q E1 hv h k
 unfold zcd at h
 split at h
 ·rename_i x
  rw [Option.bind_eq_some_iff] at h
  obtain ⟨ns,e,h⟩:=h
  rw [Option.bind_eq_some_iff] at e
  obtain ⟨l,e,e2⟩:=e
  split at h
  ·cases h
  ·rename_i hne
   cases h
   obtain ⟨w,rfl,hx⟩:=hv.d1
   obtain ⟨p,ws,rfl,h1,h2⟩:=E1.lstAt hx e
   refine ⟨p,ns,rfl,?_,hne,k _ _ _ Ext.refl E1 (.int _)⟩
   rw [←zbS e2 h2]
   exact h1.sql
 ·cases h
theorem zhd {l:List Xv} {ns:List Int} (h1:yf S x=some l) (h2:zab l=some ns) (h3:ns≠[]) (k:P (.int (zel ns)) S):WO (zcd [x] S) P:= .of (by
 unfold zcd
 dsimp only
 rw [h1,Option.bind_some,h2,Option.bind_some,if_neg h3]) k
end
end L2
namespace Mth
open PySem.Builtin.Int (intBits)
end Mth
namespace Prf
open PySem PySem.Spec PyProof.Rows L2
open PySem.Builtin.Int (intBits)
set_option maxHeartbeats 4000000
local macro_rules | `(tactic| walk_at "sc") => `(tactic| exact ⟨rfl, rfl, rfl, by decide +kernel, rfl, by decide +kernel, by decide +kernel⟩)
structure Fi (K:PySem.W.Frag) (mg:Str→Option Value) (nm:Str) (st:Stmt) (ps:List Str) where
 a:Addr
 fd:FuncData
 F:Fun K nm nm st a fd
 m:mg nm=some (.ref a)
 b:XQ K fd ps []
structure Mi (K:PySem.W.Frag) (g:Addr) (nm qn:Str) (st:Stmt) (ps:List Str) where
 a:Addr
 fd:FuncData
 F:Fun K nm qn st a fd
 b:XQ K fd ps []
 mt:zin K g nm a
noncomputable def LoN (K:PySem.W.Frag) (x qual:Str) (st:Stmt) (f:Addr):Prop:=∃fd,Fun K x qual st f fd
noncomputable def FL (K:PySem.W.Frag) (nm:Str) (st:Stmt):Prop:=∃f,PySem.W.nsIn K mainGlobals nm=some (some (.ref f))∧LoN K nm nm st f
noncomputable def ML (K:PySem.W.Frag) (g:Addr) (nm qn:Str) (st:Stmt):Prop:=∃f,PySem.W.findIn K (.ref g) nm=some (some (.ref f))∧PySem.W.isFn K (.ref f)=true∧LoN K nm qn st f
theorem zjQ {K:PySem.W.Frag} {x:Str} {st:Stmt} {f:Addr} {oc:Value} {od an:Option Addr} {osl:Array (Option Value)} {kV doc pm cdv ct:Value} (a:PySem.W.nsIn K mainGlobals x=some (some (.ref f)))
  (l:K.lookup f=some ⟨oc,od,.func (PySem.W.fnOf x x (Yw st) (vo st) (zh st) .none kV doc pm an cdv ct),osl⟩) (c:PySem.W.codeIn K cdv x=true) (k:PySem.W.keepIn K (.ref f)=true):FL K x st:=⟨f,a,_,ze0 l c k⟩
theorem zjR {K:PySem.W.Frag} {g:Addr} {x qn:Str} {st:Stmt} {f:Addr} {oc:Value} {od an:Option Addr} {osl:Array (Option Value)} {kV doc pm cdv ct:Value} (a:PySem.W.findIn K (.ref g) x=some (some (.ref f))) (i:PySem.W.isFn K (.ref f)=true)
  (l:K.lookup f=some ⟨oc,od,.func (PySem.W.fnOf x qn (Yw st) (vo st) (zh st) .none kV doc pm an cdv ct),osl⟩) (c:PySem.W.codeIn K cdv qn=true) (k:PySem.W.keepIn K (.ref f)=true):ML K g x qn st:=⟨f,a,i,_,ze0 l c k⟩
noncomputable def BA (x qual:Str) (st:Stmt) (ps:List Str):Prop:=∀(kV doc pm:Value) (an:Option Addr) (cdv ct:Value) (us:List Value),us.length=ps.length→bindArgs (PySem.W.fnOf x qual (Yw st) (vo st) (zh st) .none kV doc pm an cdv ct) ⟨us,[]⟩=pure (ps.zip us)
noncomputable def FL.to {K:PySem.W.Frag} {h:Heap} {mg:Str→Option Value} {x:Str} {st:Stmt} {ps:List Str} (H:FL K x st) (X:K.In h) (G:h.Ns mainGlobals mg) (B:BA x x st ps):Fi K mg x st ps:=
 ⟨H.choose,H.choose_spec.2.choose,H.choose_spec.2.choose_spec,PySem.W.mg_of X G H.choose_spec.1,H.choose_spec.2.choose_spec.binds B⟩
noncomputable def ML.to {K:PySem.W.Frag} {g:Addr} {x qn:Str} {st:Stmt} {ps:List Str} (H:ML K g x qn st) (B:BA x qn st ps):Mi K g x qn st ps:=
 ⟨H.choose,H.choose_spec.2.2.choose,H.choose_spec.2.2.choose_spec,H.choose_spec.2.2.choose_spec.binds B,⟨H.choose_spec.1,H.choose_spec.2.1,H.choose_spec.2.2.choose_spec.kp⟩⟩
theorem at0 {P:List Value→Prop} (h:P []):∀us:List Value,us.length=0→P us
 |[],_=>h
theorem at_ {P:List Value→Prop} {n:Nat} (h:∀(a:Value) (us:List Value),us.length=n→P (a::us)):∀us:List Value,us.length=n+1→P us
 |a::us,e=>h a us (Nat.succ.inj e)
theorem ziV {K:PySem.W.Frag} {mg:Str→Option Value} {st:Stmt} {x:Str} {fa:Addr} (f:Fi K mg "law" st [x]) (hK:∀s:Shared,K.In s.heap→True) (h:mg "law"=some (.ref fa)):fa=f.a:=by
 have e:=h.symm.trans f.m
 injection e with e
 injection e
section
variable {P:Program} {w:World} {K:PySem.W.Frag} {mg:Str→Option Value} {base:Heap} {fu:Nat}
noncomputable def top (i:Nat):Stmt:=PySem.Challenge.pw_lots_k41_sums_by_states.main.body.getD i (.Pass ⟨0,0,0,0⟩)
noncomputable abbrev zdH:Stmt:=top 0
noncomputable abbrev ZM:Stmt:=top 2
noncomputable abbrev UV:Stmt:=top 3
noncomputable abbrev zc1:Stmt:=top 4
noncomputable abbrev za8:Stmt:=top 5
noncomputable abbrev za9:Stmt:=top 6
noncomputable abbrev Vn:Stmt:=top 7
noncomputable abbrev vd:Stmt:=zY (top 9) 0
noncomputable abbrev wI:Stmt:=zY (top 9) 1
noncomputable abbrev YH:Stmt:=zY (top 9) 2
noncomputable abbrev vY:Stmt:=zY (top 9) 3
noncomputable abbrev WG:Stmt:=zY (top 9) 4
noncomputable abbrev ve:Stmt:=zY (top 9) 5
noncomputable abbrev vK:Stmt:=zY (top 9) 6
noncomputable abbrev Zp:Stmt:=zY (top 9) 7
noncomputable abbrev vf:Stmt:=zY (top 9) 8
noncomputable abbrev wg:Stmt:=zY (top 9) 9
noncomputable abbrev yL:Stmt:=zY (top 9) 10
noncomputable abbrev xE:Stmt:=zY (top 9) 11
noncomputable abbrev yF:Stmt:=zY (top 9) 12
noncomputable abbrev ZD:Stmt:=zY (top 9) 13
noncomputable abbrev Zq:Stmt:=zY (top 9) 14
noncomputable abbrev yC:Stmt:=zY (top 9) 15
noncomputable abbrev yR:Stmt:=zY (top 9) 16
noncomputable abbrev vB:Stmt:=zY (top 9) 17
noncomputable abbrev XX:Stmt:=zY (top 9) 18
noncomputable abbrev vR:Stmt:=zY (top 9) 19
noncomputable abbrev Xj:Stmt:=zY (top 9) 20
noncomputable abbrev WH:Stmt:=zY (top 9) 21
noncomputable abbrev vS:Stmt:=zY (top 9) 22
noncomputable abbrev XY:Stmt:=zY (top 9) 23
noncomputable abbrev vT:Stmt:=zY (top 9) 24
noncomputable abbrev Xk:Stmt:=top 11
noncomputable abbrev Xl:Stmt:=top 12
noncomputable abbrev xQ:Stmt:=top 13
noncomputable abbrev YI:Stmt:=top 14
noncomputable abbrev Wo:Stmt:=top 15
noncomputable abbrev YJ:Stmt:=top 16
noncomputable abbrev vC:Stmt:=top 17
noncomputable abbrev YK:Stmt:=top 18
noncomputable abbrev vp:Stmt:=top 19
noncomputable abbrev vZ:Stmt:=top 20
noncomputable abbrev ZE:Stmt:=top 21
noncomputable abbrev Za:Stmt:=top 22
noncomputable abbrev ZN:Stmt:=top 23
noncomputable abbrev xY:Stmt:=top 24
noncomputable abbrev zce:Stmt:=top 25
theorem xb:zv ["one","other","rest"] ["one","other"] (zh ZM):=by walk_at "sc"
theorem Vo:zv ["top","bottom","part"] ["top","bottom"] (zh UV):=by walk_at "sc"
theorem zhe:zv ["one","other"] ["one","other"] (zh zc1):=by walk_at "sc"
theorem zfX:zv ["one","other"] ["one","other"] (zh za8):=by walk_at "sc"
theorem zfY:zv ["one","other"] ["one","other"] (zh za9):=by walk_at "sc"
theorem zc2:zv ["one","other"] ["one","other"] (zh Vn):=by walk_at "sc"
theorem WI:zv ["self","boxes"] ["self","boxes"] (zh vd):=by walk_at "sc"
theorem Wp:zv ["self","fact"] ["self","fact"] (zh wI):=by walk_at "sc"
theorem Tt:zv ["self","one"] ["self","one"] (zh YH):=by walk_at "sc"
theorem XZ:zv ["self","level","kids","first"] ["self","level","kids"] (zh vY):=by walk_at "sc"
theorem ZF:zv ["self","node","fact"] ["self","node"] (zh ve):=by walk_at "sc"
theorem Yj:zv ["self","node","fact"] ["self","node"] (zh vK):=by walk_at "sc"
theorem VL:zv ["self","node","level","number"] ["self","node","level","number"] (zh Zp):=by walk_at "sc"
theorem ZG:zv ["self","node","state"] ["self","node","state"] (zh vf):=by walk_at "sc"
theorem UW:zv ["self","one","other"] ["self","one","other"] (zh wg):=by walk_at "sc"
theorem XM:zv ["self","one","other"] ["self","one","other"] (zh yL):=by walk_at "sc"
theorem VM:zv ["self","one","other"] ["self","one","other"] (zh xE):=by walk_at "sc"
theorem Xm:zv ["self","nodes","rule"] ["self","nodes","rule"] (zh yF):=by walk_at "sc"
theorem YT:zv ["self","nodes","settle","known","settled"] ["self","nodes","settle","known"] (zh Zq):=by walk_at "sc"
theorem yq:zv ["self","nodes","settle","known","level","kids","number","these"] ["self","nodes","settle","known"] (zh yC):=by walk_at "sc"
theorem Yk:zv ["self","nodes","rule","facts"] ["self","nodes","rule"] (zh yR):=by walk_at "sc"
theorem zba:zv ["_law_left","_law_many"] ["_law_left","_law_many"] (zh Xk):=by walk_at "sc"
theorem wK:zv ["_law_number","_law_size","_law_word_here","_law_k"] ["_law_number","_law_size"] (zh Xl):=by walk_at "sc"
theorem yH:zv ["_law_left","_law_many","_law_way","_law_some","_law_turn","_law_word_here","_law_cell","_law_size","_law_at"] ["_law_left","_law_many"] (zh xQ):=by walk_at "sc"
theorem zX:zv ["_law_left","_law_most","_law_many","_law_boxes_here","_law_states_here","_law_name","_law_size"] ["_law_left","_law_most"] (zh YI):=by walk_at "sc"
theorem wx:zv ["_law_top","_law_bottom","_law_one","_law_other","_law_kept"] ["_law_top","_law_bottom"] (zh Wo):=by walk_at "sc"
theorem ZO:zv ["_law_left","_law_way","_law_top"] ["_law_left"] (zh YJ):=by walk_at "sc"
theorem zbb:zv ["_law_found","_law_due"] ["_law_found","_law_due"] (zh vC):=by walk_at "sc"
theorem Tu:zv ["_law_found"] ["_law_found"] (zh YK):=by walk_at "sc"
theorem xc:zv ["_law_boxes_here","_law_states_here","_law_box","_law_longer","_law_state"] ["_law_boxes_here"] (zh vp):=by walk_at "sc"
theorem zS:zv ["_law_left","_law_boxes_here","_law_some","_law_hold","_law_one","_law_two","_law_three","_law_table_here","_law_state","_law_spot","_law_k","_law_mixed"] ["_law_left","_law_boxes_here"] (zh vZ):=by walk_at "sc"
theorem Zb:zv ["_law_store","_law_boxes_here","_law_level","_law_table_here","_law_size","_law_part","_law_kids"] ["_law_store","_law_boxes_here","_law_level","_law_table_here"] (zh ZE):=by walk_at "sc"
theorem Wa:zv ["_law_store","_law_boxes_here","_law_node_here","_law_table_here","_law_states_here"] ["_law_store","_law_boxes_here","_law_node_here","_law_table_here"] (zh Za):=by walk_at "sc"
theorem xF:zv ["_law_word_here","_law_one","_law_other","_law_found","_law_j","_law_left","_law_right"] ["_law_word_here","_law_one","_law_other"] (zh ZN):=by walk_at "sc"
theorem Xn:zv ["_law_store","_law_word_here","_law_one","_law_other"] ["_law_store","_law_word_here","_law_one","_law_other"] (zh xY):=by walk_at "sc"
theorem vL:zv ["_law_script","_law_left","_law_most","_law_turn","_law_boxes_here","_law_tables","_law_store","_law_nodes","_law_k","_law_word_here","_law_node_here"] ["_law_script"] (zh zce):=by walk_at "sc"
noncomputable abbrev zc3:PySem.Expr:=zg7 (zg6 (zg8 wg 0)) 1
noncomputable def WJ:yY:=⟨1,za6 zc3,Ui zc3,zdE zc3,⟨some "Store","added","Store.added"⟩,[]⟩
noncomputable abbrev zc4:PySem.Expr:=zg7 (zg6 (zg8 yL 0)) 1
noncomputable def WK:yY:=⟨2,za6 zc4,Ui zc4,zdE zc4,⟨some "Store","multiplied","Store.multiplied"⟩,[]⟩
noncomputable abbrev zc5:PySem.Expr:=zg7 (zg6 (zg8 xE 0)) 1
noncomputable def WL:yY:=⟨3,za6 zc5,Ui zc5,zdE zc5,⟨some "Store","higher","Store.higher"⟩,[]⟩
noncomputable abbrev zc6:PySem.Expr:=zg7 (zg6 (zg8 yF 0)) 1
noncomputable def VB:yY:=⟨4,za6 zc6,Ui zc6,zdE zc6,⟨some "Store","reckoned_of","Store.reckoned_of"⟩,["self","rule"]⟩
noncomputable abbrev Xo:List XI:=[⟨some "Store","added","Store.added"⟩,⟨some "Store","multiplied","Store.multiplied"⟩,⟨some "Store","higher","Store.higher"⟩,⟨some "Store","reckoned_of","Store.reckoned_of"⟩]
set_option genInjectivity false in
set_option genSizeOf false in
structure Tx (K:PySem.W.Frag) (mg:Str→Option Value) where
 f__wall:Fi K mg "_wall" zdH ["k"]
 f_common_part:Fi K mg "common_part" ZM ["one","other"]
 f_lowest:Fi K mg "lowest" UV ["top","bottom"]
 f_plus:Fi K mg "plus" zc1 ["one","other"]
 f_times:Fi K mg "times" za8 ["one","other"]
 f_under:Fi K mg "under" za9 ["one","other"]
 f_greater:Fi K mg "greater" Vn ["one","other"]
 f__law_take:Fi K mg "_law_take" Xk ["_law_left","_law_many"]
 f__law_word:Fi K mg "_law_word" Xl ["_law_number","_law_size"]
 f__law_names:Fi K mg "_law_names" xQ ["_law_left","_law_many"]
 f__law_boxes:Fi K mg "_law_boxes" YI ["_law_left","_law_most"]
 f__law_low:Fi K mg "_law_low" Wo ["_law_top","_law_bottom"]
 f__law_ratio:Fi K mg "_law_ratio" YJ ["_law_left"]
 f__law_same:Fi K mg "_law_same" vC ["_law_found","_law_due"]
 f__law_whole:Fi K mg "_law_whole" YK ["_law_found"]
 f__law_states:Fi K mg "_law_states" vp ["_law_boxes_here"]
 f__law_table:Fi K mg "_law_table" vZ ["_law_left","_law_boxes_here"]
 f__law_node:Fi K mg "_law_node" ZE ["_law_store","_law_boxes_here","_law_level","_law_table_here"]
 f__law_tells:Fi K mg "_law_tells" Za ["_law_store","_law_boxes_here","_law_node_here","_law_table_here"]
 f__law_joined:Fi K mg "_law_joined" ZN ["_law_word_here","_law_one","_law_other"]
 f__law_put_together:Fi K mg "_law_put_together" xY ["_law_store","_law_word_here","_law_one","_law_other"]
 f_law:Fi K mg "law" zce ["_law_script"]
 n_abs:mg "abs"=none
 n_all:mg "all"=none
 n_any:mg "any"=none
 n_bool:mg "bool"=none
 n_int:mg "int"=none
 n_isinstance:mg "isinstance"=none
 n_len:mg "len"=none
 n_list:mg "list"=none
 n_min:mg "min"=none
 n_range:mg "range"=none
 n_reversed:mg "reversed"=none
 n_str:mg "str"=none
 n_tuple:mg "tuple"=none
 a_Store:Addr
 m_Store:mg "Store"=some (.ref a_Store)
 cl_Store:Cls K a_Store
 ns_Store:PySem.W.nsIn K mainGlobals "Store"=some (some (.ref a_Store))
 n_Store_boxes:Zg K a_Store "boxes"
 n_Store_facts:Zg K a_Store "facts"
 n_Store_numbers:Zg K a_Store "numbers"
 f_Store___init__:Mi K a_Store "__init__" "Store.__init__" vd ["self","boxes"]
 mk_Store:Mk K a_Store f_Store___init__.a
 f_Store_number_of:Mi K a_Store "number_of" "Store.number_of" wI ["self","fact"]
 f_Store_leaf:Mi K a_Store "leaf" "Store.leaf" YH ["self","one"]
 f_Store_fork:Mi K a_Store "fork" "Store.fork" vY ["self","level","kids"]
 f_Store_told:Mi K a_Store "told" "Store.told" WG ["self","node"]
 f_Store_level_of:Mi K a_Store "level_of" "Store.level_of" ve ["self","node"]
 f_Store_kids_of:Mi K a_Store "kids_of" "Store.kids_of" vK ["self","node"]
 f_Store_kid_at:Mi K a_Store "kid_at" "Store.kid_at" Zp ["self","node","level","number"]
 f_Store_value_at:Mi K a_Store "value_at" "Store.value_at" vf ["self","node","state"]
 f_Store_added:Mi K a_Store "added" "Store.added" wg ["self","one","other"]
 z_Store_added:(Zv K ⟨some "Store","added","Store.added"⟩).isSome=true
 f_Store_multiplied:Mi K a_Store "multiplied" "Store.multiplied" yL ["self","one","other"]
 z_Store_multiplied:(Zv K ⟨some "Store","multiplied","Store.multiplied"⟩).isSome=true
 f_Store_higher:Mi K a_Store "higher" "Store.higher" xE ["self","one","other"]
 z_Store_higher:(Zv K ⟨some "Store","higher","Store.higher"⟩).isSome=true
 f_Store_reckoned_of:Mi K a_Store "reckoned_of" "Store.reckoned_of" yF ["self","nodes","rule"]
 z_Store_reckoned_of:(Zv K ⟨some "Store","reckoned_of","Store.reckoned_of"⟩).isSome=true
 f_Store_chosen_by:Mi K a_Store "chosen_by" "Store.chosen_by" ZD ["self","chooser","nodes"]
 f_Store_joined:Mi K a_Store "joined" "Store.joined" Zq ["self","nodes","settle","known"]
 f_Store_joined_below:Mi K a_Store "joined_below" "Store.joined_below" yC ["self","nodes","settle","known"]
 f_Store_leaf_by:Mi K a_Store "leaf_by" "Store.leaf_by" yR ["self","nodes","rule"]
 f_Store_choice_among:Mi K a_Store "choice_among" "Store.choice_among" vB ["self","nodes"]
 f_Store_fixed:Mi K a_Store "fixed" "Store.fixed" XX ["self","node","level","number"]
 f_Store_fixed_below:Mi K a_Store "fixed_below" "Store.fixed_below" vR ["self","node","level","number","known"]
 f_Store_marked:Mi K a_Store "marked" "Store.marked" Xj ["self","test"]
 f_Store_made:Mi K a_Store "made" "Store.made" WH ["self","names","rule"]
 f_Store_made_behind:Mi K a_Store "made_behind" "Store.made_behind" vS ["self","names","rule","numbers"]
 f_Store_point:Mi K a_Store "point" "Store.point" XY ["self","state"]
 f_Store_nodes_below:Mi K a_Store "nodes_below" "Store.nodes_below" vT ["self","node"]
local macro_rules | `(tactic| walk_at "q1") => `(tactic| first | exact .inl rfl | exact .inr rfl | assumption)
local macro_rules | `(tactic| walk_at "q2") => `(tactic| ((try simp only [Nat.add_eq]); omega))
local macro_rules | `(tactic| walk_at "q3") => `(tactic| first | with_reducible exact zaK | with_reducible exact zfb | with_reducible exact zgS | with_reducible exact zbJ | with_reducible exact zgR | with_reducible exact zaJ | with_reducible exact zfa)
local macro_rules | `($f \ ($o,$h,$p,$x)) => `(zgC $o $h rfl ($f).m ($f).F.kp ($f).b .nil $p $x) | `($a \ $b) => `(@zE _ _ _ _ _ $a $b (by walk_at "q3"))
local macro_rules | `($a <|> $b) => `(@zeH _ _ _ _ _ $a $b)
local macro_rules | `(¬$a) => `(@zgs _ _ _ $a)
local macro_rules | `(!$a) => `(@zid _ _ _ _ $a)
local macro_rules | `(~~~$a) => `(@zio _ _ _ _ _ $a)
local macro_rules | `($r % ($a,$b)) => `(@zjn _ _ _ _ _ _ _ $r $a $b fun _ _ => rfl)
local macro_rules | `(tactic| walk_at "re") => `(tactic| repeat first | with_reducible apply zb | with_reducible apply zD | with_reducible apply ze | with_reducible apply zK | with_reducible apply zj | with_reducible apply zL | with_reducible apply zH | with_reducible apply yP | with_reducible apply yo | with_reducible apply xC | with_reducible apply ym | with_reducible apply Vh | with_reducible apply VY | with_reducible apply YR | with_reducible apply UM | with_reducible apply Yd | with_reducible apply vH | with_reducible apply wk | with_reducible apply Wk | with_reducible apply Wl | with_reducible apply Ze | with_reducible apply ziF | with_reducible apply Wi | with_reducible apply zcP | with_reducible apply wF | with_reducible apply wE | with_reducible apply zaM | with_reducible apply zbO | with_reducible apply zjE | with_reducible apply UN | with_reducible apply zaQ | with_reducible apply Vi | with_reducible apply zfq | with_reducible apply Xx | with_reducible apply zft | with_reducible apply zds | with_reducible apply zZ | with_reducible apply zfs | with_reducible apply VW | with_reducible apply zfh | with_reducible apply ziz | with_reducible apply Xg | with_reducible apply zfx | with_reducible apply zdt | with_reducible apply ziB | with_reducible apply zjF | with_reducible apply Wu | with_reducible apply zbP | with_reducible apply ziy | with_reducible apply zhW | with_reducible apply zdu | with_reducible apply zac | with_reducible apply zjA | with_reducible apply zaL | with_reducible apply zbK | with_reducible apply UP | with_reducible apply zbU | with_reducible apply zff | with_reducible apply zdw | with_reducible apply zdv | with_reducible apply ziA | with_reducible apply zbT | with_reducible apply Xw | with_reducible apply zjz | with_reducible apply zfu | with_reducible apply zbL | with_reducible apply zfl | with_reducible apply zfn | with_reducible apply zfg | with_reducible apply zfy | with_reducible apply zfr | with_reducible apply zaN | with_reducible apply TZ | with_reducible apply Wj | exact rfl | exact Nat.le_of_ble_eq_true rfl | exact xC | exact VY | exact UM | exact Wk | exact Wl | exact UN | exact zfq | exact Xx | exact zds | exact zZ | exact zfs | exact zfh | exact Xg | exact zfx | exact zdt | exact zdu | exact zac | exact UP | exact zbU | exact zdw | exact zdv | exact zbT | exact zfu | exact zfn | exact zfg | exact zfy | exact zfr | exact TZ | apply zbO | apply zfl)
local macro_rules | `($s ^^^ ($i,$o,$e)) => `(@zie _ _ $i _ _ _ _ ($s).nd rfl $o $e (by rfl) (by walk_at "q1"))
noncomputable def wL (fu:Nat):TwS:=(zu (zJ (eFn zej [(za 0)]) (gN 0)) (zu (zJ (eFn zej [(za 1)]) (gN 1)) (zu (sWh fu (bE (eOp zbQ (za 1) (eC (.int 0)))) (zu (zJ (eOp Zl (za 0) (za 1)) (gN 2)) (zu (zJ (za 1) (gN 0)) (zJ (za 2) (gN 1))))) (yk (za 0)))))
noncomputable def Xp (fu:Nat):TwF:=zT 2 1 (wL fu)
theorem UX (T:Tx K mg):yj P w K mg base (CXE P w) 1 T.f_common_part.a T.f_common_part.fd ["one","other"] (sTw K 2 (Xp fu)):=
 T.f_common_part.F.okE xb (fun vs H Q E h=>h.1) (fun cdv A outer s H vs Q E hr h=>⟨_,((xb^^^(0,Or.inl rfl,zr Uw rfl T.n_abs boot_abs (pv 0\zf)))<|>(xb^^^(1,Or.inl rfl,zr Uw rfl T.n_abs boot_abs (pv 1\zf)))<|>Us PassesOwn.leaving (yJ (Uq (pv 1) zg)) ((xb^^^(2,Or.inl rfl,zk xV (pv 0) (pv 1)))<|>(xb^^^(0,Or.inl rfl,pv 1))<|>¬(xb^^^(1,Or.inl rfl,pv 2)))<|>¬(!pv 0)),yu (n:=2) (k:=1) (b:=wL fu) rfl (by unfold wL;walk_at "re") h⟩)
noncomputable def XG (fu:Nat):TwS:=(zu (zJ (zI (Xp fu) [(za 0),(za 1)]) (gN 2)) (zu (sIf (bE (eOp dLt (za 1) (eC (.int 0)))) (zJ (eUn ziC (za 2)) (gN 2)) yZ) (yk (XJ [(eOp YD (za 0) (za 2)),(eOp YD (za 1) (za 2))]))))
noncomputable def XH (fu:Nat):TwF:=zT 2 1 (XG fu)
theorem zal (T:Tx K mg):yj P w K mg base (CXE P w) 2 T.f_lowest.a T.f_lowest.fd ["top","bottom"] (sTw K 2 (XH fu)):=
 T.f_lowest.F.okE Vo (fun vs H Q E h=>h.1) (fun cdv A outer s H vs Q E hr h=>⟨_,((Vo^^^(2,Or.inl rfl,T.f_common_part\(UX (fu:=fu) T,hr.mono (by decide),zF,pv 0\(pv 1\zf))))<|>yT (yJ (zbr (pv 1) zg)) (¬(Vo^^^(2,Or.inl rfl,zjf zil (pv 2)))) zU<|>¬(!(~~~(zk Yb (pv 0) (pv 2)\(zk Yb (pv 1) (pv 2)\zf))))),yu (n:=2) (k:=1) (b:=XG fu) rfl (by unfold XG;walk_at "re") h⟩)
noncomputable def Ul (fu:Nat):TwS:=(yk (zI (XH fu) [(eOp vA (eOp xz (eOp yp (za 0) (eC (.int 0))) (eOp yp (za 1) (eC (.int 1)))) (eOp xz (eOp yp (za 1) (eC (.int 0))) (eOp yp (za 0) (eC (.int 1))))),(eOp xz (eOp yp (za 0) (eC (.int 1))) (eOp yp (za 1) (eC (.int 1))))]))
noncomputable def zbc (fu:Nat):TwF:=zT 2 0 (Ul fu)
theorem zhf (T:Tx K mg):yj P w K mg base (CXE P w) 3 T.f_plus.a T.f_plus.fd ["one","other"] (sTw K 2 (zbc fu)):=
 T.f_plus.F.okE zhe (fun vs H Q E h=>h.1) (fun cdv A outer s H vs Q E hr h=>⟨_,(¬(!(T.f_lowest\(zal (fu:=fu) T,hr.mono (by decide),zF,zk yX (zk yx (zo (K:=K)%(pv 0,zg)) (zo (K:=K)%(pv 1,zg))) (zk yx (zo (K:=K)%(pv 1,zg)) (zo (K:=K)%(pv 0,zg)))\(zk yx (zo (K:=K)%(pv 0,zg)) (zo (K:=K)%(pv 1,zg))\zf))))),yu (n:=2) (k:=0) (b:=Ul fu) rfl (by unfold Ul;walk_at "re") h⟩)
noncomputable def WM (fu:Nat):TwS:=(yk (zI (XH fu) [(eOp xz (eOp yp (za 0) (eC (.int 0))) (eOp yp (za 1) (eC (.int 0)))),(eOp xz (eOp yp (za 0) (eC (.int 1))) (eOp yp (za 1) (eC (.int 1))))]))
noncomputable def UY (fu:Nat):TwF:=zT 2 0 (WM fu)
theorem zfZ (T:Tx K mg):yj P w K mg base (CXE P w) 3 T.f_times.a T.f_times.fd ["one","other"] (sTw K 2 (UY fu)):=
 T.f_times.F.okE zfX (fun vs H Q E h=>h.1) (fun cdv A outer s H vs Q E hr h=>⟨_,(¬(!(T.f_lowest\(zal (fu:=fu) T,hr.mono (by decide),zF,zk yx (zo (K:=K)%(pv 0,zg)) (zo (K:=K)%(pv 1,zg))\(zk yx (zo (K:=K)%(pv 0,zg)) (zo (K:=K)%(pv 1,zg))\zf))))),yu (n:=2) (k:=0) (b:=WM fu) rfl (by unfold WM;walk_at "re") h⟩)
noncomputable def WN (fu:Nat):TwS:=(yk (eOp dLt (eOp xz (eOp yp (za 0) (eC (.int 0))) (eOp yp (za 1) (eC (.int 1)))) (eOp xz (eOp yp (za 1) (eC (.int 0))) (eOp yp (za 0) (eC (.int 1))))))
noncomputable def zcf (fu:Nat):TwF:=zT 2 0 (WN fu)
theorem zf0 (T:Tx K mg):yj P w K mg base (CXE P w) 1 T.f_under.a T.f_under.fd ["one","other"] (sTw K 2 (zcf fu)):=
 T.f_under.F.okE zfY (fun vs H Q E h=>h.1) (fun cdv A outer s H vs Q E hr h=>⟨_,(¬(!zcw (zbr (zk yx (zo (K:=K)%(pv 0,zg)) (zo (K:=K)%(pv 1,zg))) (zk yx (zo (K:=K)%(pv 1,zg)) (zo (K:=K)%(pv 0,zg)))))),yu (n:=2) (k:=0) (b:=WN fu) rfl (by unfold WN;walk_at "re") h⟩)
noncomputable def YL (fu:Nat):TwS:=(yk (eIf (bE (zI (zcf fu) [(za 0),(za 1)])) (za 1) (za 0)))
noncomputable def Wq (fu:Nat):TwF:=zT 2 0 (YL fu)
theorem zc7 (T:Tx K mg):yj P w K mg base (CXE P w) 2 T.f_greater.a T.f_greater.fd ["one","other"] (sTw K 2 (Wq fu)):=
 T.f_greater.F.okE zc2 (fun vs H Q E h=>h.1) (fun cdv A outer s H vs Q E hr h=>⟨_,(¬(!Xb (Zf (T.f_under\(zf0 (fu:=fu) T,hr.mono (by decide),zF,pv 0\(pv 1\zf)))) (pv 1) (pv 0))),yu (n:=2) (k:=0) (b:=YL fu) rfl (by unfold YL;walk_at "re") h⟩)
noncomputable def wM (fu:Nat):TwS:=(zu (zb3 "Store" "boxes" (za 0) (za 1)) (zu (zb3 "Store" "facts" (za 0) (VI [])) (zb3 "Store" "numbers" (za 0) zaR)))
noncomputable def wN (fu:Nat):TwF:=zT 2 0 (wM fu)
theorem WP (T:Tx K mg):yj P w K mg base (CXE P w) 1 T.f_Store___init__.a T.f_Store___init__.fd ["self","boxes"] (sTw K 2 (wN fu)):=
 T.f_Store___init__.F.okE WI (fun vs H Q E h=>h.1) (fun cdv A outer s H vs Q E hr h=>⟨_,(zcE (pv 0) (pv 1) rfl<|>zcE (pv 0) (@ZK _ _ _ _ zf) rfl<|>¬zcE (pv 0) zbz rfl),yu (n:=2) (k:=0) (b:=wM fu) rfl (zL (za0 T.ns_Store T.cl_Store T.n_Store_boxes (zb 0) (zb 1)) (zL (za0 T.ns_Store T.cl_Store T.n_Store_facts (zb 0) (Vi zj)) (za0 T.ns_Store T.cl_Store T.n_Store_numbers (zb 0) zdy))) h⟩)
noncomputable def wv (fu:Nat):TwS:=(zu (sIf (bE (zdA true (za 1) (Zo "Store" "numbers" (za 0)))) (zu (Ue (Zo "Store" "numbers" (za 0)) (za 1) (eFn vV [(Zo "Store" "facts" (za 0))])) (XU (eMt wj (Zo "Store" "facts" (za 0)) [(za 1)]))) yZ) (yk (zaY (Zo "Store" "numbers" (za 0)) (za 1))))
noncomputable def xj (fu:Nat):TwF:=zT 2 0 (wv fu)
theorem Zr (T:Tx K mg):yj P w K mg base (CXE P w) 1 T.f_Store_number_of.a T.f_Store_number_of.fd ["self","fact"] (sTw K 2 (xj fu)):=
 T.f_Store_number_of.F.okE Wp (fun vs H Q E h=>h.1) (fun cdv A outer s H vs Q E hr h=>⟨_,(yT (yJ (UR (K:=K) hr (pv 1) (vG (pv 0) rfl))) (zbZ (K:=K) hr (vG (pv 0) rfl) (pv 1) (zr (yi (K:=K)) rfl T.n_len boot_len (vG (pv 0) rfl\zf)) rfl<|>¬Zw (Vv PySem.F.plainAttrs_list PySem.F.slot_list_append PySem.F.type_list_append ww (vG (pv 0) rfl) (pv 1\zf))) zU<|>¬(!zbY (K:=K) hr (vG (pv 0) rfl) (pv 1) (fun _ _=>rfl))),yu (n:=2) (k:=0) (b:=wv fu) rfl (zL (YR (Vh (zdB (zb 1) (wm T.ns_Store T.cl_Store T.n_Store_numbers (zb 0)))) (zL (zb1 (wm T.ns_Store T.cl_Store T.n_Store_numbers (zb 0)) (zb 1) (Yd Wl (ze (wm T.ns_Store T.cl_Store T.n_Store_facts (zb 0)) zj))) (zaM (zbO Xx (wm T.ns_Store T.cl_Store T.n_Store_facts (zb 0)) (ze (zb 1) zj)))) wk) (ym (zb0 (wm T.ns_Store T.cl_Store T.n_Store_numbers (zb 0)) (zb 1)))) h⟩)
noncomputable def ZP (fu:Nat):TwS:=(yk (yK "Store" "number_of" (xj fu) (za 0) [(XJ [(eC (.str "leaf")),(za 1)])]))
noncomputable def vq (fu:Nat):TwF:=zT 2 0 (ZP fu)
theorem Wb (T:Tx K mg):yj P w K mg base (CXE P w) 2 T.f_Store_leaf.a T.f_Store_leaf.fd ["self","one"] (sTw K 2 (vq fu)):=
 T.f_Store_leaf.F.okE Tt (fun vs H Q E h=>h.1) (fun cdv A outer s H vs Q E hr h=>⟨_,(¬(!ye (pv 0) T.cl_Store T.f_Store_number_of.mt (Zr (fu:=fu) T) (hr.mono (by decide)) T.f_Store_number_of.b .nil zF ((~~~(yl\(pv 1\zf)))\zf))),yu (n:=2) (k:=0) (b:=ZP fu) rfl (ym (yh T.ns_Store (zb 0) (ze (Wi (ze (vH _) (ze (zb 1) zj))) zj))) h⟩)
noncomputable def ZQ (fu:Nat):TwS:=(zu (zJ (eOp xl (za 2) (eC (.int 0))) (gN 3)) (zu (sIf (bE (eFn Tr [(xy [none,some 3] (iL (za 2)) (gN 0) xm (eOp Tq (za 0) (za 1)))])) (yk (za 3)) yZ) (yk (yK "Store" "number_of" (xj fu) (za 0) [(XJ [(eC (.str "fork")),(za 1),(eFn Vj [(za 2)])])]))))
noncomputable def vr (fu:Nat):TwF:=zT 3 1 (ZQ fu)
theorem Wc (T:Tx K mg):yj P w K mg base (CXE P w) 2 T.f_Store_fork.a T.f_Store_fork.fd ["self","level","kids"] (sTw K 3 (vr fu)):=
 T.f_Store_fork.F.okE XZ (fun vs H Q E h=>h.1) (fun cdv A outer s H vs Q E hr h=>⟨_,((XZ^^^(3,Or.inr rfl,zx (K:=K)%(pv 2,zg)))<|>yT (Zf (zr (Yc (K:=K) rfl) rfl T.n_all PyProof.Rows.Boot.«all» (zE (xu (N':=["kid","first"]) rfl (blk (osc:=zh vY) rfl (by decide+kernel)) (yW (zG (i:=3) rfl rfl yV)) (Zi (K:=K) (pv 2)) (yb rfl) (fun C s₀ H₀ fp=>zV (i:=0) (show (["kid","first"]:List Str).Nodup from by decide+kernel) rfl (Or.inl rfl)) (fun C s₀ H₀ fp=>yU) (fun C s₀ H₀ fp=>(zcw (YZ (pv 0) (pv 1))))) zf))) (¬(!pv 3)) zU<|>¬(!ye (pv 0) T.cl_Store T.f_Store_number_of.mt (Zr (fu:=fu) T) (hr.mono (by decide)) T.f_Store_number_of.b .nil zF ((~~~(yl\(pv 1\(TR (Vx (K:=K)) rfl T.n_tuple boot_tuple (pv 2\zf)\zf))))\zf))),yu (n:=3) (k:=1) (b:=ZQ fu) rfl (zL (yP (zD zZ (zb 2) (zK _)) zH) (zL (YR (Vh (Yd UP (ze (wF (cap:=[none,some 3]) (Wu (zb 2)) zH wE (zaQ (zb 0) (zb 1))) zj))) (ym (zb 3)) wk) (ym (yh T.ns_Store (zb 0) (ze (Wi (ze (vH _) (ze (zb 1) (ze (Yd zbR (ze (zb 2) zj)) zj)))) zj))))) h⟩)
noncomputable def xA (fu:Nat):TwS:=(zu (zJ (eOp xl (Zo "Store" "facts" (za 0)) (za 1)) (gN 2)) (yk (eIf (bE (eOp (XL false) (eOp yp (za 2) (eC (.int 0))) (eC (.str "fork")))) (eOp yp (za 2) (eC (.int 1))) (eFn vV [(Zo "Store" "boxes" (za 0))]))))
noncomputable def zW (fu:Nat):TwF:=zT 2 1 (xA fu)
theorem wO (T:Tx K mg):yj P w K mg base (CXE P w) 1 T.f_Store_level_of.a T.f_Store_level_of.fd ["self","node"] (sTw K 2 (zW fu)):=
 T.f_Store_level_of.F.okE ZF (fun vs H Q E h=>h.1) (fun cdv A outer s H vs Q E hr h=>⟨_,((ZF^^^(2,Or.inl rfl,zx (K:=K)%(vG (pv 0) rfl,pv 1)))<|>¬(!Xb (Yt XO (zo (K:=K)%(pv 2,zg)) yl (by rfl)) (zo (K:=K)%(pv 2,zg)) (zr (yi (K:=K)) rfl T.n_len boot_len (vG (pv 0) rfl\zf)))),yu (n:=2) (k:=1) (b:=xA fu) rfl (zL (yP (zD zZ (wm T.ns_Store T.cl_Store T.n_Store_facts (zb 0)) (zb 1)) zH) (ym (zbL (Xw (zD Xg (zD xC (zb 2) (zK _)) (vH _))) (zD xC (zb 2) (zK _)) (Yd Wl (ze (wm T.ns_Store T.cl_Store T.n_Store_boxes (zb 0)) zj))))) h⟩)
noncomputable def vg (fu:Nat):TwS:=(zu (zJ (eOp xl (Zo "Store" "facts" (za 0)) (za 1)) (gN 2)) (yk (eIf (bE (eOp (XL false) (eOp yp (za 2) (eC (.int 0))) (eC (.str "fork")))) (eOp yp (za 2) (eC (.int 2))) (XJ []))))
noncomputable def xf (fu:Nat):TwF:=zT 2 1 (vg fu)
theorem Yl (T:Tx K mg):yj P w K mg base (CXE P w) 1 T.f_Store_kids_of.a T.f_Store_kids_of.fd ["self","node"] (sTw K 2 (xf fu)):=
 T.f_Store_kids_of.F.okE Yj (fun vs H Q E h=>h.1) (fun cdv A outer s H vs Q E hr h=>⟨_,((Yj^^^(2,Or.inl rfl,zx (K:=K)%(vG (pv 0) rfl,pv 1)))<|>¬(!Xb (Yt XO (zo (K:=K)%(pv 2,zg)) yl (by rfl)) (zo (K:=K)%(pv 2,zg)) (~~~zf))),yu (n:=2) (k:=1) (b:=vg fu) rfl (zL (yP (zD zZ (wm T.ns_Store T.cl_Store T.n_Store_facts (zb 0)) (zb 1)) zH) (ym (zbL (Xw (zD Xg (zD xC (zb 2) (zK _)) (vH _))) (zD xC (zb 2) (zK _)) (Wi zj)))) h⟩)
noncomputable def vM (fu:Nat):TwS:=(yk (eIf (bE (eOp Tq (yK "Store" "level_of" (zW fu) (za 0) [(za 1)]) (za 2))) (eOp yp (yK "Store" "kids_of" (xf fu) (za 0) [(za 1)]) (za 3)) (za 1)))
noncomputable def wn (fu:Nat):TwF:=zT 4 0 (vM fu)
theorem VN (T:Tx K mg):yj P w K mg base (CXE P w) 2 T.f_Store_kid_at.a T.f_Store_kid_at.fd ["self","node","level","number"] (sTw K 4 (wn fu)):=
 T.f_Store_kid_at.F.okE VL (fun vs H Q E h=>h.1) (fun cdv A outer s H vs Q E hr h=>⟨_,(¬(!Xb (yJ (YZ (ye (pv 0) T.cl_Store T.f_Store_level_of.mt (wO (fu:=fu) T) (hr.mono (by decide)) T.f_Store_level_of.b .nil zF (pv 1\zf)) (pv 2))) (zo (K:=K)%(ye (pv 0) T.cl_Store T.f_Store_kids_of.mt (Yl (fu:=fu) T) (hr.mono (by decide)) T.f_Store_kids_of.b .nil zF (pv 1\zf),pv 3)) (pv 1))),yu (n:=4) (k:=0) (b:=vM fu) rfl (ym (zbL (Vh (zaQ (yh T.ns_Store (zb 0) (ze (zb 1) zj)) (zb 2))) (zD xC (yh T.ns_Store (zb 0) (ze (zb 1) zj)) (zb 3)) (zb 1))) h⟩)
noncomputable def wP (fu:Nat):TwS:=(zu (sWh fu (bE (eOp (XL false) (eOp yp (eOp xl (Zo "Store" "facts" (za 0)) (za 1)) (eC (.int 0))) (eC (.str "fork")))) (zJ (eOp yp (yK "Store" "kids_of" (xf fu) (za 0) [(za 1)]) (eOp yp (za 2) (yK "Store" "level_of" (zW fu) (za 0) [(za 1)]))) (gN 1))) (yk (eOp yp (eOp xl (Zo "Store" "facts" (za 0)) (za 1)) (eC (.int 1)))))
noncomputable def wQ (fu:Nat):TwF:=zT 3 0 (wP fu)
theorem WQ (T:Tx K mg):yj P w K mg base (CXE P w) 2 T.f_Store_value_at.a T.f_Store_value_at.fd ["self","node","state"] (sTw K 3 (wQ fu)):=
 T.f_Store_value_at.F.okE ZG (fun vs H Q E h=>h.1) (fun cdv A outer s H vs Q E hr h=>⟨_,(Us PassesOwn.leaving (Yt XO (zo (K:=K)%(zx (K:=K)%(vG (pv 0) rfl,pv 1),zg)) yl (by rfl)) (¬(ZG^^^(1,Or.inl rfl,zo (K:=K)%(ye (pv 0) T.cl_Store T.f_Store_kids_of.mt (Yl (fu:=fu) T) (hr.mono (by decide)) T.f_Store_kids_of.b .nil zF (pv 1\zf),zo (K:=K)%(pv 2,ye (pv 0) T.cl_Store T.f_Store_level_of.mt (wO (fu:=fu) T) (hr.mono (by decide)) T.f_Store_level_of.b .nil zF (pv 1\zf))))))<|>¬(!(zo (K:=K)%(zx (K:=K)%(vG (pv 0) rfl,pv 1),zg)))),yu (n:=3) (k:=0) (b:=wP fu) rfl (zL (zbP (Xw (zD Xg (zD xC (zD zZ (wm T.ns_Store T.cl_Store T.n_Store_facts (zb 0)) (zb 1)) (zK _)) (vH _))) (yP (zD xC (yh T.ns_Store (zb 0) (ze (zb 1) zj)) (zD xC (zb 2) (yh T.ns_Store (zb 0) (ze (zb 1) zj)))) zH)) (ym (zD xC (zD zZ (wm T.ns_Store T.cl_Store T.n_Store_facts (zb 0)) (zb 1)) (zK _)))) h⟩)
noncomputable def zjS (fu:Nat):TwE:=(zI (zbc fu) [(eOp xl (za 0) (eC (.int 0))),(eOp xl (za 0) (eC (.int 1)))])
noncomputable def zam (fu:Nat):List Xv→TwF:=zb7 1 0 (zjS fu)
theorem zjT (T:Tx K mg):Yh P w K mg base 4 WJ (zam fu):=
 za4 (ps:=["ones"]) ⟨rfl,rfl,rfl,by decide+kernel,by decide+kernel,by decide+kernel,by decide+kernel⟩ rfl rfl (fun _ _ _ _=>at_ fun _=>at0 rfl) (fun clos f c A outer s H hr=>⟨_,(T.f_plus\(zhf (fu:=fu) T,hr.mono (by decide),wC,(zx (K:=K)%(pv 0,zg))\((zx (K:=K)%(pv 0,zg))\zf))),(yo (ze (zD zZ (zb 0) (zK _)) (ze (zD zZ (zb 0) (zK _)) zj)))⟩)
noncomputable def zjU (fu:Nat):TwE:=(zI (UY fu) [(eOp xl (za 0) (eC (.int 0))),(eOp xl (za 0) (eC (.int 1)))])
noncomputable def zan (fu:Nat):List Xv→TwF:=zb7 1 0 (zjU fu)
theorem zjV (T:Tx K mg):Yh P w K mg base 4 WK (zan fu):=
 za4 (ps:=["ones"]) ⟨rfl,rfl,rfl,by decide+kernel,by decide+kernel,by decide+kernel,by decide+kernel⟩ rfl rfl (fun _ _ _ _=>at_ fun _=>at0 rfl) (fun clos f c A outer s H hr=>⟨_,(T.f_times\(zfZ (fu:=fu) T,hr.mono (by decide),wC,(zx (K:=K)%(pv 0,zg))\((zx (K:=K)%(pv 0,zg))\zf))),(yo (ze (zD zZ (zb 0) (zK _)) (ze (zD zZ (zb 0) (zK _)) zj)))⟩)
noncomputable def zjW (fu:Nat):TwE:=(zI (Wq fu) [(eOp xl (za 0) (eC (.int 0))),(eOp xl (za 0) (eC (.int 1)))])
noncomputable def zao (fu:Nat):List Xv→TwF:=zb7 1 0 (zjW fu)
theorem zjX (T:Tx K mg):Yh P w K mg base 3 WL (zao fu):=
 za4 (ps:=["ones"]) ⟨rfl,rfl,rfl,by decide+kernel,by decide+kernel,by decide+kernel,by decide+kernel⟩ rfl rfl (fun _ _ _ _=>at_ fun _=>at0 rfl) (fun clos f c A outer s H hr=>⟨_,(T.f_greater\(zc7 (fu:=fu) T,hr.mono (by decide),wC,(zx (K:=K)%(pv 0,zg))\((zx (K:=K)%(pv 0,zg))\zf))),(yo (ze (zD zZ (zb 0) (zK _)) (ze (zD zZ (zb 0) (zK _)) zj)))⟩)
noncomputable def vh (fu:Nat):TwS:=(zu (zJ (xy [none,some 0] (iT (za 1)) (gN 0) xm (eOp xl (Zo "Store" "facts" (za 1)) (za 0))) (gN 3)) (zu (sIf (bE (eFn zfz [(xy [none] (iL (za 3)) (gN 0) xm (eOp (XL false) (eOp yp (za 0) (eC (.int 0))) (eC (.str "fork"))))])) (yk (eC .non)) yZ) (yk (yK "Store" "leaf" (vq fu) (za 0) [(Vm [(WJ,zam fu),(WK,zan fu),(WL,zao fu)] 2 [(xy [none] (iL (za 3)) (gN 0) xm (eOp yp (za 0) (eC (.int 1))))])]))))
noncomputable def vk (fu:Nat):TwF:=zT 3 1 (vh fu)
theorem Vp (T:Tx K mg):yj P w K mg base (CXE P w) 5 T.f_Store_leaf_by.a T.f_Store_leaf_by.fd ["self","nodes","rule"] (sTw K 3 (vk fu)):=
 T.f_Store_leaf_by.F.okE Yk (fun vs H Q E h=>h.1) (fun cdv A outer s H vs Q E hr h=>⟨_,(Wh (i:=3) (N':=["node","self"]) rfl (blk (osc:=zh yR) rfl (by decide+kernel)) (yW (zG (i:=0) rfl rfl yV)) (VU (K:=K) (pv 1)) (yb rfl) (fun C s₀ H₀ fp=>zV (i:=0) (show (["node","self"]:List Str).Nodup from by decide+kernel) rfl (Or.inl rfl)) (fun C s₀ H₀ fp=>yU) (fun C s₀ H₀ fp=>(zx (K:=K)%(vG (pv 1) rfl,pv 0))) Yk.nd rfl rfl<|>yT (Zf (zr (zed (K:=K) rfl) rfl T.n_any PyProof.Rows.Boot.«any» (zE (xu (N':=["fact"]) rfl (blk (osc:=zh yR) rfl (by decide+kernel)) (yW yV) (Zi (K:=K) (pv 3)) (yb rfl) (fun C s₀ H₀ fp=>zV (i:=0) (show (["fact"]:List Str).Nodup from by decide+kernel) rfl (Or.inl rfl)) (fun C s₀ H₀ fp=>yU) (fun C s₀ H₀ fp=>(zax XO (zo (K:=K)%(pv 0,zg)) yl (by rfl)))) zf))) (¬(!zic)) zU<|>¬(!ye (pv 0) T.cl_Store T.f_Store_leaf.mt (Wb (fu:=fu) T) (hr.mono (by decide)) T.f_Store_leaf.b .nil zF (zb5 (i:=2) (k:=4) rfl (by first|exact .inl rfl|exact .inr (.inl rfl)|exact .inr (.inr rfl)) (zdD (fns:=[(WJ,zam fu),(WK,zan fu),(WL,zao fu)]) (XC (zjT (fu:=fu) T) (by decide) (XC (zjV (fu:=fu) T) (by decide) (XC (zjX (fu:=fu) T) (by decide) zcc)))) (hr.mono (by decide)) (zE (xu (N':=["fact"]) rfl (blk (osc:=zh yR) rfl (by decide+kernel)) (yW yV) (Zi (K:=K) (pv 3)) (yb rfl) (fun C s₀ H₀ fp=>zV (i:=0) (show (["fact"]:List Str).Nodup from by decide+kernel) rfl (Or.inl rfl)) (fun C s₀ H₀ fp=>yU) (fun C s₀ H₀ fp=>(zo (K:=K)%(pv 0,zg)))) zf)\zf))),yu (n:=3) (k:=1) (b:=vh fu) rfl (zL (Wj (wF (cap:=[none,some 0]) (zaN (zb 1)) zH wE (zD zZ (wm T.ns_Store T.cl_Store T.n_Store_facts (zb 1)) (zb 0)))) (zL (YR (Vh (Yd ziE (ze (wF (cap:=[none]) (Wu (zb 3)) zH wE (zD Xg (zD xC (zb 0) (zK _)) (vH _))) zj))) (ym zix) wk) (ym (yh T.ns_Store (zb 0) (ze (zca (ze (wF (cap:=[none]) (Wu (zb 3)) zH wE (zD xC (zb 0) (zK _))) zj)) zj))))) h⟩)
noncomputable def zjY (fu:Nat):TwE:=(yK "Store" "leaf_by" (vk fu) (za 1) [(za 0),(za 2)])
noncomputable def zdI (fu:Nat):List Xv→TwF:=zb7 1 2 (zjY fu)
theorem zjZ (T:Tx K mg):Yh P w K mg base 6 VB (zdI fu):=
 za4 (ps:=["these"]) ⟨rfl,rfl,rfl,by decide+kernel,by decide+kernel,by decide+kernel,by decide+kernel⟩ rfl rfl (fun _ _ _ _=>at_ fun _=>at0 rfl) (fun clos f c A outer s H hr=>⟨_,(ye (pv 1) T.cl_Store T.f_Store_leaf_by.mt (Vp (fu:=fu) T) (hr.mono (by decide)) T.f_Store_leaf_by.b .nil wC (pv 0\(pv 2\zf))),(yh T.ns_Store (zb 1) (ze (zb 0) (ze (zb 2) zj)))⟩)
noncomputable def wo (fu:Nat) (r_Store_joined:TwF) (r_Store_joined_below:TwF):TwS:=(zu (sIf (bE (zdA true (za 1) (za 3))) (zu (zJ (Vm [(VB,zdI fu)] 2 [(za 1)]) (gN 4)) (Ue (za 3) (za 1) (eIf (bE (eUn zcN (za 4))) (yK "Store" "joined_below" r_Store_joined_below (za 0) [(za 1),(za 2),(za 3)]) (za 4)))) yZ) (yk (zaY (za 3) (za 1))))
noncomputable def yr (fu:Nat) (r_Store_joined:TwF) (r_Store_joined_below:TwF):TwS:=(zu (zJ (eFn zcd [(xy [none,some 0] (iT (za 1)) (gN 0) xm (yK "Store" "level_of" (zW fu) (za 1) [(za 0)]))]) (gN 4)) (zu (zJ (VI []) (gN 5)) (zu (UK (iR1 (eOp yp (eOp yp (Zo "Store" "boxes" (za 0)) (za 4)) (eC (.int 1)))) (gN 6) (zu (zJ (eFn Vj [(xy [none,some 4,some 6,some 0] (iT (za 1)) (gN 0) xm (yK "Store" "kid_at" (wn fu) (za 3) [(za 0),(za 1),(za 2)]))]) (gN 7)) (XU (eMt wj (za 5) [(yK "Store" "joined" r_Store_joined (za 0) [(za 7),(za 2),(za 3)])])))) (yk (yK "Store" "fork" (vr fu) (za 0) [(za 4),(za 5)])))))
mutual
noncomputable def zC (fu:Nat):Nat→TwF
 |0=>fun _ _=>none
 |n+1=>zT 4 1 (wo fu (zC fu n) (zt fu n))
noncomputable def zt (fu:Nat):Nat→TwF
 |0=>fun _ _=>none
 |n+1=>zT 4 4 (yr fu (zC fu n) (zt fu n))
end
theorem vD (fu n:Nat):zC fu (n+1)=zT 4 1 (wo fu (zC fu n) (zt fu n)):=by rw [zC]
theorem Xq (fu:Nat):zC fu 0=fun _ _=>none:=by rw [zC]
theorem xG (fu n:Nat):zt fu (n+1)=zT 4 4 (yr fu (zC fu n) (zt fu n)):=by rw [zt]
theorem Zs (fu:Nat):zt fu 0=fun _ _=>none:=by rw [zt]
theorem Vq (T:Tx K mg):∀n:Nat,yj P w K mg base (CXE P w) (6+n) T.f_Store_joined.a T.f_Store_joined.fd ["self","nodes","settle","known"] (sTw K 4 (zC fu n))∧yj P w K mg base (CXE P w) (6+n) T.f_Store_joined_below.a T.f_Store_joined_below.fd ["self","nodes","settle","known"] (sTw K 4 (zt fu n)):=by
 intro n
 induction n with
 |zero=>
  refine ⟨?_,?_⟩
  ·rw [Xq]
   exact VX
  ·rw [Zs]
   exact VX
 |succ n ih=>
  refine ⟨?_,?_⟩
  ·rw [vD]
   exact T.f_Store_joined.F.okE YT (fun vs H Q E h=>h.1) (fun cdv A outer s H vs Q E hr h=>⟨_,(yT (yJ (UR (K:=K) hr (pv 1) (pv 3))) ((YT^^^(4,Or.inl rfl,zb5 (i:=2) (k:=6) rfl (by first|exact .inl rfl|exact .inr (.inl rfl)|exact .inr (.inr rfl)) (zdD (fns:=[(VB,zdI fu)]) (XC (zjZ (fu:=fu) T) (by decide) zcc)) (hr.mono (by walk_at "q2")) (pv 1\zf)))<|>¬zbZ (K:=K) hr (pv 3) (pv 1) (Xb (yJ (zcv (pv 4))) (ye (pv 0) T.cl_Store T.f_Store_joined_below.mt ih.2 (hr.mono (by walk_at "q2")) T.f_Store_joined_below.b .nil zF (pv 1\(pv 2\(pv 3\zf)))) (pv 4)) rfl) zU<|>¬(!zbY (K:=K) hr (pv 3) (pv 1) (fun _ _=>rfl))),yu (n:=4) (k:=1) (b:=wo fu (zC fu n) (zt fu n)) rfl (zL (YR (Vh (zdB (zb 1) (zb 3))) (zL (yP (zca (ze (zb 1) zj)) zH) (zb1 (zb 3) (zb 1) (zbL (Vh (zff (zb 4))) (yh T.ns_Store (zb 0) (ze (zb 1) (ze (zb 2) (ze (zb 3) zj)))) (zb 4)))) wk) (ym (zb0 (zb 3) (zb 1)))) h⟩)
  ·rw [xG]
   exact T.f_Store_joined_below.F.okE yq (fun vs H Q E h=>h.1) (fun cdv A outer s H vs Q E hr h=>⟨_,((yq^^^(4,Or.inr rfl,zr (zem (K:=K) rfl) rfl T.n_min boot_min (zE (xu (N':=["node","self"]) rfl (blk (osc:=zh yC) rfl (by decide+kernel)) (yW (zG (i:=0) rfl rfl yV)) (VU (K:=K) (pv 1)) (yb rfl) (fun C s₀ H₀ fp=>zV (i:=0) (show (["node","self"]:List Str).Nodup from by decide+kernel) rfl (Or.inl rfl)) (fun C s₀ H₀ fp=>yU) (fun C s₀ H₀ fp=>(ye (pv 1) T.cl_Store T.f_Store_level_of.mt (wO (fu:=fu) T) (hr.mono (by walk_at "q2")) T.f_Store_level_of.b .nil wC (pv 0\zf)))) zf)))<|>(yq^^^(5,Or.inl rfl,@ZK _ _ _ _ zf))<|>Ys PassesOwn.leaving rfl (yt rfl T.n_range ((zo (K:=K)%(zo (K:=K)%(vG (pv 0) rfl,pv 4),zg))\zf)) (zV (i:=6) yq.nd rfl (Or.inr rfl)) ((yq^^^(7,Or.inl rfl,TR (Vx (K:=K)) rfl T.n_tuple boot_tuple (zE (xu (N':=["node","level","number","self"]) rfl (blk (osc:=zh yC) rfl (by decide+kernel)) (yW (zG (i:=4) rfl rfl (zG (i:=6) rfl rfl (zG (i:=0) rfl rfl yV)))) (VU (K:=K) (pv 1)) (yb rfl) (fun C s₀ H₀ fp=>zV (i:=0) (show (["node","level","number","self"]:List Str).Nodup from by decide+kernel) rfl (Or.inl rfl)) (fun C s₀ H₀ fp=>yU) (fun C s₀ H₀ fp=>(ye (pv 3) T.cl_Store T.f_Store_kid_at.mt (VN (fu:=fu) T) (hr.mono (by walk_at "q2")) T.f_Store_kid_at.b .nil wC (pv 0\(pv 1\(pv 2\zf)))))) zf)))<|>¬Zw (Vv PySem.F.plainAttrs_list PySem.F.slot_list_append PySem.F.type_list_append ww (pv 5) (ye (pv 0) T.cl_Store T.f_Store_joined.mt ih.1 (hr.mono (by walk_at "q2")) T.f_Store_joined.b .nil zF (pv 7\(pv 2\(pv 3\zf)))\zf)))<|>¬(!ye (pv 0) T.cl_Store T.f_Store_fork.mt (Wc (fu:=fu) T) (hr.mono (by walk_at "q2")) T.f_Store_fork.b .nil zF (pv 4\(pv 5\zf)))),yu (n:=4) (k:=4) (b:=yr fu (zC fu n) (zt fu n)) rfl (zL (yP (Yd zhc (ze (wF (cap:=[none,some 0]) (zaN (zb 1)) zH wE (yh T.ns_Store (zb 1) (ze (zb 0) zj))) zj)) zH) (zL (yP (Vi zj) zH) (zL (zcP (Ze (zD xC (zD xC (wm T.ns_Store T.cl_Store T.n_Store_boxes (zb 0)) (zb 4)) (zK _))) zH (zL (yP (Yd zbR (ze (wF (cap:=[none,some 4,some 6,some 0]) (zaN (zb 1)) zH wE (yh T.ns_Store (zb 3) (ze (zb 0) (ze (zb 1) (ze (zb 2) zj))))) zj)) zH) (zaM (zbO Xx (zb 5) (ze (yh T.ns_Store (zb 0) (ze (zb 7) (ze (zb 2) (ze (zb 3) zj)))) zj))))) (ym (yh T.ns_Store (zb 0) (ze (zb 4) (ze (zb 5) zj))))))) h⟩)
theorem VO (T:Tx K mg) (n:Nat):yj P w K mg base (CXE P w) (6+n) T.f_Store_joined.a T.f_Store_joined.fd ["self","nodes","settle","known"] (sTw K 4 (zC fu n)):=(Vq T n).1
noncomputable def xH (fu:Nat):TwS:=(yk (XD "Store" "joined" (zC fu 24) (za 0) [(za 1),(zb6 VB 4 [0,2]),zaR]))
noncomputable def yD (fu:Nat):TwF:=zT 3 0 (xH fu)
theorem xJ (T:Tx K mg):yj P w K mg base (CXE P w) 31 T.f_Store_reckoned_of.a T.f_Store_reckoned_of.fd ["self","nodes","rule"] (sTw K 3 (yD fu)):=by
 obtain ⟨zc,zp,hz,hk⟩:=XF T.ns_Store T.f_Store_reckoned_of.mt.at_ T.z_Store_reckoned_of
 exact T.f_Store_reckoned_of.F.okZ (fz:=["self","rule"]) hz Xm (fun vs H Q E h=>h.1) (fun A outer s H vs Q E hr h=>⟨_,(¬(!ye (pv 0) T.cl_Store T.f_Store_joined.mt (VO (fu:=fu) T 24) (hr.mono (by decide)) T.f_Store_joined.b .nil wC (pv 1\(zE (Uk (L:=VB) (is:=[0,2]) (Uj (osc:=zh yF) (N:=["self","nodes","rule"]) (fz:=["self","rule"]) rfl rfl rfl rfl (by decide+kernel)) rfl rfl (Yi hz).1) (zE zbz zf))))),yu (n:=3) (k:=0) (b:=xH fu) rfl (ym (XE T.ns_Store (zb 0) (ze (zb 1) (ze (za3 hk) (ze zdy zj))))) h⟩)
noncomputable def Zt (fu:Nat):TwS:=(yk (XD "Store" "reckoned_of" (yD fu) (za 0) [(XJ [(za 1),(za 2)]),(zb6 WJ 1 [])]))
noncomputable def Xr (fu:Nat):TwF:=zT 3 0 (Zt fu)
theorem UZ (T:Tx K mg):yj P w K mg base (CXE P w) 32 T.f_Store_added.a T.f_Store_added.fd ["self","one","other"] (sTw K 3 (Xr fu)):=by
 obtain ⟨zc,zp,hz,hk⟩:=XF T.ns_Store T.f_Store_added.mt.at_ T.z_Store_added
 exact T.f_Store_added.F.okZ (fz:=[]) hz UW (fun vs H Q E h=>h.1) (fun A outer s H vs Q E hr h=>⟨_,(¬(!ye (pv 0) T.cl_Store T.f_Store_reckoned_of.mt (xJ (fu:=fu) T) (hr.mono (by decide)) T.f_Store_reckoned_of.b .nil wC ((~~~(pv 1\(pv 2\zf)))\(zE (Uk (L:=WJ) (is:=[]) (Uj (osc:=zh wg) (N:=["self","one","other"]) (fz:=[]) rfl rfl rfl rfl (by decide+kernel)) rfl rfl (Yi hz).1) zf)))),yu (n:=3) (k:=0) (b:=Zt fu) rfl (ym (XE T.ns_Store (zb 0) (ze (Wi (ze (zb 1) (ze (zb 2) zj))) (ze (za3 hk) zj)))) h⟩)
noncomputable def xZ (fu:Nat):TwS:=(yk (XD "Store" "reckoned_of" (yD fu) (za 0) [(XJ [(za 1),(za 2)]),(zb6 WK 2 [])]))
noncomputable def vU (fu:Nat):TwF:=zT 3 0 (xZ fu)
theorem XN (T:Tx K mg):yj P w K mg base (CXE P w) 32 T.f_Store_multiplied.a T.f_Store_multiplied.fd ["self","one","other"] (sTw K 3 (vU fu)):=by
 obtain ⟨zc,zp,hz,hk⟩:=XF T.ns_Store T.f_Store_multiplied.mt.at_ T.z_Store_multiplied
 exact T.f_Store_multiplied.F.okZ (fz:=[]) hz XM (fun vs H Q E h=>h.1) (fun A outer s H vs Q E hr h=>⟨_,(¬(!ye (pv 0) T.cl_Store T.f_Store_reckoned_of.mt (xJ (fu:=fu) T) (hr.mono (by decide)) T.f_Store_reckoned_of.b .nil wC ((~~~(pv 1\(pv 2\zf)))\(zE (Uk (L:=WK) (is:=[]) (Uj (osc:=zh yL) (N:=["self","one","other"]) (fz:=[]) rfl rfl rfl rfl (by decide+kernel)) rfl rfl (Yi hz).1) zf)))),yu (n:=3) (k:=0) (b:=xZ fu) rfl (ym (XE T.ns_Store (zb 0) (ze (Wi (ze (zb 1) (ze (zb 2) zj))) (ze (za3 hk) zj)))) h⟩)
noncomputable def vN (fu:Nat):TwS:=(yk (XD "Store" "reckoned_of" (yD fu) (za 0) [(XJ [(za 1),(za 2)]),(zb6 WL 3 [])]))
noncomputable def YU (fu:Nat):TwF:=zT 3 0 (vN fu)
theorem VP (T:Tx K mg):yj P w K mg base (CXE P w) 32 T.f_Store_higher.a T.f_Store_higher.fd ["self","one","other"] (sTw K 3 (YU fu)):=by
 obtain ⟨zc,zp,hz,hk⟩:=XF T.ns_Store T.f_Store_higher.mt.at_ T.z_Store_higher
 exact T.f_Store_higher.F.okZ (fz:=[]) hz VM (fun vs H Q E h=>h.1) (fun A outer s H vs Q E hr h=>⟨_,(¬(!ye (pv 0) T.cl_Store T.f_Store_reckoned_of.mt (xJ (fu:=fu) T) (hr.mono (by decide)) T.f_Store_reckoned_of.b .nil wC ((~~~(pv 1\(pv 2\zf)))\(zE (Uk (L:=WL) (is:=[]) (Uj (osc:=zh xE) (N:=["self","one","other"]) (fz:=[]) rfl rfl rfl rfl (by decide+kernel)) rfl rfl (Yi hz).1) zf)))),yu (n:=3) (k:=0) (b:=vN fu) rfl (ym (XE T.ns_Store (zb 0) (ze (Wi (ze (zb 1) (ze (zb 2) zj))) (ze (za3 hk) zj)))) h⟩)
noncomputable def Zc (fu:Nat):TwS:=(zu (sIf (bE (eOp Tq (eFn vV [(za 0)]) (eC (.int 0)))) (yk (eC (.int 0))) yZ) (yk (eOp Zl (eMt zfm (za 0) []) (za 1))))
noncomputable def zq (fu:Nat):TwF:=zT 2 0 (Zc fu)
theorem zy (T:Tx K mg):yj P w K mg base (CXE P w) 1 T.f__law_take.a T.f__law_take.fd ["_law_left","_law_many"] (sTw K 2 (zq fu)):=
 T.f__law_take.F.okE zba (fun vs H Q E h=>h.1) (fun cdv A outer s H vs Q E hr h=>⟨_,(yT (yJ (YZ (zr (yi (K:=K)) rfl T.n_len boot_len (pv 0\zf)) zg)) (¬(!zg)) zU<|>¬(!zk xV (zis PySem.F.plainAttrs_list PySem.F.slot_list_pop PySem.F.type_list_pop zit (pv 0)) (pv 1))),yu (n:=2) (k:=0) (b:=Zc fu) rfl (by unfold Zc;walk_at "re") h⟩)
noncomputable def Zd (fu:Nat):TwS:=(zu (zJ (eC (.str "")) (gN 2)) (zu (UK (iR1 (za 1)) (gN 3) (zu (zJ (eOp Wx (za 2) (eOp zgX (eC (.str "abcdefghijklmnopqrstuvwxyz")) (eOp Zl (za 0) (eC (.int 26))))) (gN 2)) (zJ (eOp Ww (za 0) (eC (.int 26))) (gN 0)))) (yk (za 2))))
noncomputable def wR (fu:Nat):TwF:=zT 2 2 (Zd fu)
theorem WR (T:Tx K mg):yj P w K mg base (CXE P w) 1 T.f__law_word.a T.f__law_word.fd ["_law_number","_law_size"] (sTw K 2 (wR fu)):=
 T.f__law_word.F.okE wK (fun vs H Q E h=>h.1) (fun cdv A outer s H vs Q E hr h=>⟨_,((wK^^^(2,Or.inl rfl,yl))<|>Ys PassesOwn.leaving rfl (yt rfl T.n_range (pv 1\zf)) (zV (i:=3) wK.nd rfl (Or.inl rfl)) ((wK^^^(2,Or.inl rfl,zk Wf (pv 2) (zeT%(yl,zk xV (pv 0) zg))))<|>¬(wK^^^(0,Or.inl rfl,zk VR (pv 0) zg)))<|>¬(!pv 2)),yu (n:=2) (k:=2) (b:=Zd fu) rfl (by unfold Zd;walk_at "re") h⟩)
noncomputable def vt (fu:Nat):TwS:=(zu (zJ (zI (zq fu) [(za 0),(eC (.int 4))]) (gN 2)) (zu (sIf (bE (eOp Tq (za 2) (eC (.int 1)))) (zu (zJ (VI [(eC (.str "pass")),(eC (.str "end")),(eC (.str "lost")),(eC (.str "set")),(eC (.str "hand")),(eC (.str "draw")),(eC (.str "if")),(eC (.str "gain")),(eC (.str "while")),(eC (.str "look")),(eC (.str "times")),(eC (.str "leaf")),(eC (.str "fork"))]) (gN 3)) (zu (zJ (zI (zq fu) [(za 0),(eC (.int 13))]) (gN 4)) (yk (xy [none,some 3,some 4] (iR1 (za 1)) (gN 0) xm (eOp xl (za 1) (eOp Zl (eOp vA (za 2) (za 0)) (eC (.int 13)))))))) yZ) (zu (zJ (zI (wR fu) [(zI (zq fu) [(za 0),(eOp zcR (eC (.int 26)) (eC (.int 8)))]),(eC (.int 8))]) (gN 5)) (zu (sIf (zgU (bE (eOp Tq (za 2) (eC (.int 2)))) (bE (eOp dLt (za 1) (eC (.int 9))))) (yk (xy [none,some 5] (iR1 (za 1)) (gN 0) xm (eSl UJ (za 1) oNo (YQ (eOp vA (za 0) (eC (.int 1))))))) yZ) (zu (zJ (zI (zq fu) [(za 0),(eC (.int 1664))]) (gN 6)) (zu (zJ (eOp vA (eC (.int 1)) (eOp Zl (za 6) (eC (.int 8)))) (gN 7)) (zu (zJ (eOp Zl (eOp Ww (za 6) (eC (.int 8))) (za 7)) (gN 8)) (yk (xy [none,some 5,some 7,some 8,some 6] (iR1 (za 1)) (gN 0) xm (eOp Wx (eOp Wx (eSl UJ (za 1) oNo (YQ (za 3))) (zI (wR fu) [(eOp vA (eOp Ww (za 4) (eC (.int 64))) (za 0)),(eC (.int 1))])) (eSl UJ (za 1) (YQ (eOp vA (za 3) (eC (.int 1)))) (YQ (za 2)))))))))))))
noncomputable def ZR (fu:Nat):TwF:=zT 2 7 (vt fu)
theorem Tv (T:Tx K mg):yj P w K mg base (CXE P w) 2 T.f__law_names.a T.f__law_names.fd ["_law_left","_law_many"] (sTw K 2 (ZR fu)):=
 T.f__law_names.F.okE yH (fun vs H Q E h=>h.1) (fun cdv A outer s H vs Q E hr h=>⟨_,((yH^^^(2,Or.inl rfl,T.f__law_take\(zy (fu:=fu) T,hr.mono (by decide),zF,pv 0\(zg\zf))))<|>yT (yJ (YZ (pv 2) zg)) ((yH^^^(3,Or.inr rfl,@ZK _ _ _ _ (yl\(yl\(yl\(yl\(yl\(yl\(yl\(yl\(yl\(yl\(yl\(yl\(yl\zf)))))))))))))))<|>(yH^^^(4,Or.inr rfl,T.f__law_take\(zy (fu:=fu) T,hr.mono (by decide),zF,pv 0\(zg\zf))))<|>¬(!xu (N':=["_law_k","_law_some","_law_turn"]) rfl (blk (osc:=zh xQ) rfl (by decide+kernel)) (yW (zG (i:=3) rfl rfl (zG (i:=4) rfl rfl yV))) (yt rfl T.n_range (pv 1\zf)) (yb rfl) (fun C s₀ H₀ fp=>zV (i:=0) (show (["_law_k","_law_some","_law_turn"]:List Str).Nodup from by decide+kernel) rfl (Or.inl rfl)) (fun C s₀ H₀ fp=>yU) (fun C s₀ H₀ fp=>(zx (K:=K)%(pv 1,zk xV (zk yX (pv 2) (pv 0)) zg))))) zU<|>(yH^^^(5,Or.inr rfl,T.f__law_word\(WR (fu:=fu) T,hr.mono (by decide),zF,(T.f__law_take\(zy (fu:=fu) T,hr.mono (by decide),zF,pv 0\(zk zaw zg zg\zf)))\(zg\zf))))<|>yT (PW.pt (zeF (yJ (YZ (pv 2) zg)) (zdi (yJ (zbr (pv 1) zg))))) (¬(!xu (N':=["_law_k","_law_word_here"]) rfl (blk (osc:=zh xQ) rfl (by decide+kernel)) (yW (zG (i:=5) rfl rfl yV)) (yt rfl T.n_range (pv 1\zf)) (yb rfl) (fun C s₀ H₀ fp=>zV (i:=0) (show (["_law_k","_law_word_here"]:List Str).Nodup from by decide+kernel) rfl (Or.inl rfl)) (fun C s₀ H₀ fp=>yU) (fun C s₀ H₀ fp=>(Xc zcJ (pv 1) zaz (Yv (zk yX (pv 0) zg)))))) zU<|>(yH^^^(6,Or.inr rfl,T.f__law_take\(zy (fu:=fu) T,hr.mono (by decide),zF,pv 0\(zg\zf))))<|>(yH^^^(7,Or.inr rfl,zk yX zg (zk xV (pv 6) zg)))<|>(yH^^^(8,Or.inr rfl,zk xV (zk VR (pv 6) zg) (pv 7)))<|>¬(!xu (N':=["_law_k","_law_word_here","_law_size","_law_at","_law_cell"]) rfl (blk (osc:=zh xQ) rfl (by decide+kernel)) (yW (zG (i:=5) rfl rfl (zG (i:=7) rfl rfl (zG (i:=8) rfl rfl (zG (i:=6) rfl rfl yV))))) (yt rfl T.n_range (pv 1\zf)) (yb rfl) (fun C s₀ H₀ fp=>zV (i:=0) (show (["_law_k","_law_word_here","_law_size","_law_at","_law_cell"]:List Str).Nodup from by decide+kernel) rfl (Or.inl rfl)) (fun C s₀ H₀ fp=>yU) (fun C s₀ H₀ fp=>(zk Wf (zk Wf (Xc zcJ (pv 1) zaz (Yv (pv 3))) (T.f__law_word\(WR (fu:=fu) T,hr.mono (by decide),wC,zk yX (zk VR (pv 4) zg) (pv 0)\(zg\zf)))) (Xc zcJ (pv 1) (Yv (zk yX (pv 3) zg)) (Yv (pv 2))))))),yu (n:=2) (k:=7) (b:=vt fu) rfl (by unfold vt;walk_at "re") h⟩)
noncomputable def vv (fu:Nat):TwS:=(zu (zJ (zI (zq fu) [(za 0),(eC (.int 40))]) (gN 2)) (zu (sIf (bE (eOp dGt (za 2) (eC (.int 9)))) (zJ (eOp vA (eC (.int 1)) (eOp Zl (za 2) (eC (.int 3)))) (gN 2)) yZ) (zu (zJ (XJ []) (gN 3)) (zu (zJ (eC (.int 1)) (gN 4)) (zu (UK (iL (zI (ZR fu) [(za 0),(za 2)])) (gN 5) (zu (zJ (eOp vA (eC (.int 1)) (zI (zq fu) [(za 0),(eC (.int 9))])) (gN 6)) (zu (sIf (zgU (bE (eOp dGt (za 2) (eC (.int 1)))) (bE (eOp dLt (za 1) (eC (.int 100))))) (zJ (eOp vA (eC (.int 1)) (eOp Zl (za 6) (eC (.int 3)))) (gN 6)) yZ) (zu (zJ (eFn ziD [(za 6),(eOp YD (za 1) (za 4))]) (gN 6)) (zu (zJ (eOp Vy (za 3) (XJ [(XJ [(za 5),(za 6)])])) (gN 3)) (zJ (eOp xz (za 4) (za 6)) (gN 4))))))) (yk (za 3)))))))
noncomputable def ZS (fu:Nat):TwF:=zT 2 5 (vv fu)
theorem Tw (T:Tx K mg):yj P w K mg base (CXE P w) 3 T.f__law_boxes.a T.f__law_boxes.fd ["_law_left","_law_most"] (sTw K 2 (ZS fu)):=
 T.f__law_boxes.F.okE zX (fun vs H Q E h=>h.1) (fun cdv A outer s H vs Q E hr h=>⟨_,((zX^^^(2,Or.inl rfl,T.f__law_take\(zy (fu:=fu) T,hr.mono (by decide),zF,pv 0\(zg\zf))))<|>yT (yJ (zeD (pv 2) zg)) (¬(zX^^^(2,Or.inl rfl,zk yX zg (zk xV (pv 2) zg)))) zU<|>(zX^^^(3,Or.inl rfl,~~~zf))<|>(zX^^^(4,Or.inl rfl,zg))<|>Ys PassesOwn.leaving rfl (Zi (K:=K) (T.f__law_names\(Tv (fu:=fu) T,hr.mono (by decide),zF,pv 0\(pv 2\zf)))) (zV (i:=5) zX.nd rfl (Or.inl rfl)) ((zX^^^(6,Or.inl rfl,zk yX zg (T.f__law_take\(zy (fu:=fu) T,hr.mono (by decide),zF,pv 0\(zg\zf)))))<|>yT (PW.pt (zeF (yJ (zeD (pv 2) zg)) (zdi (yJ (zbr (pv 1) zg))))) (¬(zX^^^(6,Or.inl rfl,zk yX zg (zk xV (pv 6) zg)))) zU<|>(zX^^^(6,Or.inl rfl,zr (zd0 rfl) rfl T.n_min boot_min (pv 6\(zk Yb (pv 1) (pv 4)\zf))))<|>(zX^^^(3,Or.inl rfl,zk (zdr (K:=K)) (pv 3) (~~~((~~~(pv 5\(pv 6\zf)))\zf))))<|>¬(zX^^^(4,Or.inl rfl,zk yx (pv 4) (pv 6))))<|>¬(!pv 3)),yu (n:=2) (k:=5) (b:=vv fu) rfl (by unfold vv;walk_at "re") h⟩)
noncomputable def ZH (fu:Nat):TwS:=(zu (zJ (eFn zej [(za 0)]) (gN 2)) (zu (zJ (za 1) (gN 3)) (zu (sWh fu (bE (eOp dGt (za 3) (eC (.int 0)))) (zu (zJ (eOp Zl (za 2) (za 3)) (gN 4)) (zu (zJ (za 3) (gN 2)) (zJ (za 4) (gN 3))))) (yk (XJ [(eOp YD (za 0) (za 2)),(eOp YD (za 1) (za 2))])))))
noncomputable def wA (fu:Nat):TwF:=zT 2 3 (ZH fu)
theorem ZI (T:Tx K mg):yj P w K mg base (CXE P w) 1 T.f__law_low.a T.f__law_low.fd ["_law_top","_law_bottom"] (sTw K 2 (wA fu)):=
 T.f__law_low.F.okE wx (fun vs H Q E h=>h.1) (fun cdv A outer s H vs Q E hr h=>⟨_,((wx^^^(2,Or.inl rfl,zr Uw rfl T.n_abs boot_abs (pv 0\zf)))<|>(wx^^^(3,Or.inl rfl,pv 1))<|>Us PassesOwn.leaving (yJ (zeD (pv 3) zg)) ((wx^^^(4,Or.inl rfl,zk xV (pv 2) (pv 3)))<|>(wx^^^(2,Or.inl rfl,pv 3))<|>¬(wx^^^(3,Or.inl rfl,pv 4)))<|>¬(!(~~~(zk Yb (pv 0) (pv 2)\(zk Yb (pv 1) (pv 2)\zf))))),yu (n:=2) (k:=3) (b:=ZH fu) rfl (by unfold ZH;walk_at "re") h⟩)
noncomputable def vw (fu:Nat):TwS:=(zu (zJ (zI (zq fu) [(za 0),(eC (.int 4))]) (gN 1)) (zu (sIf (bE (eOp Tq (za 1) (eC (.int 1)))) (zu (zJ (eOp vA (eOp zcQ (zI (zq fu) [(za 0),(eOp zcQ (eOp zgY (eC (.int 2)) (eOp zcR (eC (.int 10)) (eC (.int 60)))) (eC (.int 1)))]) (eOp zcR (eC (.int 10)) (eC (.int 60)))) (eC (.int 1))) (gN 2)) (yk (zI (wA fu) [(za 2),(eOp vA (eC (.int 1)) (zI (zq fu) [(za 0),(eOp zcQ (eOp zcR (eC (.int 10)) (eC (.int 60))) (eC (.int 1)))]))]))) yZ) (zu (sIf (bE (eOp Tq (za 1) (eC (.int 2)))) (yk (zI (wA fu) [(eOp zcQ (zI (zq fu) [(za 0),(eC (.int 21))]) (eC (.int 10))),(eOp vA (eC (.int 1)) (zI (zq fu) [(za 0),(eC (.int 10))]))])) yZ) (yk (XJ [(eOp zcQ (zI (zq fu) [(za 0),(eC (.int 3))]) (eOp Ww (za 1) (eC (.int 3)))),(eC (.int 1))])))))
noncomputable def ZT (fu:Nat):TwF:=zT 1 2 (vw fu)
theorem Tz (T:Tx K mg):yj P w K mg base (CXE P w) 2 T.f__law_ratio.a T.f__law_ratio.fd ["_law_left"] (sTw K 1 (ZT fu)):=
 T.f__law_ratio.F.okE ZO (fun vs H Q E h=>h.1) (fun cdv A outer s H vs Q E hr h=>⟨_,((ZO^^^(1,Or.inl rfl,T.f__law_take\(zy (fu:=fu) T,hr.mono (by decide),zF,pv 0\(zg\zf))))<|>yT (yJ (YZ (pv 1) zg)) ((ZO^^^(2,Or.inl rfl,zk yX (zk Uu (T.f__law_take\(zy (fu:=fu) T,hr.mono (by decide),zF,pv 0\(zk Uu (zk zik zg (zk zaw zg zg)) zg\zf))) (zk zaw zg zg)) zg))<|>¬(!(T.f__law_low\(ZI (fu:=fu) T,hr.mono (by decide),zF,pv 2\(zk yX zg (T.f__law_take\(zy (fu:=fu) T,hr.mono (by decide),zF,pv 0\(zk Uu (zk zaw zg zg) zg\zf)))\zf))))) zU<|>yT (yJ (YZ (pv 1) zg)) (¬(!(T.f__law_low\(ZI (fu:=fu) T,hr.mono (by decide),zF,zk Uu (T.f__law_take\(zy (fu:=fu) T,hr.mono (by decide),zF,pv 0\(zg\zf))) zg\(zk yX zg (T.f__law_take\(zy (fu:=fu) T,hr.mono (by decide),zF,pv 0\(zg\zf)))\zf))))) zU<|>¬(!(~~~(zk Uu (T.f__law_take\(zy (fu:=fu) T,hr.mono (by decide),zF,pv 0\(zg\zf))) (zk VR (pv 1) zg)\(zg\zf))))),yu (n:=1) (k:=2) (b:=vw fu) rfl (by unfold vw;walk_at "re") h⟩)
noncomputable def xR (fu:Nat) (r__law_same:TwF):TwS:=(zu (sIf (bE (eUn (Wy "tuple") (za 1))) (zu (sIf (bOr (Tp (bE (eUn (Wy "tuple") (za 0)))) (bE (eOp zbQ (eFn vV [(za 0)]) (eFn vV [(za 1)])))) (yk (eC (.bl false))) yZ) (yk (eFn Tr [(xy [none,some 0,some 1] (iR1 (eFn vV [(za 1)])) (gN 0) xm (zI r__law_same [(eOp zcO (za 1) (za 0)),(eOp zcO (za 2) (za 0))]))]))) yZ) (zu (sIf (bE (eUn (Wy "list") (za 1))) (zu (sIf (bOr (Tp (bE (eUn (Wy "list") (za 0)))) (bE (eOp zbQ (eFn vV [(za 0)]) (eFn vV [(za 1)])))) (yk (eC (.bl false))) yZ) (yk (eFn Tr [(xy [none,some 0,some 1] (iR1 (eFn vV [(za 1)])) (gN 0) xm (zI r__law_same [(eOp zcO (za 1) (za 0)),(eOp zcO (za 2) (za 0))]))]))) yZ) (zu (sIf (bE (eUn zcN (za 1))) (yk (eUn zcN (za 0))) yZ) (zu (sIf (bE (eUn (Wy "str") (za 1))) (yk (zeg (eUn (Wy "str") (za 0)) (eOp (XL false) (za 0) (za 1)))) yZ) (yk (zeg (eUn (Wy "int") (za 0)) (zeg (eB (Tp (bE (eUn (Wy "bool") (za 0))))) (eOp (XL false) (za 0) (za 1)))))))))
noncomputable def yA (fu:Nat):Nat→TwF
 |0=>fun _ _=>none
 |n+1=>zT 2 0 (xR fu (yA fu n))
theorem wS (fu n:Nat):yA fu (n+1)=zT 2 0 (xR fu (yA fu n)):=by rfl
theorem WT (fu:Nat):yA fu 0=fun _ _=>none:=by rfl
theorem TB (T:Tx K mg):∀n:Nat,yj P w K mg base (CXE P w) (0+n) T.f__law_same.a T.f__law_same.fd ["_law_found","_law_due"] (sTw K 2 (yA fu n)):=by
 intro n
 induction n with
 |zero=>
  skip
  ·rw [WT]
   exact VX
 |succ n ih=>
  ·rw [wS]
   exact T.f__law_same.F.okE zbb (fun vs H Q E h=>h.1) (fun cdv A outer s H vs Q E hr h=>⟨_,(yT (Zf (zr (xp (K:=K)) rfl T.n_isinstance boot_isinstance (zE (pv 1) (zE (vn (v:= .ty "tuple") rfl T.n_tuple boot_tuple rfl) zf)))) (yT (PW.pt (zhG (Ur (Zf (zr (xp (K:=K)) rfl T.n_isinstance boot_isinstance (zE (pv 0) (zE (vn (v:= .ty "tuple") rfl T.n_tuple boot_tuple rfl) zf))))) (zeE (yJ (Uq (zr (yi (K:=K)) rfl T.n_len boot_len (pv 0\zf)) (zr (yi (K:=K)) rfl T.n_len boot_len (pv 1\zf))))))) (¬(!TJ)) zU<|>¬(!zr (Yc (K:=K) rfl) rfl T.n_all PyProof.Rows.Boot.«all» (zE (xu (N':=["_law_k","_law_found","_law_due"]) rfl (blk (osc:=zh vC) rfl (by decide+kernel)) (yW (zG (i:=0) rfl rfl (zG (i:=1) rfl rfl yV))) (yt rfl T.n_range (zr (yi (K:=K)) rfl T.n_len boot_len (pv 1\zf)\zf)) (yb rfl) (fun C s₀ H₀ fp=>zV (i:=0) (show (["_law_k","_law_found","_law_due"]:List Str).Nodup from by decide+kernel) rfl (Or.inl rfl)) (fun C s₀ H₀ fp=>yU) (fun C s₀ H₀ fp=>(T.f__law_same\(ih,hr.mono (by walk_at "q2"),wC,(Uf (K:=K)%(pv 1,pv 0))\((Uf (K:=K)%(pv 2,pv 0))\zf))))) zf))) zU<|>yT (Zf (zr (xp (K:=K)) rfl T.n_isinstance boot_isinstance (zE (pv 1) (zE (vn (v:= .ty "list") rfl T.n_list boot_list rfl) zf)))) (yT (PW.pt (zhG (Ur (Zf (zr (xp (K:=K)) rfl T.n_isinstance boot_isinstance (zE (pv 0) (zE (vn (v:= .ty "list") rfl T.n_list boot_list rfl) zf))))) (zeE (yJ (Uq (zr (yi (K:=K)) rfl T.n_len boot_len (pv 0\zf)) (zr (yi (K:=K)) rfl T.n_len boot_len (pv 1\zf))))))) (¬(!TJ)) zU<|>¬(!zr (Yc (K:=K) rfl) rfl T.n_all PyProof.Rows.Boot.«all» (zE (xu (N':=["_law_k","_law_found","_law_due"]) rfl (blk (osc:=zh vC) rfl (by decide+kernel)) (yW (zG (i:=0) rfl rfl (zG (i:=1) rfl rfl yV))) (yt rfl T.n_range (zr (yi (K:=K)) rfl T.n_len boot_len (pv 1\zf)\zf)) (yb rfl) (fun C s₀ H₀ fp=>zV (i:=0) (show (["_law_k","_law_found","_law_due"]:List Str).Nodup from by decide+kernel) rfl (Or.inl rfl)) (fun C s₀ H₀ fp=>yU) (fun C s₀ H₀ fp=>(T.f__law_same\(ih,hr.mono (by walk_at "q2"),wC,(Uf (K:=K)%(pv 1,pv 0))\((Uf (K:=K)%(pv 2,pv 0))\zf))))) zf))) zU<|>yT (yJ (zcv (pv 1))) (¬(!zcw (zcv (pv 0)))) zU<|>yT (Zf (zr (xp (K:=K)) rfl T.n_isinstance boot_isinstance (zE (pv 1) (zE (vn (v:= .ty "str") rfl T.n_str boot_str rfl) zf)))) (¬(!zav (zr (xp (K:=K)) rfl T.n_isinstance boot_isinstance (zE (pv 0) (zE (vn (v:= .ty "str") rfl T.n_str boot_str rfl) zf))) (zcx (zax XO (pv 0) (pv 1) (by rfl))))) zU<|>¬(!zav (zr (xp (K:=K)) rfl T.n_isinstance boot_isinstance (zE (pv 0) (zE (vn (v:= .ty "int") rfl T.n_int boot_int rfl) zf))) (zav (zeG (zr (xp (K:=K)) rfl T.n_isinstance boot_isinstance (zE (pv 0) (zE (vn (v:= .ty "bool") rfl T.n_bool boot_bool rfl) zf)))) (zcx (zax XO (pv 0) (pv 1) (by rfl)))))),yu (n:=2) (k:=0) (b:=xR fu (yA fu n)) rfl (by unfold xR;walk_at "re") h⟩)
theorem zbd (T:Tx K mg) (n:Nat):yj P w K mg base (CXE P w) (0+n) T.f__law_same.a T.f__law_same.fd ["_law_found","_law_due"] (sTw K 2 (yA fu n)):=(TB T n)
noncomputable def vx (fu:Nat):TwS:=(yk (zeg (eUn (Wy "int") (za 0)) (eB (Tp (bE (eUn (Wy "bool") (za 0)))))))
noncomputable def ZU (fu:Nat):TwF:=zT 1 0 (vx fu)
theorem TC (T:Tx K mg):yj P w K mg base (CXE P w) 1 T.f__law_whole.a T.f__law_whole.fd ["_law_found"] (sTw K 1 (ZU fu)):=
 T.f__law_whole.F.okE Tu (fun vs H Q E h=>h.1) (fun cdv A outer s H vs Q E hr h=>⟨_,(¬(!zav (zr (xp (K:=K)) rfl T.n_isinstance boot_isinstance (zE (pv 0) (zE (vn (v:= .ty "int") rfl T.n_int boot_int rfl) zf))) (zcx (zeG (zr (xp (K:=K)) rfl T.n_isinstance boot_isinstance (zE (pv 0) (zE (vn (v:= .ty "bool") rfl T.n_bool boot_bool rfl) zf))))))),yu (n:=1) (k:=0) (b:=vx fu) rfl (by unfold vx;walk_at "re") h⟩)
noncomputable def wT (fu:Nat):TwS:=(zu (zJ (VI [(XJ [])]) (gN 1)) (zu (UK (iT (za 0)) (gN 2) (zu (zJ (VI []) (gN 3)) (zu (UK (iL (za 1)) (gN 4) (XU (eMt Wt (za 3) [(xy [none,some 4] (iR1 (eOp yp (za 2) (eC (.int 1)))) (gN 0) xm (eOp Vy (za 1) (XJ [(za 0)])))]))) (zJ (za 3) (gN 1))))) (yk (za 1))))
noncomputable def wU (fu:Nat):TwF:=zT 1 4 (wT fu)
theorem Xs (T:Tx K mg):yj P w K mg base (CXE P w) 1 T.f__law_states.a T.f__law_states.fd ["_law_boxes_here"] (sTw K 1 (wU fu)):=
 T.f__law_states.F.okE xc (fun vs H Q E h=>h.1) (fun cdv A outer s H vs Q E hr h=>⟨_,((xc^^^(1,Or.inl rfl,@ZK _ _ _ _ ((~~~zf)\zf)))<|>Ys PassesOwn.leaving rfl (VU (K:=K) (pv 0)) (zV (i:=2) xc.nd rfl (Or.inl rfl)) ((xc^^^(3,Or.inl rfl,@ZK _ _ _ _ zf))<|>Ys PassesOwn.leaving rfl (Zi (K:=K) (pv 1)) (zV (i:=4) xc.nd rfl (Or.inr rfl)) (¬Zw (Vv PySem.F.plainAttrs_list PySem.F.slot_list_extend PySem.F.type_list_extend (zcK (K:=K)) (pv 3) (zE (xu (N':=["_law_number","_law_state"]) rfl (blk (osc:=zh vp) rfl (by decide+kernel)) (yW (zG (i:=4) rfl rfl yV)) (yt rfl T.n_range ((zo (K:=K)%(pv 2,zg))\zf)) (yb rfl) (fun C s₀ H₀ fp=>zV (i:=0) (show (["_law_number","_law_state"]:List Str).Nodup from by decide+kernel) rfl (Or.inl rfl)) (fun C s₀ H₀ fp=>yU) (fun C s₀ H₀ fp=>(zk (zdr (K:=K)) (pv 1) (~~~(pv 0\zf))))) zf)))<|>¬(xc^^^(1,Or.inl rfl,pv 3)))<|>¬(!pv 1)),yu (n:=1) (k:=4) (b:=wT fu) rfl (by unfold wT;walk_at "re") h⟩)
noncomputable def vy (fu:Nat):TwS:=(zu (zJ (xy [none,some 0] (iR1 (eOp vA (eC (.int 2)) (zI (zq fu) [(za 0),(eC (.int 3))]))) (gN 0) xm (zI (ZT fu) [(za 1)])) (gN 2)) (zu (zJ (zI (zq fu) [(za 0),(eOp vA (eFn vV [(za 1)]) (eC (.int 1)))]) (gN 3)) (zu (zJ (zI (zq fu) [(za 0),(eC (.int 1009))]) (gN 4)) (zu (zJ (zI (zq fu) [(za 0),(eC (.int 1009))]) (gN 5)) (zu (zJ (zI (zq fu) [(za 0),(eC (.int 1009))]) (gN 6)) (zu (zJ (VI []) (gN 7)) (zu (UK (iL (zI (wU fu) [(za 1)])) (gN 8) (zu (zJ (eC (.int 0)) (gN 9)) (zu (UK (iR1 (eFn vV [(za 1)])) (gN 10) (sIf (bE (eOp zbQ (za 10) (za 3))) (zJ (eOp vA (eOp xz (za 9) (eOp yp (eOp yp (za 1) (za 10)) (eC (.int 1)))) (eOp yp (za 8) (za 10))) (gN 9)) yZ)) (zu (zJ (eOp Zl (eOp vA (eOp vA (eOp xz (eOp xz (za 4) (za 9)) (za 9)) (eOp xz (za 5) (za 9))) (za 6)) (eC (.int 1009))) (gN 11)) (XU (eMt wj (za 7) [(eOp xl (za 2) (eOp Zl (za 11) (eFn vV [(za 2)])))])))))) (yk (za 7)))))))))
noncomputable def vz (fu:Nat):TwF:=zT 2 10 (vy fu)
theorem Wd (T:Tx K mg):yj P w K mg base (CXE P w) 3 T.f__law_table.a T.f__law_table.fd ["_law_left","_law_boxes_here"] (sTw K 2 (vz fu)):=
 T.f__law_table.F.okE zS (fun vs H Q E h=>h.1) (fun cdv A outer s H vs Q E hr h=>⟨_,(Wh (i:=2) (N':=["_law_k","_law_left"]) rfl (blk (osc:=zh vZ) rfl (by decide+kernel)) (yW (zG (i:=0) rfl rfl yV)) (yt rfl T.n_range (zk yX zg (T.f__law_take\(zy (fu:=fu) T,hr.mono (by decide),zF,pv 0\(zg\zf)))\zf)) (yb rfl) (fun C s₀ H₀ fp=>zV (i:=0) (show (["_law_k","_law_left"]:List Str).Nodup from by decide+kernel) rfl (Or.inl rfl)) (fun C s₀ H₀ fp=>yU) (fun C s₀ H₀ fp=>(T.f__law_ratio\(Tz (fu:=fu) T,hr.mono (by decide),wC,pv 1\zf))) zS.nd rfl rfl<|>(zS^^^(3,Or.inl rfl,T.f__law_take\(zy (fu:=fu) T,hr.mono (by decide),zF,pv 0\(zk yX (zr (yi (K:=K)) rfl T.n_len boot_len (pv 1\zf)) zg\zf))))<|>(zS^^^(4,Or.inl rfl,T.f__law_take\(zy (fu:=fu) T,hr.mono (by decide),zF,pv 0\(zg\zf))))<|>(zS^^^(5,Or.inl rfl,T.f__law_take\(zy (fu:=fu) T,hr.mono (by decide),zF,pv 0\(zg\zf))))<|>(zS^^^(6,Or.inl rfl,T.f__law_take\(zy (fu:=fu) T,hr.mono (by decide),zF,pv 0\(zg\zf))))<|>(zS^^^(7,Or.inl rfl,@ZK _ _ _ _ zf))<|>Ys PassesOwn.leaving rfl (Zi (K:=K) (T.f__law_states\(Xs (fu:=fu) T,hr.mono (by decide),zF,pv 1\zf))) (zV (i:=8) zS.nd rfl (Or.inl rfl)) ((zS^^^(9,Or.inl rfl,zg))<|>Ys PassesOwn.leaving rfl (yt rfl T.n_range (zr (yi (K:=K)) rfl T.n_len boot_len (pv 1\zf)\zf)) (zV (i:=10) zS.nd rfl (Or.inl rfl)) (¬yT (yJ (Uq (pv 10) (pv 3))) (¬(zS^^^(9,Or.inl rfl,zk yX (zk yx (pv 9) (zo (K:=K)%(zo (K:=K)%(pv 1,pv 10),zg))) (zo (K:=K)%(pv 8,pv 10))))) zU)<|>(zS^^^(11,Or.inl rfl,zk xV (zk yX (zk yX (zk yx (zk yx (pv 4) (pv 9)) (pv 9)) (zk yx (pv 5) (pv 9))) (pv 6)) zg))<|>¬Zw (Vv PySem.F.plainAttrs_list PySem.F.slot_list_append PySem.F.type_list_append ww (pv 7) ((zx (K:=K)%(pv 2,zk xV (pv 11) (zr (yi (K:=K)) rfl T.n_len boot_len (pv 2\zf))))\zf)))<|>¬(!pv 7)),yu (n:=2) (k:=10) (b:=vy fu) rfl (by unfold vy;walk_at "re") h⟩)
noncomputable def wV (fu:Nat) (r__law_node:TwF):TwS:=(zu (sIf (bE (eOp Tq (za 2) (eFn vV [(za 1)]))) (yk (yK "Store" "leaf" (vq fu) (za 0) [(eOp xl (za 3) (eC (.int 0)))])) yZ) (zu (zJ (eOp yp (eOp yp (za 1) (za 2)) (eC (.int 1))) (gN 4)) (zu (zJ (eOp YD (eFn vV [(za 3)]) (za 4)) (gN 5)) (zu (zJ (xy [none,some 0,some 1,some 2,some 3,some 5] (iR1 (za 4)) (gN 0) xm (zI r__law_node [(za 1),(za 2),(eOp vA (za 3) (eC (.int 1))),(eSl zbN (za 4) (YQ (eOp xz (za 0) (za 5))) (YQ (eOp vA (eOp xz (za 0) (za 5)) (za 5))))])) (gN 6)) (yk (yK "Store" "fork" (vr fu) (za 0) [(za 2),(za 6)]))))))
noncomputable def yB (fu:Nat):Nat→TwF
 |0=>fun _ _=>none
 |n+1=>zT 4 3 (wV fu (yB fu n))
theorem wW (fu n:Nat):yB fu (n+1)=zT 4 3 (wV fu (yB fu n)):=by rfl
theorem WU (fu:Nat):yB fu 0=fun _ _=>none:=by rfl
theorem TD (T:Tx K mg):∀n:Nat,yj P w K mg base (CXE P w) (2+n) T.f__law_node.a T.f__law_node.fd ["_law_store","_law_boxes_here","_law_level","_law_table_here"] (sTw K 4 (yB fu n)):=by
 intro n
 induction n with
 |zero=>
  skip
  ·rw [WU]
   exact VX
 |succ n ih=>
  ·rw [wW]
   exact T.f__law_node.F.okE Zb (fun vs H Q E h=>h.1) (fun cdv A outer s H vs Q E hr h=>⟨_,(yT (yJ (YZ (pv 2) (zr (yi (K:=K)) rfl T.n_len boot_len (pv 1\zf)))) (¬(!ye (pv 0) T.cl_Store T.f_Store_leaf.mt (Wb (fu:=fu) T) (hr.mono (by walk_at "q2")) T.f_Store_leaf.b .nil zF ((zx (K:=K)%(pv 3,zg))\zf))) zU<|>(Zb^^^(4,Or.inl rfl,zo (K:=K)%(zo (K:=K)%(pv 1,pv 2),zg)))<|>(Zb^^^(5,Or.inr rfl,zk Yb (zr (yi (K:=K)) rfl T.n_len boot_len (pv 3\zf)) (pv 4)))<|>Wh (i:=6) (N':=["_law_k","_law_store","_law_boxes_here","_law_level","_law_table_here","_law_part"]) rfl (blk (osc:=zh ZE) rfl (by decide+kernel)) (yW (zG (i:=0) rfl rfl (zG (i:=1) rfl rfl (zG (i:=2) rfl rfl (zG (i:=3) rfl rfl (zG (i:=5) rfl rfl yV)))))) (yt rfl T.n_range (pv 4\zf)) (yb rfl) (fun C s₀ H₀ fp=>zV (i:=0) (show (["_law_k","_law_store","_law_boxes_here","_law_level","_law_table_here","_law_part"]:List Str).Nodup from by decide+kernel) rfl (Or.inl rfl)) (fun C s₀ H₀ fp=>yU) (fun C s₀ H₀ fp=>(T.f__law_node\(ih,hr.mono (by walk_at "q2"),wC,pv 1\(pv 2\(zk yX (pv 3) zg\(Xc (zbG (K:=K)) (pv 4) (Yv (zk yx (pv 0) (pv 5))) (Yv (zk yX (zk yx (pv 0) (pv 5)) (pv 5)))\zf)))))) Zb.nd rfl rfl<|>¬(!ye (pv 0) T.cl_Store T.f_Store_fork.mt (Wc (fu:=fu) T) (hr.mono (by walk_at "q2")) T.f_Store_fork.b .nil zF (pv 2\(pv 6\zf)))),yu (n:=4) (k:=3) (b:=wV fu (yB fu n)) rfl (zL (YR (Vh (zaQ (zb 2) (Yd Wl (ze (zb 1) zj)))) (ym (yh T.ns_Store (zb 0) (ze (zD zZ (zb 3) (zK _)) zj))) wk) (zL (yP (zD xC (zD xC (zb 1) (zb 2)) (zK _)) zH) (zL (yP (zD UN (Yd Wl (ze (zb 3) zj)) (zb 4)) zH) (zL (Wj (wF (cap:=[none,some 0,some 1,some 2,some 3,some 5]) (Ze (zb 4)) zH wE (yo (ze (zb 1) (ze (zb 2) (ze (zD UM (zb 3) (zK _)) (ze (zfj (zb 4) (VW (zD VY (zb 0) (zb 5))) (VW (zD UM (zD VY (zb 0) (zb 5)) (zb 5)))) zj))))))) (ym (yh T.ns_Store (zb 0) (ze (zb 2) (ze (zb 6) zj)))))))) h⟩)
theorem zbe (T:Tx K mg) (n:Nat):yj P w K mg base (CXE P w) (2+n) T.f__law_node.a T.f__law_node.fd ["_law_store","_law_boxes_here","_law_level","_law_table_here"] (sTw K 4 (yB fu n)):=(TD T n)
noncomputable def ZV (fu:Nat):TwS:=(zu (sIf (Tp (bE (zI (ZU fu) [(za 2)]))) (yk (eC (.bl false))) yZ) (zu (zJ (zI (wU fu) [(za 1)]) (gN 4)) (yk (eFn Tr [(xy [none,some 2,some 3,some 0,some 4] (iR1 (eFn vV [(za 4)])) (gN 0) xm (zI (yA fu 10) [(yK "Store" "value_at" (wQ fu) (za 3) [(za 1),(eOp xl (za 4) (za 0))]),(eOp xl (za 2) (za 0))]))]))))
noncomputable def xq (fu:Nat):TwF:=zT 4 1 (ZV fu)
theorem ZW (T:Tx K mg):yj P w K mg base (CXE P w) 11 T.f__law_tells.a T.f__law_tells.fd ["_law_store","_law_boxes_here","_law_node_here","_law_table_here"] (sTw K 4 (xq fu)):=
 T.f__law_tells.F.okE Wa (fun vs H Q E h=>h.1) (fun cdv A outer s H vs Q E hr h=>⟨_,(yT (Ur (Zf (T.f__law_whole\(TC (fu:=fu) T,hr.mono (by decide),zF,pv 2\zf)))) (¬(!TJ)) zU<|>(Wa^^^(4,Or.inr rfl,T.f__law_states\(Xs (fu:=fu) T,hr.mono (by decide),zF,pv 1\zf)))<|>¬(!zr (Yc (K:=K) rfl) rfl T.n_all PyProof.Rows.Boot.«all» (zE (xu (N':=["_law_k","_law_node_here","_law_table_here","_law_store","_law_states_here"]) rfl (blk (osc:=zh Za) rfl (by decide+kernel)) (yW (zG (i:=2) rfl rfl (zG (i:=3) rfl rfl (zG (i:=0) rfl rfl (zG (i:=4) rfl rfl yV))))) (yt rfl T.n_range (zr (yi (K:=K)) rfl T.n_len boot_len (pv 4\zf)\zf)) (yb rfl) (fun C s₀ H₀ fp=>zV (i:=0) (show (["_law_k","_law_node_here","_law_table_here","_law_store","_law_states_here"]:List Str).Nodup from by decide+kernel) rfl (Or.inl rfl)) (fun C s₀ H₀ fp=>yU) (fun C s₀ H₀ fp=>(T.f__law_same\(zbd (fu:=fu) T 10,hr.mono (by decide),wC,ye (pv 3) T.cl_Store T.f_Store_value_at.mt (WQ (fu:=fu) T) (hr.mono (by decide)) T.f_Store_value_at.b .nil wC (pv 1\((zx (K:=K)%(pv 4,pv 0))\zf))\((zx (K:=K)%(pv 2,pv 0))\zf))))) zf))),yu (n:=4) (k:=1) (b:=ZV fu) rfl (zL (YR (zaL (Vh (yo (ze (zb 2) zj)))) (ym (zbK _)) wk) (zL (yP (yo (ze (zb 1) zj)) zH) (ym (Yd UP (ze (wF (cap:=[none,some 2,some 3,some 0,some 4]) (Ze (Yd Wl (ze (zb 4) zj))) zH wE (yo (ze (yh T.ns_Store (zb 3) (ze (zb 1) (ze (zD zZ (zb 4) (zb 0)) zj))) (ze (zD zZ (zb 2) (zb 0)) zj)))) zj))))) h⟩)
noncomputable def wX (fu:Nat):TwS:=(zu (zJ (VI []) (gN 3)) (zu (UK (iR1 (eFn vV [(za 1)])) (gN 4) (zu (zJ (eOp xl (za 1) (za 4)) (gN 5)) (zu (zJ (eOp xl (za 2) (za 4)) (gN 6)) (sIf (bE (eOp (XL false) (za 0) (eC (.str "sum")))) (XU (eMt wj (za 3) [(zI (wA fu) [(eOp vA (eOp xz (eOp yp (za 5) (eC (.int 0))) (eOp yp (za 6) (eC (.int 1)))) (eOp xz (eOp yp (za 6) (eC (.int 0))) (eOp yp (za 5) (eC (.int 1))))),(eOp xz (eOp yp (za 5) (eC (.int 1))) (eOp yp (za 6) (eC (.int 1))))])])) (sIf (bE (eOp (XL false) (za 0) (eC (.str "product")))) (XU (eMt wj (za 3) [(zI (wA fu) [(eOp xz (eOp yp (za 5) (eC (.int 0))) (eOp yp (za 6) (eC (.int 0)))),(eOp xz (eOp yp (za 5) (eC (.int 1))) (eOp yp (za 6) (eC (.int 1))))])])) (sIf (bE (eOp dLt (eOp xz (eOp yp (za 5) (eC (.int 0))) (eOp yp (za 6) (eC (.int 1)))) (eOp xz (eOp yp (za 6) (eC (.int 0))) (eOp yp (za 5) (eC (.int 1)))))) (XU (eMt wj (za 3) [(za 6)])) (XU (eMt wj (za 3) [(za 5)])))))))) (yk (za 3))))
noncomputable def xK (fu:Nat):TwF:=zT 3 4 (wX fu)
theorem Xt (T:Tx K mg):yj P w K mg base (CXE P w) 2 T.f__law_joined.a T.f__law_joined.fd ["_law_word_here","_law_one","_law_other"] (sTw K 3 (xK fu)):=
 T.f__law_joined.F.okE xF (fun vs H Q E h=>h.1) (fun cdv A outer s H vs Q E hr h=>⟨_,((xF^^^(3,Or.inl rfl,@ZK _ _ _ _ zf))<|>Ys PassesOwn.leaving rfl (yt rfl T.n_range (zr (yi (K:=K)) rfl T.n_len boot_len (pv 1\zf)\zf)) (zV (i:=4) xF.nd rfl (Or.inl rfl)) ((xF^^^(5,Or.inl rfl,zx (K:=K)%(pv 1,pv 4)))<|>(xF^^^(6,Or.inl rfl,zx (K:=K)%(pv 2,pv 4)))<|>¬yT (Yt XO (pv 0) yl (by rfl)) (¬Zw (Vv PySem.F.plainAttrs_list PySem.F.slot_list_append PySem.F.type_list_append ww (pv 3) ((T.f__law_low\(ZI (fu:=fu) T,hr.mono (by decide),zF,zk yX (zk yx (zo (K:=K)%(pv 5,zg)) (zo (K:=K)%(pv 6,zg))) (zk yx (zo (K:=K)%(pv 6,zg)) (zo (K:=K)%(pv 5,zg)))\(zk yx (zo (K:=K)%(pv 5,zg)) (zo (K:=K)%(pv 6,zg))\zf)))\zf))) (¬yT (Yt XO (pv 0) yl (by rfl)) (¬Zw (Vv PySem.F.plainAttrs_list PySem.F.slot_list_append PySem.F.type_list_append ww (pv 3) ((T.f__law_low\(ZI (fu:=fu) T,hr.mono (by decide),zF,zk yx (zo (K:=K)%(pv 5,zg)) (zo (K:=K)%(pv 6,zg))\(zk yx (zo (K:=K)%(pv 5,zg)) (zo (K:=K)%(pv 6,zg))\zf)))\zf))) (¬yT (yJ (zbr (zk yx (zo (K:=K)%(pv 5,zg)) (zo (K:=K)%(pv 6,zg))) (zk yx (zo (K:=K)%(pv 6,zg)) (zo (K:=K)%(pv 5,zg))))) (¬Zw (Vv PySem.F.plainAttrs_list PySem.F.slot_list_append PySem.F.type_list_append ww (pv 3) (pv 6\zf))) (¬Zw (Vv PySem.F.plainAttrs_list PySem.F.slot_list_append PySem.F.type_list_append ww (pv 3) (pv 5\zf))))))<|>¬(!pv 3)),yu (n:=3) (k:=4) (b:=wX fu) rfl (by unfold wX;walk_at "re") h⟩)
noncomputable def xL (fu:Nat):TwS:=(zu (sIf (bE (eOp (XL false) (za 1) (eC (.str "sum")))) (yk (yK "Store" "added" (Xr fu) (za 0) [(za 2),(za 3)])) yZ) (zu (sIf (bE (eOp (XL false) (za 1) (eC (.str "product")))) (yk (yK "Store" "multiplied" (vU fu) (za 0) [(za 2),(za 3)])) yZ) (yk (yK "Store" "higher" (YU fu) (za 0) [(za 2),(za 3)]))))
noncomputable def yc (fu:Nat):TwF:=zT 4 0 (xL fu)
theorem xM (T:Tx K mg):yj P w K mg base (CXE P w) 33 T.f__law_put_together.a T.f__law_put_together.fd ["_law_store","_law_word_here","_law_one","_law_other"] (sTw K 4 (yc fu)):=
 T.f__law_put_together.F.okE Xn (fun vs H Q E h=>h.1) (fun cdv A outer s H vs Q E hr h=>⟨_,(yT (Yt XO (pv 1) yl (by rfl)) (¬(!ye (pv 0) T.cl_Store T.f_Store_added.mt (UZ (fu:=fu) T) (hr.mono (by decide)) T.f_Store_added.b .nil zF (pv 2\(pv 3\zf)))) zU<|>yT (Yt XO (pv 1) yl (by rfl)) (¬(!ye (pv 0) T.cl_Store T.f_Store_multiplied.mt (XN (fu:=fu) T) (hr.mono (by decide)) T.f_Store_multiplied.b .nil zF (pv 2\(pv 3\zf)))) zU<|>¬(!ye (pv 0) T.cl_Store T.f_Store_higher.mt (VP (fu:=fu) T) (hr.mono (by decide)) T.f_Store_higher.b .nil zF (pv 2\(pv 3\zf)))),yu (n:=4) (k:=0) (b:=xL fu) rfl (zL (YR (Xw (zD Xg (zb 1) (vH _))) (ym (yh T.ns_Store (zb 0) (ze (zb 2) (ze (zb 3) zj)))) wk) (zL (YR (Xw (zD Xg (zb 1) (vH _))) (ym (yh T.ns_Store (zb 0) (ze (zb 2) (ze (zb 3) zj)))) wk) (ym (yh T.ns_Store (zb 0) (ze (zb 2) (ze (zb 3) zj)))))) h⟩)
noncomputable def zc8 (fu:Nat):TwS:=(zu (zJ (eUn Xh (eSl zbN (za 0) oNo (YQ (eC (.int 200))))) (gN 1)) (zu (zJ (eOp xl (VI [(eC (.int 24)),(eC (.int 24)),(eC (.int 24)),(eC (.int 90))]) (zI (zq fu) [(za 1),(eC (.int 4))])) (gN 2)) (zu (zJ (zI (zq fu) [(za 1),(eC (.int 3))]) (gN 3)) (zu (zJ (zI (ZS fu) [(za 1),(za 2)]) (gN 4)) (zu (zJ (VI [(zI (vz fu) [(za 1),(za 4)]),(zI (vz fu) [(za 1),(za 4)])]) (gN 5)) (zu (zJ (zcY "Store" (wN fu) [(za 4)]) (gN 6)) (zu (zJ (xy [none,some 6,some 4] (iL (za 5)) (gN 0) xm (zI (yB fu 12) [(za 1),(za 2),(eC (.int 0)),(za 0)])) (gN 7)) (zu (UK (iR1 (eC (.int 3))) (gN 8) (zu (zJ (eOp xl (VI [(eC (.str "sum")),(eC (.str "product")),(eC (.str "greater"))]) (eOp Zl (eOp vA (za 3) (za 8)) (eC (.int 3)))) (gN 9)) (zu (zJ (zI (yc fu) [(za 6),(za 9),(eOp xl (za 7) (eC (.int 0))),(eOp xl (za 7) (eC (.int 1)))]) (gN 10)) (zu (sIf (Tp (bE (zI (xq fu) [(za 6),(za 4),(za 10),(zI (xK fu) [(za 9),(eOp xl (za 5) (eC (.int 0))),(eOp xl (za 5) (eC (.int 1)))])]))) (yk (eC (.bl false))) yZ) (zu (sIf (bE (eOp zbQ (zI (yc fu) [(za 6),(za 9),(eOp xl (za 7) (eC (.int 1))),(eOp xl (za 7) (eC (.int 0)))]) (za 10))) (yk (eC (.bl false))) yZ) (zu (zJ (zI (yc fu) [(za 6),(za 9),(eOp xl (za 7) (eOp Zl (za 8) (eC (.int 2)))),(eOp xl (za 7) (eOp Zl (za 8) (eC (.int 2))))]) (gN 10)) (sIf (Tp (bE (zI (xq fu) [(za 6),(za 4),(za 10),(zI (xK fu) [(za 9),(eOp xl (za 5) (eOp Zl (za 8) (eC (.int 2)))),(eOp xl (za 5) (eOp Zl (za 8) (eC (.int 2))))])]))) (yk (eC (.bl false))) yZ))))))) (yk (eFn Tr [(xy [none,some 6,some 4,some 7,some 5] (iR1 (eC (.int 2))) (gN 0) xm (zI (xq fu) [(za 1),(za 2),(eOp xl (za 3) (za 0)),(eOp xl (za 4) (za 0))]))]))))))))))
noncomputable def zc9 (fu:Nat):TwF:=zT 1 10 (zc8 fu)
theorem zhg (T:Tx K mg):yj P w K mg base (CXE P w) 34 T.f_law.a T.f_law.fd ["_law_script"] (sTw K 1 (zc9 fu)):=
 T.f_law.F.okE vL (fun vs H Q E h=>h.1) (fun cdv A outer s H vs Q E hr h=>⟨_,((vL^^^(1,Or.inl rfl,zcM (K:=K) rfl rfl T.n_list rfl T.n_reversed (Xc (zbG (K:=K)) (pv 0) zaz (Yv zg))))<|>(vL^^^(2,Or.inl rfl,zx (K:=K)%(@ZK _ _ _ _ (zg\(zg\(zg\(zg\zf)))),T.f__law_take\(zy (fu:=fu) T,hr.mono (by decide),zF,pv 1\(zg\zf)))))<|>(vL^^^(3,Or.inl rfl,T.f__law_take\(zy (fu:=fu) T,hr.mono (by decide),zF,pv 1\(zg\zf))))<|>(vL^^^(4,Or.inr rfl,T.f__law_boxes\(Tw (fu:=fu) T,hr.mono (by decide),zF,pv 1\(pv 2\zf))))<|>(vL^^^(5,Or.inr rfl,@ZK _ _ _ _ ((T.f__law_table\(Wd (fu:=fu) T,hr.mono (by decide),zF,pv 1\(pv 4\zf)))\((T.f__law_table\(Wd (fu:=fu) T,hr.mono (by decide),zF,pv 1\(pv 4\zf)))\zf))))<|>(vL^^^(6,Or.inr rfl,zgD T.mk_Store (WP (fu:=fu) T) (hr.mono (by decide)) rfl T.m_Store T.f_Store___init__.b .nil zF (pv 4\zf)))<|>(vL^^^(7,Or.inr rfl,xu (N':=["_law_table_here","_law_store","_law_boxes_here"]) rfl (blk (osc:=zh zce) rfl (by decide+kernel)) (yW (zG (i:=6) rfl rfl (zG (i:=4) rfl rfl yV))) (Zi (K:=K) (pv 5)) (yb rfl) (fun C s₀ H₀ fp=>zV (i:=0) (show (["_law_table_here","_law_store","_law_boxes_here"]:List Str).Nodup from by decide+kernel) rfl (Or.inl rfl)) (fun C s₀ H₀ fp=>yU) (fun C s₀ H₀ fp=>(T.f__law_node\(zbe (fu:=fu) T 12,hr.mono (by decide),wC,pv 1\(pv 2\(zg\(pv 0\zf))))))))<|>Ys PassesOwn.leaving rfl (yt rfl T.n_range (zg\zf)) (zV (i:=8) vL.nd rfl (Or.inl rfl)) ((vL^^^(9,Or.inl rfl,zx (K:=K)%(@ZK _ _ _ _ (yl\(yl\(yl\zf))),zk xV (zk yX (pv 3) (pv 8)) zg)))<|>(vL^^^(10,Or.inl rfl,T.f__law_put_together\(xM (fu:=fu) T,hr.mono (by decide),zF,pv 6\(pv 9\((zx (K:=K)%(pv 7,zg))\((zx (K:=K)%(pv 7,zg))\zf))))))<|>yT (Ur (Zf (T.f__law_tells\(ZW (fu:=fu) T,hr.mono (by decide),zF,pv 6\(pv 4\(pv 10\((T.f__law_joined\(Xt (fu:=fu) T,hr.mono (by decide),zF,pv 9\((zx (K:=K)%(pv 5,zg))\((zx (K:=K)%(pv 5,zg))\zf))))\zf))))))) (¬(!TJ)) zU<|>yT (yJ (Uq (T.f__law_put_together\(xM (fu:=fu) T,hr.mono (by decide),zF,pv 6\(pv 9\((zx (K:=K)%(pv 7,zg))\((zx (K:=K)%(pv 7,zg))\zf))))) (pv 10))) (¬(!TJ)) zU<|>(vL^^^(10,Or.inl rfl,T.f__law_put_together\(xM (fu:=fu) T,hr.mono (by decide),zF,pv 6\(pv 9\((zx (K:=K)%(pv 7,zk xV (pv 8) zg))\((zx (K:=K)%(pv 7,zk xV (pv 8) zg))\zf))))))<|>¬yT (Ur (Zf (T.f__law_tells\(ZW (fu:=fu) T,hr.mono (by decide),zF,pv 6\(pv 4\(pv 10\((T.f__law_joined\(Xt (fu:=fu) T,hr.mono (by decide),zF,pv 9\((zx (K:=K)%(pv 5,zk xV (pv 8) zg))\((zx (K:=K)%(pv 5,zk xV (pv 8) zg))\zf))))\zf))))))) (¬(!TJ)) zU)<|>¬(!zr (Yc (K:=K) rfl) rfl T.n_all PyProof.Rows.Boot.«all» (zE (xu (N':=["_law_k","_law_store","_law_boxes_here","_law_nodes","_law_tables"]) rfl (blk (osc:=zh zce) rfl (by decide+kernel)) (yW (zG (i:=6) rfl rfl (zG (i:=4) rfl rfl (zG (i:=7) rfl rfl (zG (i:=5) rfl rfl yV))))) (yt rfl T.n_range (zg\zf)) (yb rfl) (fun C s₀ H₀ fp=>zV (i:=0) (show (["_law_k","_law_store","_law_boxes_here","_law_nodes","_law_tables"]:List Str).Nodup from by decide+kernel) rfl (Or.inl rfl)) (fun C s₀ H₀ fp=>yU) (fun C s₀ H₀ fp=>(T.f__law_tells\(ZW (fu:=fu) T,hr.mono (by decide),wC,pv 1\(pv 2\((zx (K:=K)%(pv 3,pv 0))\((zx (K:=K)%(pv 4,pv 0))\zf))))))) zf))),yu (n:=1) (k:=10) (b:=zc8 fu) rfl (zL (yP (zcS (zfj (zb 0) zhW (VW (zK _)))) zH) (zL (yP (zD zZ (Vi (ze (zK _) (ze (zK _) (ze (zK _) (ze (zK _) zj))))) (yo (ze (zb 1) (ze (zK _) zj)))) zH) (zL (yP (yo (ze (zb 1) (ze (zK _) zj))) zH) (zL (yP (yo (ze (zb 1) (ze (zb 2) zj))) zH) (zL (yP (Vi (ze (yo (ze (zb 1) (ze (zb 4) zj))) (ze (yo (ze (zb 1) (ze (zb 4) zj))) zj))) zH) (zL (yP (zfQ T.ns_Store (ze (zb 4) zj)) zH) (zL (yP (wF (cap:=[none,some 6,some 4]) (Wu (zb 5)) zH wE (yo (ze (zb 1) (ze (zb 2) (ze (zK _) (ze (zb 0) zj)))))) zH) (zL (zcP (Ze (zK _)) zH (zL (yP (zD zZ (Vi (ze (vH _) (ze (vH _) (ze (vH _) zj)))) (zD Wk (zD UM (zb 3) (zb 8)) (zK _))) zH) (zL (yP (yo (ze (zb 6) (ze (zb 9) (ze (zD zZ (zb 7) (zK _)) (ze (zD zZ (zb 7) (zK _)) zj))))) zH) (zL (YR (zaL (Vh (yo (ze (zb 6) (ze (zb 4) (ze (zb 10) (ze (yo (ze (zb 9) (ze (zD zZ (zb 5) (zK _)) (ze (zD zZ (zb 5) (zK _)) zj)))) zj))))))) (ym (zbK _)) wk) (zL (YR (Vh (zft (yo (ze (zb 6) (ze (zb 9) (ze (zD zZ (zb 7) (zK _)) (ze (zD zZ (zb 7) (zK _)) zj))))) (zb 10))) (ym (zbK _)) wk) (zL (yP (yo (ze (zb 6) (ze (zb 9) (ze (zD zZ (zb 7) (zD Wk (zb 8) (zK _))) (ze (zD zZ (zb 7) (zD Wk (zb 8) (zK _))) zj))))) zH) (YR (zaL (Vh (yo (ze (zb 6) (ze (zb 4) (ze (zb 10) (ze (yo (ze (zb 9) (ze (zD zZ (zb 5) (zD Wk (zb 8) (zK _))) (ze (zD zZ (zb 5) (zD Wk (zb 8) (zK _))) zj)))) zj))))))) (ym (zbK _)) wk))))))) (ym (Yd UP (ze (wF (cap:=[none,some 6,some 4,some 7,some 5]) (Ze (zK _)) zH wE (yo (ze (zb 1) (ze (zb 2) (ze (zD zZ (zb 3) (zb 0)) (ze (zD zZ (zb 4) (zb 0)) zj)))))) zj))))))))))) h⟩)
end

section
open Mth
noncomputable def Big (fu:Nat):Prop:=2^9000≤fu
theorem Big.le {fu:Nat} (h:Big fu):1000000≤fu:=Nat.le_trans (show 1000000≤2^20 by decide) (Nat.le_trans (Nat.pow_le_pow_right (by decide) (by decide)) h)
local macro_rules | `(tactic| walk_at "w1") => `(tactic| first
 | with_reducible apply zki | ((with_reducible apply xi); exact rfl) | with_reducible apply YE | with_reducible apply ziH | with_reducible apply yd | with_reducible apply zg2
 | with_reducible apply ya | ((with_reducible apply YF); try dsimp only [List.set]) | with_reducible apply ZC | with_reducible apply yE | with_reducible apply wx_par
 | with_reducible apply Wz | with_reducible apply zfB | with_reducible apply vQ | with_reducible apply zjG | with_reducible apply zaS
 | with_reducible apply zR | with_reducible apply zaT | with_reducible apply zfD | with_reducible apply ZB | with_reducible apply vW
 | with_reducible apply zfE | with_reducible apply zjI | with_reducible apply zfF
 | with_reducible apply ziJ | with_reducible apply ziK | with_reducible apply ox_neg | with_reducible apply zjJ | with_reducible apply ox_le | with_reducible apply zjK | with_reducible apply ox_ge | with_reducible apply ziL | with_reducible apply ziM
 | with_reducible apply ziP | with_reducible apply ox_max | with_reducible apply ox_ix0 | with_reducible apply ziQ
 | ((with_reducible apply ziO); exact ⟨by decide, by decide, by decide⟩)
 | ((with_reducible apply ziN); first | exact .inl (by decide) | exact .inr (by decide))
 | with_reducible refine Exists.intro _ (And.intro rfl ?_))
local macro_rules | `(tactic| walk_at "w") => `(tactic| repeat walk_at "w1")
local macro_rules | `(tactic| walk_at "wr") => `(tactic| (refine ziI rfl rfl ?_; dsimp only [List.map, HAppend.hAppend, Append.append, List.append, List.replicate]))
section
variable {fu:Nat} {S S' S2:Sto} {x y:Xv}
theorem wa {c:Prop} [Decidable c] {A B:Prop} (h:c→A) (g:¬c→B):(decide c=true→A)∧(decide c=false→B):=⟨fun e=>h (of_decide_eq_true e),fun e=>g (of_decide_eq_false e)⟩
noncomputable def Kp (w:Nat→Prop) (S S':Sto):Prop:=S.length≤S'.length∧∀(n:Nat) c,S[n]? =some c→¬w n→S'[n]? =some c
theorem Kp.refl (w:Nat→Prop):Kp w S S:=⟨Nat.le_refl _,fun _ _ e _=>e⟩
theorem Kp.trans {w:Nat→Prop} (a:Kp w S S') (b:Kp w S' S2):Kp w S S2:=⟨Nat.le_trans a.1 b.1,fun n c e z=>b.2 n c (a.2 n c e z) z⟩
theorem Kp.mono {w w':Nat→Prop} (a:Kp w S S') (h:∀n,w n→w' n):Kp w' S S':=⟨a.1,fun n c e z=>a.2 n c e fun q=>z (h n q)⟩
theorem Kp.pre {w:Nat→Prop} (p:S<+:S'):Kp w S S':=⟨p.length_le,fun n c e _=>by
 obtain ⟨T,rfl⟩:=p
 rw [List.getElem?_append_left (List.getElem?_eq_some_iff.1 e).1]
 exact e⟩
theorem Kp.app {w:Nat→Prop} {T:Sto} (a:Kp w S S'):Kp w S (S'++T):=a.trans (Kp.pre (List.prefix_append _ _))
theorem Kp.set {w:Nat→Prop} {n:Nat} {c:Ce} (a:Kp w S S') (h:w n∨S.length≤n):Kp w S (S'.set n c):=⟨by simpa using a.1,fun m d e z=>by
 rw [List.getElem?_set]
 have hm:=(List.getElem?_eq_some_iff.1 e).1
 rw [if_neg fun q=>by
  subst q
  rcases h with h|h
  ·exact z h
  ·omega]
 exact a.2 m d e z⟩
theorem yQ {c:Ce}:(S++[c])[S.length]? =some c:=by simp
theorem wY {n:Nat} {c c':Ce} (h:S[n]? =some c):(S.set n c')[n]? =some c':=by rw [List.getElem?_set,if_pos rfl,if_pos (List.getElem?_eq_some_iff.1 h).1]
theorem xt {n m:Nat} {c c':Ce} (h:S[m]? =some c) (q:n≠m):(S.set n c')[m]? =some c:=by rw [List.getElem?_set,if_neg q];exact h
theorem zcg {n:Nat} (h:n≤100):n<sizeLine:=Nat.lt_of_le_of_lt h (by decide)
noncomputable def yn (ln:Nat) (S:Sto):Prop:=∃ns:List Int,S[ln]? =some (.lst (ns.map Xv.int))
theorem yn.keep {w:Nat→Prop} {ln:Nat} (h:yn ln S) (k:Kp w S S') (z:¬w ln):yn ln S':=by
 obtain ⟨ns,e⟩:=h
 exact ⟨ns,k.2 _ _ e z⟩
theorem xk {ln:Nat} {many:Int} (hl:yn ln S) (hm:0<many):W (zq fu [.ref ln,.int many] S) fun v S'=>∃c,v= .int c∧0≤c∧c<many∧yn ln S'∧Kp (· =ln) S S':=by
 obtain ⟨ns,e⟩:=id hl
 walk_at "wr";unfold Zc;walk_at "w"
 refine yv ?_
 walk_at "w"
 refine Vl (zi e) ?_
 walk_at "w"
 rw [List.length_map]
 refine wa (fun h=> ?_) (fun h=> ?_)
 ·walk_at "w"
  exact ⟨by omega,hm,hl,Kp.refl _⟩
 ·walk_at "w"
  refine WA ?_
  walk_at "w"
  refine ⟨⟨_,zi e⟩,?_⟩
  walk_at "w"
  have hn:ns.length-1<ns.length:=by omega
  refine WO.of (show zfm (.ref ln) [] S = some (.int ns[ns.length - 1], S.set ln (.lst (ns.dropLast.map Xv.int))) by
   unfold zfm
   rw [XA e]
   dsimp only
   rw [List.length_map,List.getElem?_map,List.getElem?_eq_getElem hn,←List.map_dropLast]
   rfl) ?_
  walk_at "w"
  refine xX hm ?_
  refine ⟨_,rfl,Int.emod_nonneg _ (by omega),Int.emod_lt_of_pos _ hm,⟨_,wY e⟩,(Kp.refl _).set (.inl rfl)⟩
noncomputable def plX:Nat→Xv→Bool
 |_,.int _=>true
 |_,.str _=>true
 |n+1,.tup l=>decide (l.length≤100)&&l.all (plX n)
 |_,_=>false
theorem zj0 {l:List Xv} {i:Int} {z:Xv} (h:atI l i=some z):zcO (.tup l) (.int i) S=some (z,S):=by
 show (atI l i).map (fun z=>(z,S))=_
 rw [h];rfl
theorem WV:∀n:Nat,Zz (List.replicate n (Xv.bl true))=some (List.replicate n true)
 |0=>rfl
 |n+1=>by rw [List.replicate_succ,List.replicate_succ];simp [Zz,WV n]
theorem zbf {P:Xv→Sto→Prop} {l:List Xv} {bs:List Bool} (h:yf S x=some l) (h2:Zz l=some bs) (k:P (.bl (bs.all id)) S):WO (Tr [x] S) P:= .of (by unfold Tr;dsimp only;rw [h,Option.bind_some,h2];rfl) k
theorem yM {P:Xv→Sto→Prop} {a b:Str} (k:P (.bl (decide (a=b))) S):WO (XL false (.str a) (.str b) S) P:= .of (by show some (Xv.bl (false !=decide (a=b)),S)=_;rw [Bool.false_bne]) k
theorem zhh {P:Xv→Sto→Prop} {a b:Int} (k:P (.bl (decide (a=b))) S):WO (XL false (.int a) (.int b) S) P:= .of (by show some (Xv.bl (false !=decide (a=b)),S)=_;rw [Bool.false_bne]) k
theorem ziW:∀(n:Nat) {S:Sto} {x:Xv},plX n x=true→W (yA fu (n+1) [x,x] S) fun v S'=>v= .bl true∧S<+:S':=by
 have flat:∀(n:Nat) {S:Sto} {x:Xv},((∃i,x= .int i)∨∃s,x= .str s)→W (yA fu (n+1) [x,x] S) fun v S'=>v= .bl true∧S<+:S':=by
  intro n S x hx
  rw [wS]
  walk_at "wr";unfold xR
  refine ya (yv ?_)
  walk_at "w"
  refine Zn (v:=false) (by rcases hx with ⟨i,rfl⟩|⟨s,rfl⟩<;>rfl) ?_
  refine ⟨_,rfl,fun z=>(by cases z),fun _=>yd ?_⟩
  refine ya (yv ?_)
  walk_at "w"
  refine Zn (v:=false) (by rcases hx with ⟨i,rfl⟩|⟨s,rfl⟩<;>rfl) ?_
  refine ⟨_,rfl,fun z=>(by cases z),fun _=>yd ?_⟩
  refine ya (yv ?_)
  walk_at "w"
  refine WO.of (show zcN x S=some (.bl false,S) by rcases hx with ⟨i,rfl⟩|⟨s,rfl⟩<;>rfl) ?_
  refine ⟨_,rfl,fun z=>(by cases z),fun _=>yd ?_⟩
  refine ya (yv ?_)
  walk_at "w"
  rcases hx with ⟨i,rfl⟩|⟨s,rfl⟩
  ·refine Zn (v:=false) rfl ?_
   refine ⟨_,rfl,fun z=>(by cases z),fun _=>yd ?_⟩
   refine yE (Ua ?_)
   walk_at "w"
   refine Zn (v:=true) rfl ?_
   refine ⟨_,rfl,fun _=> ?_,fun z=>(by cases z)⟩
   refine Ua ?_
   walk_at "w"
   refine Zn (v:=false) rfl ?_
   refine ⟨_,rfl,_,rfl,fun _=> ?_,fun z=>(by cases z)⟩
   walk_at "w"
   refine zhh ?_
   exact ⟨by rw [decide_eq_true rfl],List.prefix_refl _⟩
  ·refine Zn (v:=true) rfl ?_
   refine ⟨_,rfl,fun _=> ?_,fun z=>(by cases z)⟩
   refine yE (Ua ?_)
   walk_at "w"
   refine Zn (v:=true) rfl ?_
   refine ⟨_,rfl,fun _=> ?_,fun z=>(by cases z)⟩
   walk_at "w"
   refine yM ?_
   exact ⟨by rw [decide_eq_true rfl],List.prefix_refl _⟩
 intro n
 induction n with
 |zero=>
  intro S x h
  refine flat 0 ?_
  cases x<;>first|exact .inl ⟨_,rfl⟩|exact .inr ⟨_,rfl⟩|(simp [plX] at h)
 |succ n ih=>
  intro S x h
  cases x with
  |int i=>exact flat _ (.inl ⟨_,rfl⟩)
  |str i=>exact flat _ (.inr ⟨_,rfl⟩)
  |tup l=>
   unfold plX at h
   rw [Bool.and_eq_true,List.all_eq_true] at h
   obtain ⟨hl,hall⟩:=h
   have hl:=of_decide_eq_true hl
   rw [wS]
   walk_at "wr";unfold xR
   refine ya (yv ?_)
   walk_at "w"
   refine Zn (v:=true) rfl ?_
   refine ⟨_,rfl,fun _=> ?_,fun z=>(by cases z)⟩
   refine ya (yv (zjH ?_))
   walk_at "w"
   refine Zn (v:=true) rfl ?_
   refine ⟨_,rfl,fun z=>(by cases z),fun _=> ?_⟩
   walk_at "w"
   refine WO.of (show vV [Xv.tup l] S=some (.int l.length,S) from rfl) ?_
   walk_at "w"
   refine WO.of (show vV [Xv.tup l] S=some (.int l.length,S) from rfl) ?_
   walk_at "w"
   refine ⟨fun z=> ?_,fun _=>yd ?_⟩
   ·simp at z
   refine yE (ZB (zR ?_))
   refine wG (vI ?_)
   walk_at "w"
   refine WO.of (show vV [Xv.tup l] S=some (.int l.length,S) from rfl) ?_
   refine ⟨_,rfl,⟨by omega,by omega⟩,_,rfl,?_⟩
   refine we (by rw [yg];exact Nat.le_of_lt (zcg (by omega))) (fun i es S2=>S<+:S2∧es=List.replicate i (.bl true)) (fun _ _ _ _ _=>rfl) ?_ ⟨List.prefix_refl _,rfl⟩ ?_
   ·rintro i w es S2 hw hel ⟨p2,rfl⟩
    obtain ⟨hi,rfl⟩:=xa hw
    have hil:i<l.length:=by omega
    have hia:atI l ((0:Int)+(i:Int))=some l[i]:=by rw [Int.zero_add];exact zcU (by omega) (by rw [Int.toNat_natCast];exact List.getElem?_eq_getElem hil)
    refine .of rfl ?_
    dsimp only [xO,List.map,List.set]
    walk_at "w"
    refine ⟨rfl,?_⟩
    walk_at "w"
    refine WO.of (zj0 hia) ?_
    walk_at "w"
    refine WO.of (zj0 hia) ?_
    walk_at "w"
    refine (ih (hall _ (List.getElem_mem hil))).imp ?_
    rintro _ S3 ⟨rfl,p3⟩
    exact ⟨p2.trans p3,by rw [List.replicate_succ']⟩
   ·rintro es S2 _ ⟨p2,rfl⟩
    walk_at "w"
    refine zbf xP (WV _) ?_
    refine ⟨by simp,p2.trans (List.prefix_append _ _)⟩
  |_=>simp [plX] at h
end
section
variable {fu:Nat} {S S' S2:Sto} {x y:Xv}
noncomputable abbrev Q2:=Int×Int
noncomputable def qv (q:Q2):Xv:= .tup [.int q.1,.int q.2]
noncomputable def ksX (ks:List Nat):List Xv:=ks.map fun (k:Nat)=> .int (k:Int)
inductive zB where
 |leaf (q:Q2)
 |fork (lv:Nat) (ks:List Nat)
noncomputable def yN:zB→Xv
 | .leaf q=> .tup [.str "leaf",qv q]
 | .fork lv ks=> .tup [.str "fork",.int (lv:Int),.tup (ksX ks)]
noncomputable def vE:zB→NK
 | .leaf q=> .tup [.str "leaf",.tup [.int q.1,.int q.2]]
 | .fork lv ks=> .tup [.str "fork",.int (lv:Int),.tup (ks.map fun (k:Nat)=> .int (k:Int))]
theorem zdJ:∀ks:List Nat,YO (ksX ks)=some (ks.map fun (k:Nat)=> .int (k:Int))
 |[]=>rfl
 |k::r=>by
  show YO (Xv.int (k:Int)::ksX r)=_
  simp [YO,YB,zdJ r]
theorem zf1:∀ks:List Nat,ZZ (ks.map fun (k:Nat)=>NK.int (k:Int))≤1
 |[]=>by simp [ZZ]
 |k::r=>by
  have:=zf1 r
  simp [ZZ,wZ]
  omega
theorem WW (f:zB):Wn (yN f)=some (vE f):=by
 cases f with
 |leaf q=>simp [Wn,yN,vE,qv,YB,YO,wZ,ZZ]
 |fork lv ks=>
  have:=zf1 ks
  simp [Wn,yN,vE,YB,YO,zdJ,wZ,ZZ]
  omega
theorem zap (f:zB):zcT (yN f)=none:=by cases f<;>rfl
theorem Ta:∀{a b:List Nat},(a.map fun (k:Nat)=>NK.int (k:Int))=(b.map fun (k:Nat)=>NK.int (k:Int))→a=b
 |[],[],_=>rfl
 |[],_::_,h=>by cases h
 |_::_,[],h=>by cases h
 |x::r,y::t,h=>by
  rw [List.map_cons,List.map_cons] at h
  injection h with h1 h2
  injection h1 with h1
  rw [Ta h2,Int.ofNat_inj.1 h1]
theorem zaq {f g:zB} (h:vE f=vE g):f=g:=by
 cases f with
 |leaf q=>
  cases g with
  |leaf p=>
   obtain ⟨a,b⟩:=q
   obtain ⟨c,d⟩:=p
   simp [vE] at h
   rw [h.1,h.2]
  |fork lv ks=>simp [vE] at h
 |fork lv ks=>
  cases g with
  |leaf p=>simp [vE] at h
  |fork lw js=>
   simp only [vE,NK.tup.injEq,List.cons.injEq,NK.int.injEq,and_true,true_and] at h
   rw [Ta h.2,Int.ofNat_inj.1 h.1]
noncomputable def Ym (i:Nat):List zB→List (NK×Xv×Xv)
 |[]=>[]
 |f::r=>(vE f,yN f,.int (i:Int))::Ym (i+1) r
noncomputable def Yn:List zB→Ce
 |[]=> .dk []
 |f::r=> .dn (Ym 0 (f::r))
theorem zch:∀(i:Nat) (fs:List zB),(Ym i fs).length=fs.length
 |_,[]=>rfl
 |i,f::r=>by simp [Ym,zch (i+1) r]
theorem zci (g:zB):∀(i:Nat) (fs:List zB),Ym i (fs++[g])=Ym i fs++[(vE g,yN g,.int ((i+fs.length:Nat):Int))]
 |_,[]=>by simp [Ym]
 |i,f::r=>by
  simp only [List.cons_append,Ym,zci g (i+1) r,List.length_cons]
  rw [show i+1+r.length=i+(r.length+1) by omega]
theorem Vr {g:zB}:∀(i:Nat) (fs:List zB),g∉fs→yw (Ym i fs) (vE g)=none
 |_,[],_=>rfl
 |i,f::r,h=>by
  have h1:¬vE f=vE g:=fun e=>h (by rw [zaq e];exact List.mem_cons_self ..)
  have:=Vr (i+1) r fun e=>h (List.mem_cons_of_mem _ e)
  unfold yw at this ⊢
  simp only [Ym]
  rw [List.find?_cons,decide_eq_false h1]
  exact this
theorem zar {g:zB}:∀(i:Nat) (fs:List zB) (j:Nat),fs.Nodup→fs[j]? =some g→yw (Ym i fs) (vE g)=some (.int ((i+j:Nat):Int))
 |_,[],_,_,h=>by cases h
 |i,f::r,0,_,h=>by
  cases h
  simp [yw,Ym]
 |i,f::r,j+1,hn,h=>by
  rw [List.getElem?_cons_succ] at h
  obtain ⟨hf,hn⟩:=List.nodup_cons.1 hn
  have h1:¬vE f=vE g:=fun e=>hf (by rw [zaq e];exact List.mem_of_getElem? h)
  have:=zar (i+1) r j hn h
  unfold yw at this ⊢
  simp only [Ym]
  rw [List.find?_cons,decide_eq_false h1,show i+(j+1)=i+1+j by omega]
  exact this
structure xg (sn fn dn:Nat) (bx:Xv) (fs:List zB) (S:Sto):Prop where
 o:S[sn]? =some (.ins "Store" [("boxes",bx),("facts",.ref fn),("numbers",.ref dn)])
 f:S[fn]? =some (.lst (fs.map yN))
 d:S[dn]? =some (Yn fs)
 nd:fs.Nodup
section
variable {sn fn dn:Nat} {bx:Xv} {fs:List zB}
theorem Tc {l:List Xv}:Yn fs≠ .lst l:=by cases fs<;>simp [Yn]
theorem zf2 {c:Str} {l:List (Str×Xv)}:Yn fs≠ .ins c l:=by cases fs<;>simp [Yn]
theorem xg.fd (h:xg sn fn dn bx fs S):fn≠dn:=fun e=>by
 have h1:=h.f
 rw [e,h.d] at h1
 exact Tc (Option.some.inj h1)
theorem xg.sf (h:xg sn fn dn bx fs S):sn≠fn:=fun e=>by
 have h1:=h.o
 rw [e,h.f] at h1
 cases h1
theorem xg.sd (h:xg sn fn dn bx fs S):sn≠dn:=fun e=>by
 have h1:=h.o
 rw [e,h.d] at h1
 exact zf2 (Option.some.inj h1)
theorem xg.keep {w:Nat→Prop} (h:xg sn fn dn bx fs S) (k:Kp w S S') (h1:¬w sn) (h2:¬w fn) (h3:¬w dn):xg sn fn dn bx fs S':=⟨k.2 _ _ h.o h1,k.2 _ _ h.f h2,k.2 _ _ h.d h3,h.nd⟩
theorem xg.pre (h:xg sn fn dn bx fs S) (p:S<+:S'):xg sn fn dn bx fs S':=h.keep (Kp.pre (w:=fun _=>False) p) id id id
theorem xg.get (h:xg sn fn dn bx fs S) (f:zB):∃o,YS S (.ref dn) (yN f)=some o∧(∀j:Nat,fs[j]? =some f→o=some (.int (j:Int)))∧(f∉fs→o=none):=by
 unfold YS
 dsimp only
 rw [h.d]
 cases fs with
 |nil=>
  unfold Yn
  dsimp only
  rw [zap,WW]
  exact ⟨none,rfl,(fun j e=>by simp at e),fun _=>rfl⟩
 |cons g r=>
  unfold Yn
  dsimp only
  rw [WW]
  refine ⟨_,rfl,fun j e=> ?_,fun e=>Vr 0 _ e⟩
  rw [zar 0 _ j h.nd e,Nat.zero_add]
theorem xg.put (h:xg sn fn dn bx fs S) (hl:fs.length<sizeLine) {f:zB} (hf:f∉fs):WC S (.ref dn) (yN f) (.int (fs.length:Int))=some (S.set dn (Yn (fs++[f]))):=by
 unfold WC
 dsimp only
 rw [h.d]
 cases fs with
 |nil=>
  unfold Yn
  dsimp only
  rw [zap,WW]
  rfl
 |cons g r=>
  unfold Yn
  dsimp only [List.cons_append]
  rw [if_pos (by rw [zch];exact hl),WW]
  dsimp only [Option.map_some]
  unfold Yf
  rw [Vr 0 _ hf,←List.cons_append,zci f 0 (g::r),Nat.zero_add]
  rfl
structure yO (sn fn dn:Nat) (bx:Xv) (fs:List zB) (m:Nat) (S:Sto) (fs':List zB) (S':Sto):Prop where
 st:xg sn fn dn bx fs' S'
 pre:fs<+:fs'
 len:fs'.length≤fs.length+m
 kp:Kp (fun n=>n=fn∨n=dn) S S'
theorem xg.grown (h:xg sn fn dn bx fs S):yO sn fn dn bx fs 0 S fs S:=⟨h,List.prefix_refl _,by omega,Kp.refl _⟩
theorem yO.trans {fs1 fs2:List zB} {m m':Nat} (a:yO sn fn dn bx fs m S fs1 S') (b:yO sn fn dn bx fs1 m' S' fs2 S2):yO sn fn dn bx fs (m+m') S fs2 S2:=⟨b.st,a.pre.trans b.pre,by have:=a.len;have:=b.len;omega,a.kp.trans b.kp⟩
theorem yO.more {fs1:List zB} {m m':Nat} (a:yO sn fn dn bx fs m S fs1 S') (h:m≤m'):yO sn fn dn bx fs m' S fs1 S':=⟨a.st,a.pre,by have:=a.len;omega,a.kp⟩
theorem yO.app {fs1:List zB} {m:Nat} (a:yO sn fn dn bx fs m S fs1 S') (p:S'<+:S2):yO sn fn dn bx fs m S fs1 S2:=⟨a.st.pre p,a.pre,a.len,a.kp.trans (Kp.pre p)⟩
theorem yO.of_pre (h:xg sn fn dn bx fs S) (p:S<+:S'):yO sn fn dn bx fs 0 S fs S':=h.grown.app p
theorem yG {α:Type} {l l':List α} {i:Nat} {a:α} (p:l<+:l') (h:l[i]? =some a):l'[i]? =some a:=by
 obtain ⟨t,rfl⟩:=p
 rw [List.getElem?_append_left (List.getElem?_eq_some_iff.1 h).1];exact h
theorem zf3 {fs:List zB} (h:fs.Nodup) {i j:Nat} {f:zB} (h1:fs[i]? =some f) (h2:fs[j]? =some f):i=j:=by
 obtain ⟨a,e1⟩:=List.getElem?_eq_some_iff.1 h1
 obtain ⟨b,e2⟩:=List.getElem?_eq_some_iff.1 h2
 exact (List.getElem_inj h).1 (e1.trans e2.symm)
noncomputable def Add (fs:List zB) (f:zB) (fs':List zB):Prop:=fs'=fs∨fs'=fs++[f]
theorem zcj (h:xg sn fn dn bx fs S) (hl:fs.length≤1000000) (f:zB):W (xj fu [.ref sn,yN f] S) fun v S'=>∃(i:Nat) (fs':List zB),v= .int (i:Int)∧fs'[i]? =some f∧Add fs f fs'∧yO sn fn dn bx fs 1 S fs' S':=by
 walk_at "wr";unfold wv
 have hz:fs.length<sizeLine:=Nat.lt_of_le_of_lt hl (by decide)
 obtain ⟨o,eo,os,on⟩:=h.get f
 refine ya (zaU (fun ρ S2=>ρ=[some (.ref sn),some (yN f)]∧∃(i:Nat) (fs':List zB),fs'[i]? =some f∧Add fs f fs'∧yO sn fn dn bx fs 1 S fs' S2) (yv ?_) ?_)
 ·refine vQ (zdC ?_)
  walk_at "w"
  refine wu ?_
  walk_at "w"
  refine ⟨_,_,_,rfl,h.o,rfl,o,eo,_,rfl,fun z=> ?_,fun z=>yd ⟨rfl,?_⟩⟩
  ·have hf:f∉fs:=fun hm=>by
    obtain ⟨j,hj⟩:=List.getElem?_of_mem hm
    rw [os j hj] at z
    cases z
   refine ya (US ?_)
   walk_at "w"
   refine wu ?_
   walk_at "w"
   refine ⟨_,_,_,rfl,h.o,rfl,?_⟩
   walk_at "w"
   refine Vl (zi h.f) ?_
   rw [List.length_map]
   refine wu ?_
   walk_at "w"
   refine ⟨_,_,_,rfl,h.o,rfl,?_⟩
   walk_at "w"
   refine ⟨_,h.put hz hf,?_⟩
   refine ZC (WA (wu ?_))
   walk_at "w"
   have ho:=xt (c':=Yn (fs++[f])) h.o h.sd.symm
   have hf2:=xt (c':=Yn (fs++[f])) h.f h.fd.symm
   refine ⟨_,_,_,rfl,ho,rfl,⟨_,zi hf2⟩,?_⟩
   walk_at "w"
   refine Xz (XA hf2) (by rw [List.length_map];exact hz) ?_
   refine ⟨rfl,fs.length,fs++[f],by simp,.inr rfl,⟨⟨xt ho h.sf.symm,?_,xt (wY h.d) h.fd,?_⟩,List.prefix_append _ _,by simp,((Kp.refl _).set (.inl (.inr rfl))).set (.inl (.inl rfl))⟩⟩
   ·rw [wY hf2,List.map_append];rfl
   ·rw [List.nodup_append]
    refine ⟨h.nd,by simp,?_⟩
    intro a ha b hb e
    rw [List.mem_singleton] at hb
    subst hb e
    exact hf ha
  ·have hm:f∈fs:=Classical.byContradiction fun hm=>by
    rw [on hm] at z
    cases z
   obtain ⟨j,hj⟩:=List.getElem?_of_mem hm
   exact ⟨j,fs,hj,.inl rfl,h.grown.more (by omega)⟩
 ·rintro _ S2 ⟨rfl,i,fs',hi,ad,g⟩
  refine yE (zb2 ?_)
  refine wu ?_
  walk_at "w"
  refine ⟨_,_,_,rfl,g.st.o,rfl,?_⟩
  walk_at "w"
  obtain ⟨o2,eo2,os2,_⟩:=g.st.get f
  refine ⟨_,by rw [eo2,os2 i hi],i,fs',rfl,hi,ad,g⟩
theorem zf4 (h:xg sn fn dn bx fs S) (hl:fs.length≤1000000) (q:Q2):W (vq fu [.ref sn,qv q] S) fun v S'=>∃(i:Nat) (fs':List zB),v= .int (i:Int)∧fs'[i]? =some (.leaf q)∧Add fs (.leaf q) fs'∧yO sn fn dn bx fs 1 S fs' S':=by
 walk_at "wr";unfold ZP
 refine yE (yz ?_)
 walk_at "w"
 refine ⟨_,_,rfl,h.o,rfl,?_⟩
 walk_at "w"
 exact zcj h hl (.leaf q)
theorem zN {l:List Xv} {i:Nat} {z:Xv} (h:l[i]? =some z):atI l (i:Int)=some z:=zcU (by omega) (by rw [Int.toNat_natCast];exact h)
theorem YM {ks:List Nat} {i k:Nat} (h:ks[i]? =some k):(ksX ks)[i]? =some (.int (k:Int)):=by unfold ksX;rw [List.getElem?_map,h];rfl
theorem vF {i:Nat} {f:zB} (h:fs[i]? =some f):(fs.map yN)[i]? =some (yN f):=by rw [List.getElem?_map,h];rfl
theorem zdK (h:xg sn fn dn bx fs S) {i lv:Nat} {ks:List Nat} (hi:fs[i]? =some (.fork lv ks)):W (zW fu [.ref sn,.int (i:Int)] S) fun v S'=>v= .int (lv:Int)∧S'=S:=by
 walk_at "wr";unfold xA
 walk_at "w"
 refine wu ?_
 walk_at "w"
 refine ⟨_,_,_,rfl,h.o,rfl,?_⟩
 walk_at "w"
 refine zP (zi h.f) (zN (vF hi)) ?_
 walk_at "w"
 refine Wm ?_
 walk_at "w"
 refine zA rfl xD ?_
 walk_at "w"
 refine yM ⟨_,rfl,fun _=> ?_,fun z=> ?_⟩
 ·walk_at "w"
  exact zA rfl xn ⟨rfl,rfl⟩
 ·exact absurd z (by decide)
theorem WX {P:Xv→Sto→Prop} {l:List Xv} (k:P (.int l.length) S):WO (vV [.tup l] S) P:= .of rfl k
theorem zf5 {bl:List Xv} (h:xg sn fn dn (.tup bl) fs S) {i:Nat} {q:Q2} (hi:fs[i]? =some (.leaf q)):W (zW fu [.ref sn,.int (i:Int)] S) fun v S'=>v= .int (bl.length:Int)∧S'=S:=by
 walk_at "wr";unfold xA
 walk_at "w"
 refine wu ?_
 walk_at "w"
 refine ⟨_,_,_,rfl,h.o,rfl,?_⟩
 walk_at "w"
 refine zP (zi h.f) (zN (vF hi)) ?_
 walk_at "w"
 refine Wm ?_
 walk_at "w"
 refine zA rfl xD ?_
 walk_at "w"
 refine yM ⟨_,rfl,fun z=>absurd z (by decide),fun _=> ?_⟩
 walk_at "w"
 refine wu ?_
 walk_at "w"
 refine ⟨_,_,_,rfl,h.o,rfl,?_⟩
 walk_at "w"
 exact WX ⟨rfl,rfl⟩
theorem zf6 (h:xg sn fn dn bx fs S) {i lv:Nat} {ks:List Nat} (hi:fs[i]? =some (.fork lv ks)):W (xf fu [.ref sn,.int (i:Int)] S) fun v S'=>v= .tup (ksX ks)∧S'=S:=by
 walk_at "wr";unfold vg
 walk_at "w"
 refine wu ?_
 walk_at "w"
 refine ⟨_,_,_,rfl,h.o,rfl,?_⟩
 walk_at "w"
 refine zP (zi h.f) (zN (vF hi)) ?_
 walk_at "w"
 refine Wm ?_
 walk_at "w"
 refine zA rfl xD ?_
 walk_at "w"
 refine yM ⟨_,rfl,fun _=> ?_,fun z=> ?_⟩
 ·walk_at "w"
  exact zA rfl (show atI [Xv.str "fork",.int (lv:Int),.tup (ksX ks)] 2=some (.tup (ksX ks)) from rfl) ⟨rfl,rfl⟩
 ·exact absurd z (by decide)
inductive VA (fs:List zB) (st:List Nat) (q:Q2):Nat→Nat→Prop
 |leaf {h n:Nat}:fs[n]? =some (.leaf q)→VA fs st q h n
 |fork {h n lv j k:Nat} {ks:List Nat}:fs[n]? =some (.fork lv ks)→st[lv]? =some j→ks[j]? =some k→VA fs st q h k→VA fs st q (h+1) n
theorem VA.mono {fs':List zB} {st:List Nat} {q:Q2} {h n:Nat} (p:fs<+:fs') (v:VA fs st q h n):VA fs' st q h n:=by
 induction v with
 |leaf e=>exact .leaf (yG p e)
 |fork e e1 e2 _ ih=>exact .fork (yG p e) e1 e2 ih
theorem VA.more {st:List Nat} {q:Q2} {h n h':Nat} (v:VA fs st q h n) (hh:h≤h'):VA fs st q h' n:=by
 induction v generalizing h' with
 |leaf e=>exact .leaf e
 | @fork h1 n1 lv j k ks e e1 e2 _ ih=>
  obtain ⟨m,rfl⟩:∃m,h'=m+1:=⟨h'-1,by omega⟩
  exact .fork e e1 e2 (ih (by omega))
theorem zda (st:List Nat) (q:Q2) (H:xg sn fn dn bx fs S):∀(h n m:Nat),VA fs st q h n→h<m→WS (VJ (bE (eOp (XL false) (eOp yp (eOp xl (Zo "Store" "facts" (za 0)) (za 1)) (eC (.int 0))) (eC (.str "fork")))) (zJ (eOp yp (yK "Store" "kids_of" (xf fu) (za 0) [(za 1)]) (eOp yp (za 2) (yK "Store" "level_of" (zW fu) (za 0) [(za 1)]))) (gN 1)) m [some (.ref sn),some (.int (n:Int)),some (.tup (ksX st))] S) (fun ρ S'=>∃n':Nat,ρ=[some (.ref sn),some (.int (n':Int)),some (.tup (ksX st))]∧S'=S∧fs[n']? =some (.leaf q)) (fun _ _=>False):=by
 intro h n m v
 induction v generalizing m with
 | @leaf h n e=>
  intro hm
  obtain ⟨m,rfl⟩:∃k,m=k+1:=⟨m-1,by omega⟩
  refine Ub ?_
  walk_at "w"
  refine wu ?_
  walk_at "w"
  refine ⟨_,_,_,rfl,H.o,rfl,?_⟩
  walk_at "w"
  refine zP (zi H.f) (zN (vF e)) ?_
  walk_at "w"
  refine zA rfl xD ?_
  walk_at "w"
  refine yM ⟨_,rfl,fun z=> ?_,fun _=>⟨_,rfl,rfl,e⟩⟩
  exact absurd z (by decide)
 | @fork h n lv j k ks e e1 e2 _ ih=>
  intro hm
  obtain ⟨m,rfl⟩:∃k,m=k+1:=⟨m-1,by omega⟩
  refine Ub ?_
  walk_at "w"
  refine wu ?_
  walk_at "w"
  refine ⟨_,_,_,rfl,H.o,rfl,?_⟩
  walk_at "w"
  refine zP (zi H.f) (zN (vF e)) ?_
  walk_at "w"
  refine zA rfl xD ?_
  walk_at "w"
  refine yM ⟨_,rfl,fun _=> ?_,fun z=>absurd z (by decide)⟩
  walk_at "w"
  refine yz ?_
  walk_at "w"
  refine ⟨_,_,rfl,H.o,rfl,?_⟩
  walk_at "w"
  refine (zf6 H e).imp ?_
  rintro _ S2 ⟨rfl,rfl⟩
  walk_at "w"
  refine yz ?_
  walk_at "w"
  refine ⟨_,_,rfl,H.o,rfl,?_⟩
  walk_at "w"
  refine (zdK H e).imp ?_
  rintro _ S2 ⟨rfl,rfl⟩
  walk_at "w"
  refine zA rfl (zN (YM e1)) ?_
  refine zA rfl (zN (YM e2)) ?_
  exact ih _ (by omega)
theorem zhi {st:List Nat} {q:Q2} {h n:Nat} (H:xg sn fn dn bx fs S) (v:VA fs st q h n) (hf:h<fu):W (wQ fu [.ref sn,.int (n:Int),.tup (ksX st)] S) fun v S'=>v=qv q∧S'=S:=by
 walk_at "wr";unfold wP
 rcases zda (fu:=fu) st q H h n fu v hf with ⟨ρ,S2,e0,n',rfl,rfl,e⟩|⟨_,_,_,z⟩
 rotate_left
 ·exact z.elim
 refine ya (zfG (.nx e0 ?_))
 walk_at "w"
 refine wu ?_
 walk_at "w"
 refine ⟨_,_,_,rfl,H.o,rfl,?_⟩
 walk_at "w"
 refine zP (zi H.f) (zN (vF e)) ?_
 walk_at "w"
 exact zA rfl xn ⟨rfl,rfl⟩
theorem zhj {i:Int}:W (ZU fu [.int i] S) fun v S'=>v= .bl true∧S'=S:=by
 walk_at "wr";unfold vx
 refine yE (Ua ?_)
 walk_at "w"
 refine Zn (v:=true) rfl ?_
 refine ⟨_,rfl,fun _=> ?_,fun z=>(by cases z)⟩
 walk_at "w"
 refine Zn (v:=false) rfl ?_
 exact ⟨_,rfl,rfl,rfl⟩
end
end
section
variable {fu:Nat} {S S' S2:Sto} {x y:Xv} {sn fn dn:Nat} {bx:Xv} {fs:List zB}
theorem zck:∀bs:List Bool,Zz (bs.map Xv.bl)=some bs
 |[]=>rfl
 |b::r=>by rw [List.map_cons];simp [Zz,zck r]
theorem zcl {P:Xv→Sto→Prop} {n:Nat} {l:List Xv} (h:S[n]? =some (.lst l)) (k:P (.tup l) S):WO (Vj [.ref n] S) P:= .of (by unfold Vj;dsimp only;rw [zi h];rfl) k
theorem Um (ks:List Nat):(ksX ks).length=ks.length:=by simp [ksX]
theorem zdL (ks:List Nat) (k:Nat):ksX (ks++[k])=ksX ks++[.int (k:Int)]:=by simp [ksX]
theorem zhk {ks:List Nat} {i:Nat} {w:Xv} (h:(ksX ks)[i]? =some w):∃k,ks[i]? =some k∧w= .int (k:Int):=by
 unfold ksX at h
 rw [List.getElem?_map] at h
 cases e:ks[i]? with
 |none=>rw [e] at h;cases h
 |some k=>rw [e] at h;cases h;exact ⟨k,rfl,rfl⟩
theorem zhl {P:Xv→Sto→Prop} {ρ:Rho} {kn k0:Nat} {ks:List Nat} {cap:List (Option Nat)} {m n:TwE} (hk:S[kn]? =some (.lst (ksX ks))) (hl:ks.length≤100) (hn:W (n ρ S) fun v S'=>v= .ref kn∧S'=S)
  (hm:∀k:Nat,W (m ((xO cap ρ).set 0 (some (.int (k:Int)))) S) fun v S'=>v= .bl (decide ((k:Int)=(k0:Int)))∧S'=S)
  (k:P (.bl (decide (∀k∈ks,k=k0))) (S++[.lst ((ks.map fun (k:Nat)=>decide ((k:Int)=(k0:Int))).map Xv.bl)])):W (eFn Tr [(xy cap (iL n) (gN 0) xm m)] ρ S) P:=by
 refine ZB (zR (wG (zae (hn.imp ?_))))
 rintro _ S1 ⟨rfl,rfl⟩
 refine ⟨_,zi hk,_,zi hk,?_⟩
 refine we (by rw [Um];exact Nat.le_of_lt (zcg hl)) (fun i es S2=>S2=S1∧es=((ks.take i).map fun (k:Nat)=>decide ((k:Int)=(k0:Int))).map Xv.bl) ?_ ?_ ⟨rfl,by simp⟩ ?_
 ·rintro i es _ _ ⟨rfl,_⟩
  exact zi hk
 ·rintro i w es _ hw hel ⟨rfl,rfl⟩
  obtain ⟨kk,e1,rfl⟩:=zhk hw
  refine .of rfl ?_
  walk_at "w"
  refine ⟨rfl,?_⟩
  refine (hm kk).imp ?_
  rintro _ _ ⟨rfl,rfl⟩
  refine ⟨rfl,?_⟩
  obtain ⟨hi,e1⟩:=List.getElem?_eq_some_iff.1 e1
  rw [List.take_succ_eq_append_getElem hi,List.map_append,List.map_append,e1]
  rfl
 ·rintro es _ _ ⟨rfl,rfl⟩
  rw [Um,List.take_length]
  walk_at "w"
  refine zbf xP (zck _) ?_
  rw [show (ks.map fun (k:Nat)=>decide ((k:Int)=(k0:Int))).all id=decide (∀k∈ks,k=k0) by
   rw [Bool.eq_iff_iff,decide_eq_true_iff,List.all_eq_true]
   constructor
   ·intro h k hk
    have:=h _ (List.mem_map.2 ⟨k,hk,rfl⟩)
    exact Int.ofNat_inj.1 (of_decide_eq_true this)
   ·intro h b hb
    obtain ⟨k,hk,rfl⟩:=List.mem_map.1 hb
    exact decide_eq_true (by rw [h k hk])]
  exact k
noncomputable def zdb (fs:List zB) (lv:Nat) (ks:List Nat) (i:Nat):Prop:=∃k0,ks[0]? =some k0∧((∀k∈ks,k=k0)∧i=k0∨(¬∀k∈ks,k=k0)∧fs[i]? =some (.fork lv ks))
theorem zf7 {lv kn k0:Nat} {ks:List Nat} (h:xg sn fn dn bx fs S) (hl:fs.length≤1000000) (hk:S[kn]? =some (.lst (ksX ks))) (h0:ks[0]? =some k0) (hkl:ks.length≤100):W (vr fu [.ref sn,.int (lv:Int),.ref kn] S) fun v S'=>∃(i:Nat) (fs':List zB),v= .int (i:Int)∧zdb fs' lv ks i∧(fs'=fs∨(¬∀k∈ks,k=k0)∧fs'=fs++[.fork lv ks])∧yO sn fn dn bx fs 1 S fs' S':=by
 walk_at "wr";unfold ZQ
 walk_at "w"
 refine zP (zi hk) (zN (i:=0) (YM h0)) ?_
 walk_at "w"
 refine yv (vQ ?_)
 refine zhl (kn:=kn) (k0:=k0) hk hkl (xi rfl ⟨rfl,rfl⟩) ?_ ?_
 ·intro k
  dsimp only [xO,List.map,List.set]
  walk_at "w"
  exact ⟨rfl,rfl⟩
 ·refine ⟨_,rfl,wa (fun hc=> ?_) (fun hc=> ?_)⟩
  ·walk_at "w"
   exact ⟨k0,fs,rfl,⟨k0,h0,.inl ⟨hc,rfl⟩⟩,.inl rfl,(yO.of_pre h (List.prefix_append _ _)).more (by omega)⟩
  ·walk_at "w"
   have h2:=h.pre (List.prefix_append S [.lst ((ks.map fun (k:Nat)=>decide ((k:Int)=(k0:Int))).map Xv.bl)])
   refine yz ?_
   walk_at "w"
   refine ⟨_,_,rfl,h2.o,rfl,?_⟩
   walk_at "w"
   refine zcl (l:=ksX ks) (yG (List.prefix_append _ _) hk) ?_
   walk_at "w"
   refine (zcj h2 hl (.fork lv ks)).imp ?_
   rintro _ S2 ⟨i,fs',rfl,e,ad,g⟩
   exact ⟨i,fs',rfl,⟨k0,h0,.inr ⟨hc,e⟩⟩,ad.imp (fun z=>z) (fun z=>⟨hc,z⟩),((yO.of_pre h (List.prefix_append _ _)).trans g).more (by omega)⟩
theorem ziX {n:Nat} (h:S[n]? =some (.ins "Store" [])) (bx:Xv):W (wN fu [.ref n,bx] S) fun v S'=>v= .non∧xg n S.length (S.length+1) bx [] S'∧Kp (· =n) S S'∧S'.length=S.length+2:=by
 have hn:=(List.getElem?_eq_some_iff.1 h).1
 walk_at "wr";unfold wM
 walk_at "w"
 refine za1 ?_
 walk_at "w"
 refine ⟨_,_,rfl,h,by decide,?_⟩
 walk_at "w"
 refine za1 ?_
 walk_at "w"
 refine ⟨_,_,rfl,yG (List.prefix_append _ _) (wY h),(show (1:Nat)<1000 by decide),?_⟩
 refine za1 ?_
 walk_at "w"
 refine ⟨_,_,rfl,yG (List.prefix_append _ _) (wY (yG (List.prefix_append _ _) (wY h))),(show (2:Nat)<1000 by decide),rfl,?_⟩
 simp only [List.length_set,List.length_append,List.length_cons,List.length_nil]
 refine ⟨⟨wY (yG (List.prefix_append _ _) (wY (yG (List.prefix_append _ _) (wY h)))),?_,?_,List.nodup_nil⟩,?_,by simp⟩
 ·refine xt (yG (List.prefix_append _ _) (xt ?_ (by omega))) (by omega)
  have:=yQ (S:=S.set n (.ins "Store" (Ts "boxes" bx []))) (c:= .lst [])
  rw [List.length_set] at this
  exact this
 ·refine xt ?_ (by omega)
  have:=yQ (S:=(List.set S n (Ce.ins "Store" (Ts "boxes" bx []))++[Ce.lst []]).set n (.ins "Store" (Ts "facts" (.ref S.length) (Ts "boxes" bx [])))) (c:= .dk [])
  simp only [List.length_set,List.length_append,List.length_cons,List.length_nil] at this
  exact this
 ·exact (((((Kp.refl (· =n)).set (.inl rfl)).app).set (.inl rfl)).app).set (.inl rfl)
end
section
noncomputable def lvl (n:Nat):zB→Nat
 | .leaf _=>n
 | .fork lv _=>lv
structure WF (ss:List Nat) (fs:List zB):Prop where
 nd:fs.Nodup
 ok:∀(i lv:Nat) ks,fs[i]? =some (.fork lv ks)→(∃s,ss[lv]? =some s∧ks.length=s)∧(∀k∈ks,k<i∧∃f,fs[k]? =some f∧lv<lvl ss.length f)∧¬∀k∈ks,∀k'∈ks,k=k'
noncomputable def vO (ss st:List Nat):Prop:=st.length=ss.length∧∀(i:Nat) x s,st[i]? =some x→ss[i]? =some s→x<s
variable {ss:List Nat} {fs fs':List zB} {st st':List Nat} {q q':Q2} {i j:Nat} {f g:zB}
theorem vO.get (h:vO ss st) {lv s:Nat} (e:ss[lv]? =some s):∃x,st[lv]? =some x∧x<s:=by
 have hl:lv<st.length:=by rw [h.1];exact (List.getElem?_eq_some_iff.1 e).1
 exact ⟨st[lv],List.getElem?_eq_getElem hl,h.2 lv _ s (List.getElem?_eq_getElem hl) e⟩
theorem vO.set (h:vO ss st) {lv s m:Nat} (e:ss[lv]? =some s) (hm:m<s):vO ss (st.set lv m):=by
 refine ⟨by rw [List.length_set];exact h.1,fun i x t e1 e2=> ?_⟩
 rw [List.getElem?_set] at e1
 split at e1
 ·rename_i q
  subst q
  split at e1
  ·cases e1;rw [e] at e2;cases e2;exact hm
  ·cases e1
 ·exact h.2 i x t e1 e2
theorem VA.uniq {h:Nat} (v:VA fs st q h i):∀{h':Nat},VA fs st q' h' i→q=q':=by
 induction v with
 |leaf e=>
  intro h' w
  cases w with
  |leaf e'=>rw [e] at e';cases e';rfl
  |fork e' _ _ _=>rw [e] at e';cases e'
 |fork e e1 e2 _ ih=>
  intro h' w
  cases w with
  |leaf e'=>rw [e] at e';cases e'
  |fork e' f1 f2 w=>
   rw [e] at e';cases e'
   rw [e1] at f1;cases f1
   rw [e2] at f2;cases f2
   exact ih w
theorem WF.lv (w:WF ss fs) (e:fs[i]? =some f):lvl ss.length f≤ss.length:=by
 cases f with
 |leaf q=>exact Nat.le_refl _
 |fork lv ks=>
  obtain ⟨⟨s,h,_⟩,_⟩:=w.ok i lv ks e
  exact Nat.le_of_lt (List.getElem?_eq_some_iff.1 h).1
theorem WF.val (w:WF ss fs) (hs:vO ss st):∀(n i:Nat) (f:zB),i<n→fs[i]? =some f→∃q,VA fs st q (ss.length-lvl ss.length f) i:=by
 intro n
 induction n with
 |zero=>intro i f h;omega
 |succ n ih=>
  intro i f hi e
  cases f with
  |leaf q=>exact ⟨q,.leaf e⟩
  |fork lv ks=>
   obtain ⟨⟨s,h1,h2⟩,h3,_⟩:=w.ok i lv ks e
   obtain ⟨x,e1,hx⟩:=hs.get h1
   have hk:ks[x]? =some ks[x]:=List.getElem?_eq_getElem (by omega)
   obtain ⟨h4,g,h5,h6⟩:=h3 ks[x] (List.getElem_mem _)
   obtain ⟨q,v⟩:=ih ks[x] g (by omega) h5
   refine ⟨q,VA.more (.fork e e1 hk v) ?_⟩
   have:=(List.getElem?_eq_some_iff.1 h1).1
   show ss.length-lvl ss.length g+1≤ss.length-lv
   have:=w.lv h5
   omega
theorem WF.val' (w:WF ss fs) (hs:vO ss st) (e:fs[i]? =some f):∃q,VA fs st q ss.length i:=by
 obtain ⟨q,v⟩:=w.val hs (i+1) i f (by omega) e
 exact ⟨q,v.more (by omega)⟩
theorem VA.other (w:WF ss fs) {h l:Nat} (ag:∀k,l≤k→st'[k]? =st[k]?) (v:VA fs st q h i):∀{f:zB},fs[i]? =some f→l≤lvl ss.length f→VA fs st' q h i:=by
 induction v with
 |leaf e=>intro f _ _;exact .leaf e
 | @fork h n lv j k ks e e1 e2 _ ih=>
  intro f ef hl
  rw [e] at ef
  cases ef
  obtain ⟨_,h3,_⟩:=w.ok n lv ks e
  obtain ⟨_,g,h5,h6⟩:=h3 k (List.mem_of_getElem? e2)
  exact .fork e ((ag lv hl).trans e1) e2 (ih h5 (by have:l≤lv:=hl;omega))
theorem zf8 {lv m:Nat}:∀k,lv+1≤k→(st.set lv m)[k]? =st[k]? :=fun k hk=>by rw [List.getElem?_set,if_neg (by omega)]
theorem Uo {lv m:Nat}:∀k,lv+1≤k→st[k]? =(st.set lv m)[k]? :=fun k hk=>(zf8 k hk).symm
noncomputable def Ag (ss:List Nat) (fs:List zB) (i j:Nat):Prop:=∀st,vO ss st→∃q h h',VA fs st q h i∧VA fs st q h' j
theorem Ag.symm (a:Ag ss fs i j):Ag ss fs j i:=fun st hs=>by
 obtain ⟨q,h,h',a,b⟩:=a st hs
 exact ⟨q,h',h,b,a⟩
theorem VA.kid {h lv x:Nat} {ks:List Nat} (v:VA fs st q h i) (e:fs[i]? =some (.fork lv ks)) (e1:st[lv]? =some x):∃k h',ks[x]? =some k∧VA fs st q h' k:=by
 cases v with
 |leaf e'=>rw [e] at e';cases e'
 |fork e' f1 f2 w=>
  rw [e] at e';cases e'
  rw [e1] at f1;cases f1
  exact ⟨_,_,f2,w⟩
theorem Ag.kid (w:WF ss fs) {lv s m k:Nat} {ks:List Nat} (a:Ag ss fs i j) (ei:fs[i]? =some (.fork lv ks)) (es:ss[lv]? =some s) (hm:m<s) (ek:ks[m]? =some k) (ej:fs[j]? =some g) (hg:lv<lvl ss.length g):Ag ss fs k j:=fun st hs=>by
 obtain ⟨_,f,h5,h6⟩:=(w.ok i lv ks ei).2.1 k (List.mem_of_getElem? ek)
 obtain ⟨q,h,h',v,u⟩:=a _ (hs.set es hm)
 have hl:lv<st.length:=by rw [hs.1];exact (List.getElem?_eq_some_iff.1 es).1
 obtain ⟨k',h1,e',v⟩:=v.kid ei (by rw [List.getElem?_set,if_pos rfl,if_pos hl])
 rw [ek] at e'
 cases e'
 exact ⟨q,h1,h',v.other w Uo h5 h6,u.other w Uo ej hg⟩
theorem Ag.kids (w:WF ss fs) {lv s m k k':Nat} {ks js:List Nat} (a:Ag ss fs i j) (ei:fs[i]? =some (.fork lv ks)) (ej:fs[j]? =some (.fork lv js)) (es:ss[lv]? =some s) (hm:m<s) (ek:ks[m]? =some k) (ek':js[m]? =some k'):Ag ss fs k k':=fun st hs=>by
 obtain ⟨_,f,h5,h6⟩:=(w.ok i lv ks ei).2.1 k (List.mem_of_getElem? ek)
 obtain ⟨_,f',h5',h6'⟩:=(w.ok j lv js ej).2.1 k' (List.mem_of_getElem? ek')
 obtain ⟨q,h,h',v,u⟩:=a _ (hs.set es hm)
 have hl:lv<st.length:=by rw [hs.1];exact (List.getElem?_eq_some_iff.1 es).1
 obtain ⟨k1,h1,e1,v⟩:=v.kid ei (by rw [List.getElem?_set,if_pos rfl,if_pos hl])
 obtain ⟨k2,h2,e2,u⟩:=u.kid ej (by rw [List.getElem?_set,if_pos rfl,if_pos hl])
 rw [ek] at e1
 cases e1
 rw [ek'] at e2
 cases e2
 exact ⟨q,h1,h2,v.other w Uo h5 h6,u.other w Uo h5' h6'⟩
theorem zj1 (w:WF ss fs) (z:∃st,vO ss st):∀(d i j:Nat) (f g:zB),fs[i]? =some f→fs[j]? =some g→ss.length≤lvl ss.length f+d→ss.length≤lvl ss.length g+d→Ag ss fs i j→i=j:=by
 have lt:∀{i lv:Nat} {ks:List Nat},fs[i]? =some (.fork lv ks)→lv<ss.length:=fun e=>by
  obtain ⟨⟨s,h,_⟩,_⟩:=w.ok _ _ _ e
  exact (List.getElem?_eq_some_iff.1 h).1
 intro d
 induction d with
 |zero=>
  intro i j f g ei ej hf hg a
  obtain ⟨st,hs⟩:=z
  obtain ⟨q,h,h',v,u⟩:=a st hs
  cases f with
  |fork lv ks=>have:=lt ei;have:ss.length≤lv+0:=hf;omega
  |leaf p=>
   cases g with
   |fork lv ks=>have:=lt ej;have:ss.length≤lv+0:=hg;omega
   |leaf p'=>
    have e1:=v.uniq (.leaf (h:=0) ei)
    have e2:=u.uniq (.leaf (h:=0) ej)
    subst e1 e2
    exact zf3 w.nd ei ej
 |succ d ih=>
  have side:∀{i j lv:Nat} {ks:List Nat} {g:zB},fs[i]? =some (.fork lv ks)→fs[j]? =some g→ss.length≤lv+(d+1)→ss.length≤lvl ss.length g+d→¬ss.length≤lv+d→Ag ss fs i j→False:=by
   intro i j lv ks g ei ej h1 h2 h3 a
   obtain ⟨⟨s,es,hl⟩,hk,hn⟩:=w.ok i lv ks ei
   have all:∀k∈ks,k=j:=fun k hm=>by
    obtain ⟨m,hm'⟩:=List.getElem?_of_mem hm
    have hlt:=(List.getElem?_eq_some_iff.1 hm').1
    obtain ⟨_,f,h5,h6⟩:=hk k hm
    exact ih k j f g h5 ej (by omega) h2 (a.kid w ei es (by omega) hm' ej (by omega))
   exact hn fun k hk k' hk'=>(all k hk).trans (all k' hk').symm
  intro i j f g ei ej hf hg a
  by_cases hi:ss.length≤lvl ss.length f+d
  ·by_cases hj:ss.length≤lvl ss.length g+d
   ·exact ih i j f g ei ej hi hj a
   ·cases g with
    |leaf p=>exact absurd (Nat.le_add_right _ _) hj
    |fork lv ks=>exact (side ej ei hg hi hj a.symm).elim
  ·cases f with
   |leaf p=>exact absurd (Nat.le_add_right _ _) hi
   |fork lv ks=>
    by_cases hj:ss.length≤lvl ss.length g+d
    ·exact (side ei ej hf hj hi a).elim
    ·cases g with
     |leaf p=>exact absurd (Nat.le_add_right _ _) hj
     |fork lw js=>
      have hf':ss.length≤lv+(d+1):=hf
      have hg':ss.length≤lw+(d+1):=hg
      have hi':¬ss.length≤lv+d:=hi
      have hj':¬ss.length≤lw+d:=hj
      have:lw=lv:=by omega
      subst this
      obtain ⟨⟨s,es,hl⟩,hk,_⟩:=w.ok i lw ks ei
      obtain ⟨⟨s',es',hl'⟩,hk',_⟩:=w.ok j lw js ej
      rw [es] at es'
      cases es'
      have:ks=js:=by
       apply List.ext_getElem (by omega)
       intro m h1 h2
       have e1:ks[m]? =some ks[m]:=List.getElem?_eq_getElem h1
       have e2:js[m]? =some js[m]:=List.getElem?_eq_getElem h2
       obtain ⟨_,f,h5,h6⟩:=hk ks[m] (List.getElem_mem _)
       obtain ⟨_,f',h5',h6'⟩:=hk' js[m] (List.getElem_mem _)
       exact ih _ _ f f' h5 h5' (by omega) (by omega) (a.kids w ei ej es (by omega) e1 e2)
      subst this
      exact zf3 w.nd ei ej
theorem WF.canon (w:WF ss fs) (z:∃st,vO ss st) (ei:fs[i]? =some f) (ej:fs[j]? =some g) (a:Ag ss fs i j):i=j:=Prf.zj1 w z ss.length i j f g ei ej (by omega) (by omega) a
theorem WF.leaf (w:WF ss fs) {q:Q2} (n:fs'.Nodup) (a:Add fs (.leaf q) fs'):WF ss fs':=by
 rcases a with rfl|rfl
 ·exact w
 ·refine ⟨n,fun i lv ks e=> ?_⟩
  have hi:i<fs.length:=by
   rcases Nat.lt_trichotomy i fs.length with h|h|h
   ·exact h
   ·subst h;simp at e
   ·rw [List.getElem?_eq_none (by simp;omega)] at e;cases e
  rw [List.getElem?_append_left hi] at e
  obtain ⟨h1,h2,h3⟩:=w.ok i lv ks e
  refine ⟨h1,fun k hk=> ?_,h3⟩
  obtain ⟨a,f,b,c⟩:=h2 k hk
  exact ⟨a,f,yG (List.prefix_append _ _) b,c⟩
theorem WF.fork (w:WF ss fs) {lv s:Nat} {ks:List Nat} (n:fs'.Nodup) (a:Add fs (.fork lv ks) fs') (es:ss[lv]? =some s) (hl:ks.length=s) (hk:∀k∈ks,∃f,fs[k]? =some f∧lv<lvl ss.length f) (hn:¬∀k∈ks,∀k'∈ks,k=k'):WF ss fs':=by
 rcases a with rfl|rfl
 ·exact w
 ·refine ⟨n,fun i lw js e=> ?_⟩
  rcases Nat.lt_trichotomy i fs.length with h|h|h
  ·rw [List.getElem?_append_left h] at e
   obtain ⟨h1,h2,h3⟩:=w.ok i lw js e
   refine ⟨h1,fun k hk=> ?_,h3⟩
   obtain ⟨a,f,b,c⟩:=h2 k hk
   exact ⟨a,f,yG (List.prefix_append _ _) b,c⟩
  ·subst h
   simp at e
   obtain ⟨rfl,rfl⟩:=e
   refine ⟨⟨s,es,hl⟩,fun k hm=> ?_,hn⟩
   obtain ⟨f,b,c⟩:=hk k hm
   exact ⟨(List.getElem?_eq_some_iff.1 b).1,f,yG (List.prefix_append _ _) b,c⟩
  ·rw [List.getElem?_eq_none (by simp;omega)] at e;cases e
theorem VA.back (w:WF ss fs) (p:fs<+:fs') (hs:vO ss st) {h:Nat} (e:fs[i]? =some f) (v:VA fs' st q h i):VA fs st q ss.length i:=by
 obtain ⟨q',v'⟩:=w.val' hs e
 rw [v.uniq (v'.mono p)]
 exact v'
end
section
variable {fu:Nat} {S S':Sto} {x y:Xv}
noncomputable def zen (t b:Int):Q2:=(t / (Int.gcd t b:Int),b / (Int.gcd t b:Int))
noncomputable def zeo (a b:Q2):Q2:=zen (a.1*b.2+b.1*a.2) (a.2*b.2)
noncomputable def zep (a b:Q2):Q2:=zen (a.1*b.1) (a.2*b.2)
noncomputable def VQ (a b:Q2):Q2:=if a.1*b.2<b.1*a.2 then b else a
theorem zdc {P:Xv→Sto→Prop} {p:Int} (k:P (.int (p.natAbs:Int)) S):WO (zej [.int p] S) P:= .of (show zej [.int p] S=some (.int (if p<0 then -p else p),S) from rfl) (by
 rw [show (if p<0 then -p else p)=(p.natAbs:Int) by split<;>omega]
 exact k)
theorem zeq:∀(n:Nat) (one other:Nat) (a2:Option Xv),other<n→
  WS (VJ (bE (eOp zbQ (za 1) (eC (.int 0)))) (zu (zJ (eOp Zl (za 0) (za 1)) (gN 2)) (zu (zJ (za 1) (gN 0)) (zJ (za 2) (gN 1)))) n [some (.int one),some (.int other),a2] S) (fun ρ S'=>∃a2,ρ=[some (.int (Nat.gcd one other:Nat)),some (.int 0),a2]∧S=S') (fun _ _=>False):=by
 intro n
 induction n with
 |zero=>intro one other a2 h;omega
 |succ n ih=>
  intro one other a2 h
  refine Ub ?_
  walk_at "w"
  rw [show (!decide ((other:Int)=0))=decide (¬(other:Int)=0) by simp]
  refine wa (fun h=> ?_) (fun h=> ?_)
  ·have h0:0<other:=by omega
   walk_at "w"
   refine xX (by omega) ?_
   walk_at "w"
   have:=ih other (one % other) (some (.int ((one % other:Nat):Int))) (by have:=Nat.mod_lt one h0;omega)
   rw [show Nat.gcd other (one % other)=Nat.gcd one other by rw [Nat.gcd_comm other,←Nat.gcd_rec,Nat.gcd_comm]] at this
   rw [Int.natCast_emod] at this
   exact this
  ·have:other=0:=by omega
   subst this
   exact ⟨a2,by simp,rfl⟩
noncomputable def wb (n:Nat) (p:Int):Prop:=p.natAbs<2^n
theorem wb.mono {n m:Nat} {p:Int} (h:wb n p) (hn:n≤m):wb m p:=Nat.lt_of_lt_of_le h (Nat.pow_le_pow_right (by decide) hn)
theorem wb.le {n:Nat} {p:Int} (h:wb n p):intBits p≤n:=PySem.intBits_le_iff.mpr h
theorem wb.mul {n m:Nat} {p q:Int} (h:wb n p) (g:wb m q):wb (n+m) (p*q):=by
 unfold wb at*
 rw [Int.natAbs_mul,Nat.pow_add]
 rcases Nat.eq_zero_or_pos q.natAbs with z|z
 ·rw [z,Nat.mul_zero];exact Nat.mul_pos (Nat.pow_pos (by decide)) (Nat.pow_pos (by decide))
 ·exact Nat.mul_lt_mul_of_lt_of_le h (Nat.le_of_lt g) (Nat.pow_pos (by decide))
theorem wb.fuel {n:Nat} {p:Int} (hb:Big fu) (h:wb n p) (hn:n≤9000):p.natAbs<fu:=Nat.lt_of_lt_of_le (h.mono hn) hb
theorem zcm {n:Nat} {t b:Int} (h0:0<b) (hb:wb n b) (hn:n≤9000):((Nat.gcd t.natAbs b.natAbs:Nat):Int)≠0∧intBits ((Nat.gcd t.natAbs b.natAbs:Nat):Int)≤9000:=by
 have g0:0<Nat.gcd t.natAbs b.natAbs:=Nat.gcd_pos_of_pos_right _ (by omega)
 have gl:Nat.gcd t.natAbs b.natAbs≤b.natAbs:=Nat.gcd_le_right _ (by omega)
 refine ⟨by omega,Nat.le_trans (wb.le (n:=n) ?_) hn⟩
 unfold wb
 rw [Int.natAbs_natCast]
 exact Nat.lt_of_le_of_lt gl hb
theorem zcn {t b:Int}:qv (zen t b)= .tup [.int (t.fdiv ((Nat.gcd t.natAbs b.natAbs:Nat):Int)),.int (b.fdiv ((Nat.gcd t.natAbs b.natAbs:Nat):Int))]:=by
 rw [Int.fdiv_eq_ediv_of_nonneg _ (by omega),Int.fdiv_eq_ediv_of_nonneg _ (by omega)]
 rfl
theorem zco (hbg:Big fu) {t b:Int} (h0:0<b) (hb:wb 9000 b):W (XH fu [.int t,.int b] S) fun v S'=>v=qv (zen t b)∧S=S':=by
 have gb:=zcm (t:=t) h0 hb (Nat.le_refl _)
 walk_at "wr";unfold XG
 walk_at "w"
 refine W.imp (P:=fun v S'=>v= .int (Nat.gcd t.natAbs b.natAbs:Nat)∧S=S') ?_ ?_
 ·walk_at "wr";unfold wL;walk_at "w"
  refine zdc ?_
  walk_at "w"
  refine zdc ?_
  walk_at "w"
  refine zfG ?_
  rcases zeq (S:=S) fu t.natAbs b.natAbs none (wb.fuel hbg hb (Nat.le_refl _)) with ⟨ρ,S',e,a2,rfl,rfl⟩|⟨_,_,_,z⟩
  ·refine .nx e ?_
   walk_at "w"
   exact ⟨rfl,rfl⟩
  ·exact z.elim
 rintro _ _ ⟨rfl,rfl⟩
 walk_at "w"
 refine yv ?_
 walk_at "w"
 refine wa (fun h=>absurd h (by omega)) (fun _=>yd ?_)
 walk_at "w"
 refine Ye gb ?_
 walk_at "w"
 refine Ye gb ?_
 walk_at "w"
 exact ⟨zcn.symm,rfl⟩
theorem zf9:∀(n:Nat) (t b:Xv) (one other:Nat) (a4:Option Xv),other<n→
  WS (VJ (bE (eOp dGt (za 3) (eC (.int 0)))) (zu (zJ (eOp Zl (za 2) (za 3)) (gN 4)) (zu (zJ (za 3) (gN 2)) (zJ (za 4) (gN 3)))) n [some t,some b,some (.int one),some (.int other),a4] S) (fun ρ S'=>∃a4,ρ=[some t,some b,some (.int (Nat.gcd one other:Nat)),some (.int 0),a4]∧S=S') (fun _ _=>False):=by
 intro n
 induction n with
 |zero=>intro t b one other a4 h;omega
 |succ n ih=>
  intro t b one other a4 h
  refine Ub ?_
  walk_at "w"
  refine wa (fun h=> ?_) (fun h=> ?_)
  ·have h0:0<other:=by omega
   walk_at "w"
   refine xX (by omega) ?_
   walk_at "w"
   have:=ih t b other (one % other) (some (.int ((one % other:Nat):Int))) (by have:=Nat.mod_lt one h0;omega)
   rw [show Nat.gcd other (one % other)=Nat.gcd one other by rw [Nat.gcd_comm other,←Nat.gcd_rec,Nat.gcd_comm]] at this
   rw [Int.natCast_emod] at this
   exact this
  ·have:other=0:=by omega
   subst this
   exact ⟨a4,by simp,rfl⟩
theorem WY (hbg:Big fu) {t b:Int} (h0:0<b) (hb:wb 9000 b):W (wA fu [.int t,.int b] S) fun v S'=>v=qv (zen t b)∧S=S':=by
 have gb:=zcm (t:=t) h0 hb (Nat.le_refl _)
 walk_at "wr";unfold ZH
 walk_at "w"
 refine zdc ?_
 walk_at "w"
 refine zfG ?_
 have hbn:Xv.int b=Xv.int ((b.natAbs:Nat):Int):=by rw [Int.natAbs_of_nonneg (by omega)]
 rcases zf9 (S:=S) fu (.int t) (.int b) t.natAbs b.natAbs none (wb.fuel hbg hb (Nat.le_refl _)) with ⟨ρ,S',e,a4,rfl,rfl⟩|⟨_,_,_,z⟩
 rotate_left
 ·exact z.elim
 rw [←hbn] at e
 refine .nx e ?_
 walk_at "w"
 refine Ye gb ?_
 walk_at "w"
 refine Ye gb ?_
 walk_at "w"
 exact ⟨zcn.symm,rfl⟩
structure Fb (q:Q2):Prop where
 pos:0<q.2
 g:Int.gcd q.1 q.2=1
 b1:wb 210 q.1
 b2:wb 210 q.2
theorem Fb.le1 {q:Q2} (h:Fb q):intBits q.1≤210:=h.b1.le
theorem Fb.le2 {q:Q2} (h:Fb q):intBits q.2≤210:=h.b2.le
theorem ziY (hbg:Big fu) {a b:Q2} (ha:Fb a) (hb:Fb b):W (zbc fu [qv a,qv b] S) fun v S'=>v=qv (zeo a b)∧S=S':=by
 have l1:=ha.le1
 have l2:=ha.le2
 have l3:=hb.le1
 have l4:=hb.le2
 walk_at "wr";unfold Ul
 walk_at "w"
 refine zA rfl xD ?_
 walk_at "w"
 refine zA rfl xn ?_
 refine yy (by omega) ?_
 walk_at "w"
 refine zA rfl xD ?_
 walk_at "w"
 refine zA rfl xn ?_
 refine yy (by omega) ?_
 walk_at "w"
 refine zA rfl xn ?_
 walk_at "w"
 refine zA rfl xn ?_
 refine yy (by omega) ?_
 walk_at "w"
 exact zco hbg (Int.mul_pos ha.pos hb.pos) ((ha.b2.mul hb.b2).mono (by decide))
theorem zhm (hbg:Big fu) {a b:Q2} (ha:Fb a) (hb:Fb b):W (UY fu [qv a,qv b] S) fun v S'=>v=qv (zep a b)∧S=S':=by
 have l1:=ha.le1
 have l2:=ha.le2
 have l3:=hb.le1
 have l4:=hb.le2
 walk_at "wr";unfold WM
 walk_at "w"
 refine zA rfl xD ?_
 walk_at "w"
 refine zA rfl xD ?_
 refine yy (by omega) ?_
 walk_at "w"
 refine zA rfl xn ?_
 walk_at "w"
 refine zA rfl xn ?_
 refine yy (by omega) ?_
 walk_at "w"
 exact zco hbg (Int.mul_pos ha.pos hb.pos) ((ha.b2.mul hb.b2).mono (by decide))
theorem zer {a b:Q2} (ha:Fb a) (hb:Fb b):W (Wq fu [qv a,qv b] S) fun v S'=>v=qv (VQ a b)∧S=S':=by
 have l1:=ha.le1
 have l2:=ha.le2
 have l3:=hb.le1
 have l4:=hb.le2
 walk_at "wr";unfold YL
 walk_at "w"
 refine Wm ?_
 refine vQ (vW ?_)
 walk_at "w"
 refine W.imp (P:=fun v S'=>v= .bl (decide (a.1*b.2<b.1*a.2))∧S=S') ?_ ?_
 ·walk_at "wr";unfold WN
  walk_at "w"
  refine zA rfl xD ?_
  walk_at "w"
  refine zA rfl xn ?_
  refine yy (by omega) ?_
  walk_at "w"
  refine zA rfl xD ?_
  walk_at "w"
  refine zA rfl xn ?_
  refine yy (by omega) ?_
  walk_at "w"
  exact ⟨rfl,rfl⟩
 ·rintro _ _ ⟨rfl,rfl⟩
  refine ⟨_,rfl,wa (fun h=> ?_) (fun h=> ?_)⟩
  ·walk_at "w"
   exact ⟨by unfold VQ;rw [if_pos h],rfl⟩
  ·walk_at "w"
   exact ⟨by unfold VQ;rw [if_neg h],rfl⟩
theorem zes (a b:Q2):zeo a b=zeo b a:=by unfold zeo;rw [Int.add_comm,Int.mul_comm a.2]
theorem zet (a b:Q2):zep a b=zep b a:=by unfold zep;rw [Int.mul_comm a.1,Int.mul_comm a.2]
theorem zdM {k m n:Int} (h:k∣m*n) (g:Int.gcd m k=1):k∣n:=by
 have h1:k.natAbs∣m.natAbs*n.natAbs:=by rw [←Int.natAbs_mul];exact Int.natAbs_dvd_natAbs.2 h
 exact Int.natAbs_dvd_natAbs.1 (Nat.Coprime.dvd_of_dvd_mul_left (by unfold Nat.Coprime;rw [Nat.gcd_comm];exact g) h1)
theorem zj2 {a b:Q2} (ha:Fb a) (hb:Fb b) (e:a.1*b.2=b.1*a.2):a=b:=by
 have h1:a.2∣b.2:=by
  have h:a.2∣a.1*b.2:=⟨b.1,by rw [e,Int.mul_comm]⟩
  exact zdM h ha.g
 have h2:b.2∣a.2:=by
  have h:b.2∣b.1*a.2:=⟨a.1,by rw [←e,Int.mul_comm]⟩
  exact zdM h hb.g
 have h3:a.2=b.2:=Int.dvd_antisymm (Int.le_of_lt ha.pos) (Int.le_of_lt hb.pos) h1 h2
 have h4:a.1=b.1:=by
  rw [h3] at e
  exact Int.eq_of_mul_eq_mul_right (by have:=hb.pos;omega) e
 exact Prod.ext h4 h3
theorem zeu {a b:Q2} (ha:Fb a) (hb:Fb b):VQ a b=VQ b a:=by
 unfold VQ
 by_cases h:a.1*b.2<b.1*a.2
 ·rw [if_pos h,if_neg (by omega)]
 ·rw [if_neg h]
  by_cases h2:b.1*a.2<a.1*b.2
  ·rw [if_pos h2]
  ·rw [if_neg h2]
   exact zj2 ha hb (by omega)
theorem zga {t b:Int} (h0:0<b) (ht:wb 210 t) (hb:wb 210 b):Fb (zen t b):=by
 have hg:0<Int.gcd t b:=Int.gcd_pos_of_ne_zero_right t (by omega)
 have h1:(Int.gcd t b:Int)∣t:=Int.gcd_dvd_left ..
 have h2:(Int.gcd t b:Int)∣b:=Int.gcd_dvd_right ..
 refine ⟨Int.ediv_pos_of_pos_of_dvd h0 (by omega) h2,?_,?_,?_⟩
 ·exact Int.gcd_ediv_gcd_ediv_gcd hg
 ·refine Nat.lt_of_le_of_lt ?_ ht
  show (t / (Int.gcd t b:Int)).natAbs≤t.natAbs
  rw [Int.natAbs_ediv_of_dvd h1]
  exact Nat.div_le_self _ _
 ·refine Nat.lt_of_le_of_lt ?_ hb
  show (b / (Int.gcd t b:Int)).natAbs≤b.natAbs
  rw [Int.natAbs_ediv_of_dvd h2]
  exact Nat.div_le_self _ _
end
section
variable {fu:Nat} {S S' S2:Sto} {x y u v:Xv} {sn fn dn kn:Nat} {bx:Xv} {fs fs':List zB} {ss:List Nat}
theorem zh3 {get:Sto→Option (List Xv)} {e:TwE} {ρc:Rho} {P:Xv→Sto→Prop} (hg:get S=some [x,y]) (h1:W (e (ρc.set 0 (some x)) S) fun w S'=>w=u∧S'=S) (h2:W (e (ρc.set 0 (some y)) S) fun w S'=>w=v∧S'=S) (k:P (.ref S.length) (S++[.lst [u,v]])):
  W (Zk get (gN 0) xm e ρc 3 0 [] S) P:=by
 refine we (xs:=[x,y]) (show 2≤sizeLine by decide) (fun i es S2=>S2=S∧es=[u,v].take i) (fun i es S2 _ h=>by rw [h.1];exact hg) ?_ ⟨rfl,rfl⟩ ?_
 ·rintro i w es S2 hw hel ⟨rfl,rfl⟩
  refine .of rfl ?_
  walk_at "w"
  refine ⟨rfl,?_⟩
  match i,hw with
  |0,hw=>
   cases hw
   refine h1.imp ?_
   rintro _ _ ⟨rfl,rfl⟩
   exact ⟨rfl,rfl⟩
  |1,hw=>
   cases hw
   refine h2.imp ?_
   rintro _ _ ⟨rfl,rfl⟩
   exact ⟨rfl,rfl⟩
  |i+2,hw=>simp at hw
 ·rintro es S2 _ ⟨rfl,rfl⟩
  exact k
theorem zdd {cap:List (Option Nat)} {m e:TwE} {ρ:Rho} {P:Xv→Sto→Prop} (hn:W (m ρ S) fun z S'=>z= .tup [x,y]∧S'=S) (h1:W (e ((xO cap ρ).set 0 (some x)) S) fun w S'=>w=u∧S'=S) (h2:W (e ((xO cap ρ).set 0 (some y)) S) fun w S'=>w=v∧S'=S) (k:P (.ref S.length) (S++[.lst [u,v]])):
  W (xy cap (iT m) (gN 0) xm e ρ S) P:=by
 refine wG (zhY (hn.imp ?_))
 rintro _ _ ⟨rfl,rfl⟩
 exact ⟨_,rfl,_,rfl,zh3 rfl h1 h2 k⟩
theorem zgb {cap:List (Option Nat)} {m e:TwE} {ρ:Rho} {P:Xv→Sto→Prop} {n:Nat} (hl:S[n]? =some (.lst [x,y])) (hn:W (m ρ S) fun z S'=>z= .ref n∧S'=S) (h1:W (e ((xO cap ρ).set 0 (some x)) S) fun w S'=>w=u∧S'=S) (h2:W (e ((xO cap ρ).set 0 (some y)) S) fun w S'=>w=v∧S'=S) (k:P (.ref S.length) (S++[.lst [u,v]])):
  W (xy cap (iL m) (gN 0) xm e ρ S) P:=by
 refine wG (zae (hn.imp ?_))
 rintro _ _ ⟨rfl,rfl⟩
 exact ⟨_,zi hl,_,zi hl,zh3 (zi hl) h1 h2 k⟩
noncomputable def isF:zB→Bool
 | .leaf _=>false
 | .fork _ _=>true
theorem ziZ {P:Xv→Sto→Prop} {l:List Xv} {bs:List Bool} (h:yf S x=some l) (h2:Zz l=some bs) (k:P (.bl (bs.any id)) S):WO (zfz [x] S) P:= .of (by unfold zfz;dsimp only;rw [h,Option.bind_some,h2];rfl) k
noncomputable def Vs (fu:Nat) (xr:Xv) (op:Q2→Q2→Q2):Prop:=∃(L:yY) (caps:List Xv) (tw:List Xv→TwF),xr= .lam L caps∧Yg [(WJ,zam fu),(WK,zan fu),(WL,zao fu)] L=some tw∧
 ∀{S:Sto} {m:Nat} {a b:Q2},Fb a→Fb b→S[m]? =some (.lst [qv a,qv b])→W (tw caps [.ref m] S) fun w S'=>w=qv (op a b)∧S'=S
theorem zas {f:zB} {i:Nat} (hi:fs[i]? =some f):W (eOp (XL false) (eOp yp (za 0) (eC (.int 0))) (eC (.str "fork")) [some (yN f)] S) fun w S'=>w= .bl (isF f)∧S'=S:=by
 walk_at "w"
 cases f with
 |leaf q=>exact zA rfl xD (by walk_at "w";exact yM ⟨rfl,rfl⟩)
 |fork lv ks=>exact zA rfl xD (by walk_at "w";exact yM ⟨rfl,rfl⟩)
theorem zgc (hl:fs.length≤1000000) {a b:Nat} {fa fb:zB} {xr:Xv} {op:Q2→Q2→Q2} (h:xg sn fn dn bx fs S) (ea:fs[a]? =some fa) (eb:fs[b]? =some fb) (hr:Vs fu xr op) (ha:∀q,fa= .leaf q→Fb q) (hb:∀q,fb= .leaf q→Fb q):
  W (vk fu [.ref sn,.tup [.int (a:Int),.int (b:Int)],xr] S) fun w S'=>(w= .non∧(isF fa||isF fb)=true∧S<+:S')∨∃(qa qb:Q2) (i:Nat) (fs':List zB),fa= .leaf qa∧fb= .leaf qb∧w= .int (i:Int)∧fs'[i]? =some (.leaf (op qa qb))∧Add fs (.leaf (op qa qb)) fs'∧yO sn fn dn bx fs 1 S fs' S':=by
 walk_at "wr";unfold vh
 refine ya (YF ?_)
 refine zdd (x:= .int (a:Int)) (y:= .int (b:Int)) (u:=yN fa) (v:=yN fb) (xi rfl ⟨rfl,rfl⟩) ?_ ?_ ?_
 ·dsimp only [xO,List.map,List.set]
  walk_at "w"
  refine wu ?_
  walk_at "w"
  refine ⟨_,_,_,rfl,h.o,rfl,?_⟩
  walk_at "w"
  exact zP (zi h.f) (zN (vF ea)) ⟨rfl,rfl⟩
 ·dsimp only [xO,List.map,List.set]
  walk_at "w"
  refine wu ?_
  walk_at "w"
  refine ⟨_,_,_,rfl,h.o,rfl,?_⟩
  walk_at "w"
  exact zP (zi h.f) (zN (vF eb)) ⟨rfl,rfl⟩
 dsimp only [List.set]
 have h1:=h.pre (List.prefix_append S [.lst [yN fa,yN fb]])
 have hfl:(S++[Ce.lst [yN fa,yN fb]])[S.length]? =some (.lst [yN fa,yN fb]):=yQ
 have p1:S<+:S++[Ce.lst [yN fa,yN fb]]:=List.prefix_append _ _
 generalize S++[Ce.lst [yN fa,yN fb]]=S1 at h1 hfl p1
 refine ya (yv (vQ (ZB (zR ?_))))
 refine zgb (n:=S.length) (x:=yN fa) (y:=yN fb) (u:= .bl (isF fa)) (v:= .bl (isF fb)) hfl (xi rfl ⟨rfl,rfl⟩) ?_ ?_ ?_
 ·dsimp only [xO,List.map,List.set]
  exact zas ea
 ·dsimp only [xO,List.map,List.set]
  exact zas eb
 walk_at "w"
 refine ziZ (bs:=[isF fa,isF fb]) xP rfl ?_
 refine ⟨_,rfl,fun z=> ?_,fun z=> ?_⟩
 ·walk_at "w"
  exact .inl ⟨rfl,by simpa using z,p1.trans (List.prefix_append _ _)⟩
 ·refine yd ?_
  have h2:=h1.pre (List.prefix_append S1 [.lst [.bl (isF fa),.bl (isF fb)]])
  have p2:S<+:S1++[.lst [.bl (isF fa),.bl (isF fb)]]:=p1.trans (List.prefix_append _ _)
  have hfl2:=yG (List.prefix_append S1 [Ce.lst [.bl (isF fa),.bl (isF fb)]]) hfl
  generalize S1++[Ce.lst [.bl (isF fa),.bl (isF fb)]]=S3 at h2 p2 hfl2
  cases fa with
  |fork lv ks=>simp [isF] at z
  |leaf qa=>
   cases fb with
   |fork lv ks=>simp [isF] at z
   |leaf qb=>
    obtain ⟨L,caps,tw,rfl,hp,ht⟩:=hr
    refine yE (yz ?_)
    walk_at "w"
    refine ⟨_,_,rfl,h2.o,rfl,?_⟩
    refine zR (zcb rfl hp (zR ?_))
    refine zgb (n:=S.length) (x:=yN (.leaf qa)) (y:=yN (.leaf qb)) (u:=qv qa) (v:=qv qb) hfl2 (xi rfl ⟨rfl,rfl⟩) ?_ ?_ ?_
    ·dsimp only [xO,List.map,List.set]
     walk_at "w"
     exact zA rfl xn ⟨rfl,rfl⟩
    ·dsimp only [xO,List.map,List.set]
     walk_at "w"
     exact zA rfl xn ⟨rfl,rfl⟩
    walk_at "w"
    refine (ht (ha qa rfl) (hb qb rfl) yQ).imp ?_
    rintro _ _ ⟨rfl,rfl⟩
    walk_at "w"
    have h3:=h2.pre (List.prefix_append S3 [.lst [qv qa,qv qb]])
    refine (zf4 h3 hl (op qa qb)).imp ?_
    rintro _ S4 ⟨i,fs',rfl,e1,ad,g⟩
    exact .inr ⟨qa,qb,i,fs',rfl,rfl,rfl,e1,ad,((yO.of_pre h (p2.trans (List.prefix_append _ _))).trans g).more (by omega)⟩
end
section
variable {fu:Nat} {S S' S2:Sto} {x y z:Xv} {sn fn dn kn:Nat} {bx:Xv} {fs fs':List zB} {ss:List Nat} {op:Q2→Q2→Q2}
theorem zdb.va {st ks:List Nat} {q:Q2} {lv i j k h:Nat} (f:zdb fs lv ks i) (hj:st[lv]? =some j) (hk:ks[j]? =some k) (v:VA fs st q h k):VA fs st q (h+1) i:=by
 obtain ⟨k0,e0,⟨a,rfl⟩|⟨a,b⟩⟩:=f
 ·rw [a k (List.mem_of_getElem? hk)] at v
  exact v.more (by omega)
 ·exact .fork b hj hk v
noncomputable def kab (a b:Nat):NK:= .tup [.int (a:Int),.int (b:Int)]
noncomputable def nod (a b:Nat):Xv:= .tup [.int (a:Int),.int (b:Int)]
noncomputable def vm:List (NK×Xv×Xv)→Ce
 |[]=> .dk []
 |p::l=> .dn (p::l)
theorem Up (a b:Nat):Wn (nod a b)=some (kab a b):=by simp [Wn,nod,kab,YB,YO,wZ,ZZ]
theorem VZ {l:List (NK×Xv×Xv)} {n:Nat} {k:NK} (h:S[n]? =some (vm l)) (hk:Wn x=some k) (hx:zcT x=none):YS S (.ref n) x=some (yw l k):=by
 unfold YS
 dsimp only
 rw [h]
 cases l with
 |nil=>
  unfold vm
  dsimp only
  rw [hx,hk]
  rfl
 |cons p l=>
  unfold vm
  dsimp only
  rw [hk]
  rfl
theorem zdN {l:List (NK×Xv×Xv)} {n:Nat} {k:NK} (h:S[n]? =some (vm l)) (hk:Wn x=some k) (hx:zcT x=none) (hl:l.length<sizeLine):WC S (.ref n) x z=some (S.set n (vm (Yf l k x z))):=by
 unfold WC
 dsimp only
 rw [h]
 cases l with
 |nil=>
  unfold vm
  dsimp only
  rw [hx,hk]
  rfl
 |cons p l=>
  unfold vm
  dsimp only [List.cons_append]
  rw [if_pos hl,hk]
  dsimp only [Option.map_some]
  unfold Yf
  split<;>rfl
theorem Zu {l:List (NK×Xv×Xv)} {p:NK×Xv×Xv} {k:NK}:yw (p::l) k=if p.1=k then some p.2.2 else yw l k:=by
 unfold yw
 rw [List.find?_cons]
 by_cases h:p.1=k
 ·rw [decide_eq_true h,if_pos h];rfl
 ·rw [decide_eq_false h,if_neg h]
theorem zdO {k k':NK} {y:Xv}:∀{l:List (NK×Xv×Xv)},yw (l.map fun p=>if p.1=k then (p.1,p.2.1,y) else p) k'=if k'=k then (yw l k).map (fun _=>y) else yw l k'
 |[]=>by simp [yw]
 |p::l=>by
  rw [List.map_cons,Zu,zdO (l:=l),Zu,Zu]
  by_cases h:p.1=k
  ·rw [if_pos h,if_pos h]
   dsimp only
   by_cases h2:k'=k
   ·rw [if_pos (h.trans h2.symm),if_pos h2];rfl
   ·rw [if_neg (fun z=>h2 (z.symm.trans h)),if_neg h2,if_neg h2,if_neg (fun z=>h2 (z.symm.trans h))]
  ·rw [if_neg h,if_neg h]
   by_cases h2:k'=k
   ·rw [if_pos h2,if_pos h2,if_neg (fun z=>h (z.trans h2))]
   ·rw [if_neg h2,if_neg h2]
theorem zdP {k k':NK} {x y:Xv}:∀{l:List (NK×Xv×Xv)},yw l k=none→yw (l++[(k,x,y)]) k'=if k'=k then some y else yw l k'
 |[],_=>by
  rw [List.nil_append,Zu]
  dsimp only
  by_cases h:k'=k
  ·rw [if_pos h.symm,if_pos h]
  ·rw [if_neg (fun z=>h z.symm),if_neg h]
 |p::l,hn=>by
  rw [Zu] at hn
  by_cases h:p.1=k
  ·rw [if_pos h] at hn;cases hn
  ·rw [if_neg h] at hn
   rw [List.cons_append,Zu,zdP hn,Zu]
   by_cases h2:k'=k
   ·rw [if_pos h2,if_pos h2,if_neg (fun z=>h (z.trans h2))]
   ·rw [if_neg h2,if_neg h2]
theorem zbg {l:List (NK×Xv×Xv)} {k k':NK} {x y:Xv}:yw (Yf l k x y) k'=if k'=k then some y else yw l k':=by
 unfold Yf
 split
 ·rename_i h
  obtain ⟨u,hu⟩:=Option.isSome_iff_exists.1 h
  rw [zdO,hu]
  rfl
 ·rename_i h
  exact zdP (by simpa using h)
theorem zhn {l:List (NK×Xv×Xv)} {k:NK} {x y:Xv}:(Yf l k x y).length≤l.length+1:=by
 unfold Yf
 split<;>simp
theorem zho {a b c d:Nat} (h:kab a b=kab c d):a=c∧b=d:=by
 unfold kab at h
 injection h with h
 injection h with h1 h
 injection h with h2 h
 injection h1 with h1
 injection h2 with h2
 exact ⟨Int.ofNat_inj.1 h1,Int.ofNat_inj.1 h2⟩
structure Yo (ss:List Nat) (op:Q2→Q2→Q2) (fs:List zB) (a b r:Nat):Prop where
 lv:∃fa fb fr,fs[a]? =some fa∧fs[b]? =some fb∧fs[r]? =some fr∧∀l,l≤lvl ss.length fa→l≤lvl ss.length fb→l≤lvl ss.length fr
 va:∀st,vO ss st→∀qa qb ha hb,VA fs st qa ha a→VA fs st qb hb b→∃h,VA fs st (op qa qb) h r
theorem Yo.mono {a b r:Nat} (g:Yo ss op fs a b r) (w:WF ss fs) (p:fs<+:fs'):Yo ss op fs' a b r:=by
 obtain ⟨fa,fb,fr,ea,eb,er,hl⟩:=g.lv
 refine ⟨⟨fa,fb,fr,yG p ea,yG p eb,yG p er,hl⟩,fun st hs qa qb ha hb va vb=> ?_⟩
 obtain ⟨h,v⟩:=g.va st hs qa qb _ _ (va.back w p hs ea) (vb.back w p hs eb)
 exact ⟨h,v.mono p⟩
noncomputable def Vb (ss:List Nat) (fs:List zB) (a:Nat):Prop:=∀st,vO ss st→∀q h,VA fs st q h a→Fb q
theorem Vb.mono {a:Nat} {f:zB} (v:Vb ss fs a) (w:WF ss fs) (p:fs<+:fs') (e:fs[a]? =some f):Vb ss fs' a:=fun st hs q h u=>v st hs q _ (u.back w p hs e)
structure JS (sn fn dn kn:Nat) (bx:Xv) (ss:List Nat) (op:Q2→Q2→Q2) (fs:List zB) (l:List (NK×Xv×Xv)) (S:Sto):Prop where
 st:xg sn fn dn bx fs S
 wf:WF ss fs
 kd:S[kn]? =some (vm l)
 kl:∀k y,yw l k=some y→∃a b r:Nat,k=kab a b∧y= .int (r:Int)∧Yo ss op fs a b r
 ne:kn≠dn
theorem zev {l:List (NK×Xv×Xv)} {m:List Xv}:vm l≠ .lst m:=by cases l<;>simp [vm]
theorem zew {l:List (NK×Xv×Xv)} {c:Str} {m:List (Str×Xv)}:vm l≠ .ins c m:=by cases l<;>simp [vm]
section
variable {l l' l2:List (NK×Xv×Xv)}
theorem JS.kf (h:JS sn fn dn kn bx ss op fs l S):kn≠fn:=fun e=>by
 have h1:=h.kd
 rw [e,h.st.f] at h1
 exact zev (Option.some.inj h1).symm
theorem JS.ks (h:JS sn fn dn kn bx ss op fs l S):kn≠sn:=fun e=>by
 have h1:=h.kd
 rw [e,h.st.o] at h1
 exact zew (Option.some.inj h1).symm
noncomputable abbrev wJ (fn dn kn:Nat):Nat→Prop:=fun n=>n=fn∨n=dn∨n=kn
structure JP (sn fn dn kn:Nat) (bx:Xv) (ss:List Nat) (op:Q2→Q2→Q2) (m:Nat) (fs:List zB) (l:List (NK×Xv×Xv)) (S:Sto) (fs':List zB) (l':List (NK×Xv×Xv)) (S':Sto):Prop where
 js:JS sn fn dn kn bx ss op fs' l' S'
 pre:fs<+:fs'
 fl:fs'.length≤fs.length+m
 ll:l'.length≤l.length+m
 kp:Kp (wJ fn dn kn) S S'
theorem JS.pre (h:JS sn fn dn kn bx ss op fs l S) (p:S<+:S'):JS sn fn dn kn bx ss op fs l S':=⟨h.st.pre p,h.wf,yG p h.kd,h.kl,h.ne⟩
theorem JS.grown {m:Nat} (h:JS sn fn dn kn bx ss op fs l S) (w:WF ss fs') (g:yO sn fn dn bx fs m S fs' S'):JS sn fn dn kn bx ss op fs' l S':=
 ⟨g.st,w,g.kp.2 _ _ h.kd (fun z=>by rcases z with z|z;exact h.kf z;exact h.ne z),fun k y e=>by
  obtain ⟨a,b,r,e1,e2,e3⟩:=h.kl k y e
  exact ⟨a,b,r,e1,e2,e3.mono h.wf g.pre⟩,h.ne⟩
theorem JP.grown {m:Nat} (h:JS sn fn dn kn bx ss op fs l S) (w:WF ss fs') (g:yO sn fn dn bx fs m S fs' S'):JP sn fn dn kn bx ss op m fs l S fs' l S':=
 ⟨h.grown w g,g.pre,g.len,by omega,g.kp.mono fun n z=>z.elim .inl fun z=> .inr (.inl z)⟩
theorem JP.trans {m m':Nat} {fs1 fs2:List zB} (a:JP sn fn dn kn bx ss op m fs l S fs1 l' S') (b:JP sn fn dn kn bx ss op m' fs1 l' S' fs2 l2 S2):JP sn fn dn kn bx ss op (m+m') fs l S fs2 l2 S2:=
 ⟨b.js,a.pre.trans b.pre,by have:=a.fl;have:=b.fl;omega,by have:=a.ll;have:=b.ll;omega,a.kp.trans b.kp⟩
theorem JP.more {m m':Nat} {fs1:List zB} (a:JP sn fn dn kn bx ss op m fs l S fs1 l' S') (h:m≤m'):JP sn fn dn kn bx ss op m' fs l S fs1 l' S':=⟨a.js,a.pre,by have:=a.fl;omega,by have:=a.ll;omega,a.kp⟩
theorem JP.app {m:Nat} {fs1:List zB} (a:JP sn fn dn kn bx ss op m fs l S fs1 l' S') (p:S'<+:S2):JP sn fn dn kn bx ss op m fs l S fs1 l' S2:=⟨a.js.pre p,a.pre,a.fl,a.ll,a.kp.trans (Kp.pre p)⟩
theorem JS.jp (h:JS sn fn dn kn bx ss op fs l S) (p:S<+:S'):JP sn fn dn kn bx ss op 0 fs l S fs l S':=⟨h.pre p,List.prefix_refl _,by omega,by omega,Kp.pre p⟩
theorem JP.set {m n:Nat} {c:Ce} {fs1:List zB} (h:JS sn fn dn kn bx ss op fs l S) (a:JP sn fn dn kn bx ss op m fs l S fs1 l' S') (hn:S.length≤n):JP sn fn dn kn bx ss op m fs l S fs1 l' (S'.set n c):=by
 have q:∀{k:Nat} {d:Ce},S[k]? =some d→n≠k:=fun {k d} e=>by have:=(List.getElem?_eq_some_iff.1 e).1;omega
 exact ⟨⟨⟨xt a.js.st.o (q h.st.o),xt a.js.st.f (q h.st.f),xt a.js.st.d (q h.st.d),a.js.st.nd⟩,a.js.wf,xt a.js.kd (q h.kd),a.js.kl,a.js.ne⟩,a.pre,a.fl,a.ll,a.kp.set (.inr hn)⟩
theorem JS.put {a b r:Nat} (h:JS sn fn dn kn bx ss op fs l S) (g:Yo ss op fs a b r):JP sn fn dn kn bx ss op 1 fs l S fs (Yf l (kab a b) (nod a b) (.int (r:Int))) (S.set kn (vm (Yf l (kab a b) (nod a b) (.int (r:Int))))):=by
 refine ⟨⟨⟨xt h.st.o h.ks,xt h.st.f h.kf,xt h.st.d h.ne,h.st.nd⟩,h.wf,wY h.kd,fun k y e=> ?_,h.ne⟩,List.prefix_refl _,by omega,zhn,(Kp.refl _).set (.inl (.inr (.inr rfl)))⟩
 rw [zbg] at e
 split at e
 ·rename_i q
  cases e
  exact ⟨a,b,r,q,rfl,g⟩
 ·exact h.kl k y e
end
end
section
variable {fu:Nat} {S S' S2:Sto} {x y z:Xv} {sn fn dn kn:Nat} {fs fs':List zB} {ss:List Nat} {op:Q2→Q2→Q2} {bl:List Xv} {l l':List (NK×Xv×Xv)}
theorem Td (h:xg sn fn dn (.tup bl) fs S) {i:Nat} {f:zB} (hb:bl.length=ss.length) (hi:fs[i]? =some f):W (zW fu [.ref sn,.int (i:Int)] S) fun v S'=>v= .int (lvl ss.length f:Int)∧S'=S:=by
 cases f with
 |leaf q=>rw [show lvl ss.length (.leaf q)=bl.length from hb.symm];exact zf5 h hi
 |fork lv ks=>exact zdK h hi
noncomputable def Kd (ss:List Nat) (fs:List zB) (a lv m k:Nat):Prop:=(∃ks,fs[a]? =some (.fork lv ks)∧ks[m]? =some k)∨(k=a∧∃f,fs[a]? =some f∧lv<lvl ss.length f)
theorem Kd.mono {a lv m k:Nat} (h:Kd ss fs a lv m k) (p:fs<+:fs'):Kd ss fs' a lv m k:=by
 rcases h with ⟨ks,e,h⟩|⟨rfl,f,e,h⟩
 ·exact .inl ⟨ks,yG p e,h⟩
 ·exact .inr ⟨rfl,f,yG p e,h⟩
theorem Kd.lv {a lv m k:Nat} (h:Kd ss fs a lv m k) (w:WF ss fs):∃f,fs[k]? =some f∧lv<lvl ss.length f:=by
 rcases h with ⟨ks,e,h⟩|⟨rfl,f,e,h⟩
 ·obtain ⟨_,f,e1,e2⟩:=(w.ok a lv ks e).2.1 k (List.mem_of_getElem? h)
  exact ⟨f,e1,e2⟩
 ·exact ⟨f,e,h⟩
theorem Kd.va {a lv m k h:Nat} {st:List Nat} {q:Q2} (d:Kd ss fs a lv m k) (v:VA fs st q h a) (e:st[lv]? =some m):∃h',VA fs st q h' k:=by
 rcases d with ⟨ks,e1,e2⟩|⟨rfl,_⟩
 ·obtain ⟨k',h',e3,v⟩:=v.kid e1 e
  rw [e2] at e3
  cases e3
  exact ⟨h',v⟩
 ·exact ⟨h,v⟩
theorem Kd.vb {a lv m s k:Nat} (d:Kd ss fs a lv m k) (w:WF ss fs) (v:Vb ss fs a) (es:ss[lv]? =some s) (hm:m<s):Vb ss fs k:=by
 intro st hs q h u
 rcases d with ⟨ks,e1,e2⟩|⟨rfl,_⟩
 ·obtain ⟨_,f,e3,e4⟩:=(w.ok a lv ks e1).2.1 k (List.mem_of_getElem? e2)
  have hl:lv<st.length:=by rw [hs.1];exact (List.getElem?_eq_some_iff.1 es).1
  exact v _ (hs.set es hm) q _ (.fork e1 (by rw [List.getElem?_set,if_pos rfl,if_pos hl]) e2 (u.other w zf8 e3 e4))
 ·exact v st hs q h u
theorem zdQ (h:xg sn fn dn (.tup bl) fs S) (w:WF ss fs) (hb:bl.length=ss.length) {a lv m s:Nat} {f:zB} (e:fs[a]? =some f) (hl:lv≤lvl ss.length f) (es:ss[lv]? =some s) (hm:m<s):∃k,Kd ss fs a lv m k∧W (wn fu [.ref sn,.int (a:Int),.int (lv:Int),.int (m:Int)] S) fun v S'=>v= .int (k:Int)∧S'=S:=by
 have go:∀k:Nat,(∀z:(lvl ss.length f:Int)=(lv:Int),∃ks,f= .fork lv ks∧ks[m]? =some k)→((lvl ss.length f:Int)≠(lv:Int)→k=a)→W (wn fu [.ref sn,.int (a:Int),.int (lv:Int),.int (m:Int)] S) fun v S'=>v= .int (k:Int)∧S'=S:=by
  intro k h1 h2
  walk_at "wr";unfold vM
  refine yE (Wm (vQ (Wz (yz ?_))))
  walk_at "w"
  refine ⟨_,_,rfl,h.o,rfl,?_⟩
  walk_at "w"
  refine (Td h hb e).imp ?_
  rintro _ _ ⟨rfl,rfl⟩
  walk_at "w"
  refine wa (fun z=> ?_) (fun z=> ?_)
  ·obtain ⟨ks,rfl,ek⟩:=h1 z
   refine Wz (yz ?_)
   walk_at "w"
   refine ⟨_,_,rfl,h.o,rfl,?_⟩
   walk_at "w"
   refine (zf6 h e).imp ?_
   rintro _ _ ⟨rfl,rfl⟩
   walk_at "w"
   exact zA rfl (zN (YM ek)) ⟨rfl,rfl⟩
  ·walk_at "w"
   exact ⟨by rw [h2 z],rfl⟩
 by_cases hq:lvl ss.length f=lv
 ·cases f with
  |leaf q=>
   have:=(List.getElem?_eq_some_iff.1 es).1
   have:ss.length=lv:=hq
   omega
  |fork lw ks=>
   have hq:lw=lv:=hq
   subst hq
   obtain ⟨⟨s',es',hs⟩,_⟩:=w.ok a lw ks e
   rw [es] at es'
   cases es'
   have ek:ks[m]? =some ks[m]:=List.getElem?_eq_getElem (by omega)
   exact ⟨ks[m],.inl ⟨ks,e,ek⟩,go _ (fun _=>⟨ks,rfl,ek⟩) (fun z=>absurd rfl z)⟩
 ·exact ⟨a,.inr ⟨rfl,f,e,by omega⟩,go a (fun z=>absurd (Int.ofNat_inj.1 z) hq) (fun _=>rfl)⟩
noncomputable def wt:List Nat→Nat
 |[]=>2
 |s::r=>2+s*wt r
noncomputable def cst (ss:List Nat) (d:Nat):Nat:=wt (ss.drop (ss.length-d))
theorem zhp (h:∀s∈ss,1≤s):∀k,wt (ss.drop k)≤wt ss:=by
 induction ss with
 |nil=>intro k;rw [List.drop_nil];exact Nat.le_refl _
 |cons s r ih=>
  intro k
  cases k with
  |zero=>exact Nat.le_refl _
  |succ k=>
   rw [List.drop_succ_cons]
   have h1:=ih (fun t ht=>h t (List.mem_cons_of_mem _ ht)) k
   have h2:=h s List.mem_cons_self
   have:1*wt r≤s*wt r:=Nat.mul_le_mul_right _ h2
   show _≤2+s*wt r
   omega
theorem zgd (h:∀s∈ss,1≤s) {d d':Nat} (hd:d≤d'):cst ss d≤cst ss d':=by
 unfold cst
 have e:ss.drop (ss.length-d)=(ss.drop (ss.length-d')).drop ((ss.length-d)-(ss.length-d')):=by
  rw [List.drop_drop]
  congr 1
  omega
 rw [e]
 exact zhp (fun s hs=>h s (List.mem_of_mem_drop hs)) _
theorem zge {lv s:Nat} (es:ss[lv]? =some s):cst ss (ss.length-lv)=2+s*cst ss (ss.length-lv-1):=by
 obtain ⟨hl,e⟩:=List.getElem?_eq_some_iff.1 es
 unfold cst
 rw [show ss.length-(ss.length-lv)=lv by omega,show ss.length-(ss.length-lv-1)=lv+1 by omega,List.drop_eq_getElem_cons hl,e]
 rfl
theorem zj3 (a b:Int):zel [a,b]=if b<a then b else a:=by
 unfold zel
 simp only [List.headD_cons,List.foldl_cons,List.foldl_nil,Int.lt_irrefl,if_false]
end
section
variable {fu:Nat} {S S' S2:Sto} {x y z:Xv} {sn fn dn kn:Nat} {fs fs':List zB} {ss:List Nat} {op:Q2→Q2→Q2} {bl:List Xv} {l l':List (NK×Xv×Xv)}
structure Bx (ss:List Nat) (bl:List Xv):Prop where
 len:bl.length=ss.length
 at_:∀(i s:Nat),ss[i]? =some s→∃nm:Xv,bl[i]? =some (.tup [nm,.int (s:Int)])
 siz:∀s∈ss,1≤s∧s≤90
noncomputable def Jn (fu sn fn dn kn:Nat) (bl:List Xv) (ss:List Nat) (op:Q2→Q2→Q2) (xs:Xv) (rj:TwF) (d c:Nat):Prop:=
 ∀{S:Sto} {fs:List zB} {l:List (NK×Xv×Xv)} {a b:Nat} {fa fb:zB},JS sn fn dn kn (.tup bl) ss op fs l S→fs[a]? =some fa→fs[b]? =some fb→ss.length≤lvl ss.length fa+d→ss.length≤lvl ss.length fb+d→Vb ss fs a→Vb ss fs b→fs.length+c≤1000000→l.length+c≤1000000→
  W (rj [.ref sn,nod a b,xs,.ref kn] S) fun v S'=>∃(r:Nat) (fs':List zB) (l':List (NK×Xv×Xv)),v= .int (r:Int)∧Yo ss op fs' a b r∧JP sn fn dn kn (.tup bl) ss op c fs l S fs' l' S'
theorem zhq (hbx:Bx ss bl) {xs:Xv} {rj rb:TwF} {lv s c a b:Nat} {fa fb:zB} (hj:Jn fu sn fn dn kn bl ss op xs rj (ss.length-lv-1) c) (h:JS sn fn dn kn (.tup bl) ss op fs l S) (ea:fs[a]? =some fa) (eb:fs[b]? =some fb) (es:ss[lv]? =some s)
  (ha:lv≤lvl ss.length fa) (hb:lv≤lvl ss.length fb) (hm:lvl ss.length fa=lv∨lvl ss.length fb=lv) (va:Vb ss fs a) (vb:Vb ss fs b) (hf:fs.length+(1+s*c)≤1000000) (hl:l.length+(1+s*c)≤1000000):
  W (zT 4 4 (yr fu rj rb) [.ref sn,nod a b,xs,.ref kn] S) fun v S'=>∃(r:Nat) (fs':List zB) (l':List (NK×Xv×Xv)),v= .int (r:Int)∧Yo ss op fs' a b r∧JP sn fn dn kn (.tup bl) ss op (1+s*c) fs l S fs' l' S':=by
 have hs9:=hbx.siz s (List.mem_of_getElem? es)
 have hlv:=(List.getElem?_eq_some_iff.1 es).1
 walk_at "wr";unfold yr
 refine ya (YF (ZB (zR ?_)))
 refine zdd (x:= .int (a:Int)) (y:= .int (b:Int)) (u:= .int (lvl ss.length fa:Int)) (v:= .int (lvl ss.length fb:Int)) (xi rfl ⟨rfl,rfl⟩) ?_ ?_ ?_
 ·dsimp only [xO,List.map,List.set]
  refine yz ?_
  walk_at "w"
  refine ⟨_,_,rfl,h.st.o,rfl,?_⟩
  walk_at "w"
  exact Td h.st hbx.len ea
 ·dsimp only [xO,List.map,List.set]
  refine yz ?_
  walk_at "w"
  refine ⟨_,_,rfl,h.st.o,rfl,?_⟩
  walk_at "w"
  exact Td h.st hbx.len eb
 walk_at "w"
 refine zhd (ns:=[(lvl ss.length fa:Int),(lvl ss.length fb:Int)]) xP rfl (by simp) ?_
 rw [zj3,show (if (lvl ss.length fb:Int)<(lvl ss.length fa:Int) then (lvl ss.length fb:Int) else (lvl ss.length fa:Int))=(lv:Int) by split<;>omega]
 dsimp only [List.set]
 have j0:=h.jp (List.prefix_append S [.lst [.int (lvl ss.length fa:Int),.int (lvl ss.length fb:Int)]])
 generalize S++[Ce.lst [.int (lvl ss.length fa:Int),.int (lvl ss.length fb:Int)]]=S1 at j0
 walk_at "w"
 have hk0:S.length≤S1.length:=j0.kp.1
 have j1:=j0.app (List.prefix_append S1 [.lst []])
 have hkc:(S1++[Ce.lst []])[S1.length]? =some (.lst (ksX [])):=yQ
 generalize hS2:S1++[Ce.lst []]=S2 at j1 hkc
 refine YG (vI (Wz (Wz (wu ?_))))
 walk_at "w"
 refine ⟨_,_,_,rfl,j1.js.st.o,rfl,?_⟩
 walk_at "w"
 obtain ⟨nm,hbl⟩:=hbx.at_ lv s es
 refine zA (l:=bl) rfl (zN hbl) ?_
 walk_at "w"
 refine ⟨⟨by omega,by omega⟩,_,rfl,?_⟩
 rw [Int.toNat_natCast]
 refine vX (xs:=xh 0 s) (fun i ρ S3=>∃(fs3:List zB) (l3:List (NK×Xv×Xv)) (ks:List Nat) (a6 a7:Option Xv),ρ=[some (.ref sn),some (nod a b),some xs,some (.ref kn),some (.int (lv:Int)),some (.ref S1.length),a6,a7]∧JP sn fn dn kn (.tup bl) ss op (i*c) fs l S fs3 l3 S3∧S3[S1.length]? =some (.lst (ksX ks))∧ks.length=i∧
   ∀(m k:Nat),ks[m]? =some k→∃am bm,Kd ss fs3 a lv m am∧Kd ss fs3 b lv m bm∧Yo ss op fs3 am bm k) (fun _ _ _ _ _=>rfl) ?_ ?_ ?_
 ·rintro i w ρ S3 hw ⟨fs3,l3,ks,a6,a7,rfl,j3,hk3,hkl,hks⟩
  obtain ⟨hi,rfl⟩:=xa hw
  rw [Int.zero_add]
  refine .of rfl ?_
  dsimp only [List.set]
  have w3:=j3.js.wf
  obtain ⟨am,da,ta⟩:=zdQ (fu:=fu) j3.js.st w3 hbx.len (yG j3.pre ea) ha es hi
  obtain ⟨bm,db,tb⟩:=zdQ (fu:=fu) j3.js.st w3 hbx.len (yG j3.pre eb) hb es hi
  refine ya (YF (ZB (zR ?_)))
  refine zdd (x:= .int (a:Int)) (y:= .int (b:Int)) (u:= .int (am:Int)) (v:= .int (bm:Int)) (xi rfl ⟨rfl,rfl⟩) ?_ ?_ ?_
  ·dsimp only [xO,List.map,List.set]
   refine yz ?_
   walk_at "w"
   refine ⟨_,_,rfl,j3.js.st.o,rfl,?_⟩
   walk_at "w"
   exact ta
  ·dsimp only [xO,List.map,List.set]
   refine yz ?_
   walk_at "w"
   refine ⟨_,_,rfl,j3.js.st.o,rfl,?_⟩
   walk_at "w"
   exact tb
  walk_at "w"
  refine zcl yQ ?_
  dsimp only [List.set]
  have j4:=j3.app (List.prefix_append S3 [.lst [.int (am:Int),.int (bm:Int)]])
  have hk4:=yG (List.prefix_append S3 [Ce.lst [.int (am:Int),.int (bm:Int)]]) hk3
  generalize S3++[Ce.lst [.int (am:Int),.int (bm:Int)]]=S4 at j4 hk4
  refine ZC (WA ?_)
  walk_at "w"
  refine ⟨⟨_,zi hk4⟩,zR (yz ?_)⟩
  walk_at "w"
  refine ⟨_,_,rfl,j4.js.st.o,rfl,?_⟩
  walk_at "w"
  obtain ⟨fam,e1,e2⟩:=da.lv w3
  obtain ⟨fbm,e3,e4⟩:=db.lv w3
  have hic:(i+1)*c≤s*c:=Nat.mul_le_mul_right _ hi
  have hic2:(i+1)*c=i*c+c:=Nat.succ_mul i c
  have f3:=j3.fl
  have g3:=j3.ll
  have v1:=va.mono h.wf j3.pre ea
  have v2:=vb.mono h.wf j3.pre eb
  refine (hj j4.js e1 e3 (by omega) (by omega) (da.vb w3 v1 es hi) (db.vb w3 v2 es hi) (by omega) (by omega)).imp ?_
  rintro _ S5 ⟨r,fs5,l5,rfl,gd,j5⟩
  walk_at "w"
  have hne:¬wJ fn dn kn S1.length:=fun z=>by
   have q:∀{n:Nat} {d:Ce},S[n]? =some d→S1.length≠n:=fun {n d} e z=>by have:=(List.getElem?_eq_some_iff.1 e).1;omega
   rcases z with z|z|z
   ·exact q h.st.f z
   ·exact q h.st.d z
   ·exact q h.kd z
  have hk5:=j5.kp.2 _ _ hk4 hne
  have j45:=j4.trans j5
  refine Xz (XA hk5) (by rw [Um];exact zcg (by omega)) ?_
  refine ⟨fs5,l5,ks++[r],_,_,rfl,(j45.set h hk0).more (by omega),?_,by simp [hkl],fun m k e=> ?_⟩
  ·rw [wY hk5,zdL]
  ·rcases Nat.lt_trichotomy m ks.length with hm'|hm'|hm'
   ·rw [List.getElem?_append_left hm'] at e
    obtain ⟨am',bm',d1,d2,g⟩:=hks m k e
    exact ⟨am',bm',d1.mono j5.pre,d2.mono j5.pre,g.mono w3 j5.pre⟩
   ·subst hm'
    rw [List.getElem?_append_right (Nat.le_refl _),Nat.sub_self] at e
    cases e
    rw [hkl]
    exact ⟨am,bm,da.mono j5.pre,db.mono j5.pre,gd⟩
   ·rw [List.getElem?_eq_none (by simp;omega)] at e
    cases e
 ·exact ⟨fs,l,[],none,none,rfl,j1.more (by omega),hkc,rfl,fun m k e=>by simp at e⟩
 ·rintro ρ S3 ⟨fs3,l3,ks,a6,a7,rfl,j3,hk3,hkl,hks⟩
  rw [yg] at j3 hkl
  have w3:=j3.js.wf
  have f3:=j3.fl
  have g3:=j3.ll
  have h0:ks[0]? =some ks[0]:=List.getElem?_eq_getElem (by omega)
  refine yE (yz ?_)
  walk_at "w"
  refine ⟨_,_,rfl,j3.js.st.o,rfl,?_⟩
  walk_at "w"
  refine (zf7 j3.js.st (by omega) hk3 h0 (by omega)).imp ?_
  rintro _ S4 ⟨r,fs4,rfl,fo,ad,g⟩
  have hkf:∀k∈ks,∃f,fs3[k]? =some f∧lv<lvl ss.length f:=fun k hk=>by
   obtain ⟨m,hm'⟩:=List.getElem?_of_mem hk
   obtain ⟨am,bm,d1,d2,gd⟩:=hks m k hm'
   obtain ⟨fam,e1,e2⟩:=d1.lv w3
   obtain ⟨fbm,e3,e4⟩:=d2.lv w3
   obtain ⟨p,q,fr,q1,q2,q3,q4⟩:=gd.lv
   rw [e1] at q1
   rw [e3] at q2
   cases q1
   cases q2
   exact ⟨fr,q3,q4 (lv+1) e2 e4⟩
  have w4:WF ss fs4:=by
   rcases ad with rfl|⟨nall,ad⟩
   ·exact w3
   ·refine w3.fork g.st.nd (.inr ad) es hkl hkf fun z=>nall fun k hk=> ?_
    exact z k hk ks[0] (List.getElem_mem _)
  refine ⟨r,fs4,l3,rfl,⟨⟨fa,fb,?_⟩,fun st hs qa qb h1 h2 v1 v2=> ?_⟩,(j3.trans (JP.grown j3.js w4 g)).more (by omega)⟩
  ·have p4:=j3.pre.trans g.pre
   have lvmin:∀q,q≤lvl ss.length fa→q≤lvl ss.length fb→q≤lv:=fun q h1 h2=>by omega
   obtain ⟨k0,e0,⟨all,rfl⟩|⟨_,e⟩⟩:=fo
   ·obtain ⟨f,e1,e2⟩:=hkf r (List.mem_of_getElem? e0)
    exact ⟨f,yG p4 ea,yG p4 eb,yG g.pre e1,fun q h1 h2=>by have:=lvmin q h1 h2;omega⟩
   ·exact ⟨_,yG p4 ea,yG p4 eb,e,fun q h1 h2=>lvmin q h1 h2⟩
  ·obtain ⟨m,em,hm'⟩:=hs.get es
   have ek:ks[m]? =some ks[m]:=List.getElem?_eq_getElem (by omega)
   obtain ⟨am,bm,d1,d2,gd⟩:=hks m _ ek
   obtain ⟨h1',u1⟩:=(d1.mono g.pre).va v1 em
   obtain ⟨h2',u2⟩:=(d2.mono g.pre).va v2 em
   obtain ⟨h3,u3⟩:=(gd.mono w3 g.pre).va st hs qa qb _ _ u1 u2
   exact ⟨_,fo.va em ek u3⟩
end
section
variable {fu:Nat} {S S' S2:Sto} {x y z:Xv} {sn fn dn kn:Nat} {fs fs':List zB} {ss:List Nat} {op:Q2→Q2→Q2} {bl:List Xv} {l l':List (NK×Xv×Xv)}
theorem zgf {f:zB} {i:Nat} (w:WF ss fs) (e:fs[i]? =some f) (h:isF f=true):lvl ss.length f<ss.length:=by
 cases f with
 |leaf q=>cases h
 |fork lv ks=>
  obtain ⟨⟨s,es,_⟩,_⟩:=w.ok i lv ks e
  exact (List.getElem?_eq_some_iff.1 es).1
theorem zgg (hbx:Bx ss bl) (hz:∃st,vO ss st) {xr:Xv} (hr:Vs fu xr op):∀(d N:Nat),2*d+1≤N→Jn fu sn fn dn kn bl ss op (.lam VB [.ref sn,xr]) (zC fu N) d (cst ss d):=by
 intro d
 induction d using Nat.strongRecOn with
 |_ d ih=>
  intro N hN S fs l a b fa fb h ea eb ha hb va vb hf hl
  obtain ⟨N,rfl⟩:∃M,N=M+1:=⟨N-1,by omega⟩
  have c2:2≤cst ss d:=by unfold cst;cases ss.drop (ss.length-d)<;>simp [wt]
  rw [vD]
  walk_at "wr";unfold wo
  refine ya (zaU (fun ρ S2=>∃(a4:Option Xv) (r:Nat) (fs':List zB) (l':List (NK×Xv×Xv)),ρ=[some (.ref sn),some (nod a b),some (.lam VB [.ref sn,xr]),some (.ref kn),a4]∧Yo ss op fs' a b r∧yw l' (kab a b)=some (.int (r:Int))∧JP sn fn dn kn (.tup bl) ss op (cst ss d) fs l S fs' l' S2) (yv ?_) ?_)
  ·refine vQ (zdC ?_)
   walk_at "w"
   refine ⟨_,VZ h.kd (Up a b) rfl,_,rfl,fun z=> ?_,fun z=>yd ?_⟩
   ·refine ya (YF (zcb rfl Ug ?_))
    walk_at "w"
    unfold zdI
    refine Uh rfl rfl ?_
    unfold zjY
    dsimp only [List.map,HAppend.hAppend,Append.append,List.append]
    refine yz ?_
    walk_at "w"
    refine ⟨_,_,rfl,h.st.o,rfl,?_⟩
    walk_at "w"
    have leafFb:∀{i:Nat} {f:zB},fs[i]? =some f→Vb ss fs i→∀q,f= .leaf q→Fb q:=fun {i f} e v q eq=>by
     obtain ⟨st,hs⟩:=hz
     subst eq
     exact v st hs q 0 (.leaf e)
    refine (zgc (by omega) h.st ea eb hr (leafFb ea va) (leafFb eb vb)).imp ?_
    rintro w S1 (⟨rfl,hF,p⟩|⟨qa,qb,i,fs1,rfl,rfl,rfl,e1,ad,g⟩)
    ·dsimp only [List.set]
     refine US (Wm (vQ (zfB ?_)))
     walk_at "w"
     refine WO.of (show zcN .non S1=some (.bl true,S1) from rfl) ⟨_,rfl,fun _=> ?_,fun z=>by cases z⟩
     have j1:=h.jp p
     refine yz ?_
     walk_at "w"
     refine ⟨_,_,rfl,j1.js.st.o,rfl,?_⟩
     walk_at "w"
     have key:∃lv s,ss[lv]? =some s∧lv≤lvl ss.length fa∧lv≤lvl ss.length fb∧(lvl ss.length fa=lv∨lvl ss.length fb=lv):=by
      have hlt:min (lvl ss.length fa) (lvl ss.length fb)<ss.length:=by
       rw [Bool.or_eq_true] at hF
       rcases hF with hF|hF
       ·have:=zgf h.wf ea hF;omega
       ·have:=zgf h.wf eb hF;omega
      exact ⟨_,_,List.getElem?_eq_getElem hlt,by omega,by omega,by omega⟩
     obtain ⟨lv,s,es,l1,l2,l3⟩:=key
     have hlv:=(List.getElem?_eq_some_iff.1 es).1
     obtain ⟨M,rfl⟩:∃M,N=M+1:=⟨N-1,by omega⟩
     rw [xG]
     have hc:2+s*cst ss (ss.length-lv-1)≤cst ss d:=by
      rw [←zge es]
      exact zgd (fun t ht=>(hbx.siz t ht).1) (by omega)
     refine (zhq hbx (ih (ss.length-lv-1) (by omega) M (by omega)) j1.js ea eb es l1 l2 l3 va vb (by omega) (by omega)).imp ?_
     rintro _ S2 ⟨r,fs2,l2',rfl,gd,j2⟩
     walk_at "w"
     have jl:=j2.ll
     refine ⟨_,zdN j2.js.kd (Up a b) rfl (Nat.lt_of_le_of_lt (show l2'.length≤1000000 by omega) (by decide)),_,r,fs2,_,rfl,gd,?_,((j1.trans j2).trans (j2.js.put gd)).more (by omega)⟩
     rw [zbg,if_pos rfl]
    ·dsimp only [List.set]
     refine US (Wm (vQ (zfB ?_)))
     walk_at "w"
     refine WO.of (show zcN (.int (i:Int)) S1=some (.bl false,S1) from rfl) ⟨_,rfl,fun z=>(by cases z),fun _=> ?_⟩
     walk_at "w"
     have w1:WF ss fs1:=h.wf.leaf g.st.nd ad
     have j1:=JP.grown h w1 g
     have gd:Yo ss op fs1 a b i:=by
      refine ⟨⟨_,_,_,yG g.pre ea,yG g.pre eb,e1,fun q h1 _=>h1⟩,fun st hs pa pb h1 h2 v1 v2=>⟨0,?_⟩⟩
      have q1:=v1.uniq (.leaf (h:=0) (yG g.pre ea))
      have q2:=v2.uniq (.leaf (h:=0) (yG g.pre eb))
      subst q1 q2
      exact .leaf e1
     refine ⟨_,zdN j1.js.kd (Up a b) rfl (Nat.lt_of_le_of_lt (show l.length≤1000000 by omega) (by decide)),_,i,fs1,_,rfl,gd,?_,(j1.trans (j1.js.put gd)).more (by omega)⟩
     rw [zbg,if_pos rfl]
   ·cases e:yw l (kab a b) with
    |none=>rw [e] at z;cases z
    |some y=>
     obtain ⟨a',b',r,e1,rfl,gd⟩:=h.kl _ _ e
     obtain ⟨rfl,rfl⟩:=zho e1
     exact ⟨none,r,fs,l,rfl,gd,e,(h.jp (List.prefix_refl _)).more (by omega)⟩
  ·rintro _ S2 ⟨a4,r,fs',l',rfl,gd,hv,j⟩
   refine yE (zb2 ?_)
   walk_at "w"
   exact ⟨_,by rw [VZ j.js.kd (Up a b) rfl,hv],r,fs',l',rfl,gd,j⟩
end
section
variable {fu:Nat} {S S' S2:Sto} {x y z:Xv} {sn fn dn kn:Nat} {fs fs':List zB} {ss:List Nat} {op:Q2→Q2→Q2} {bl:List Xv}
structure Tb (S:Sto):Prop where
 t1:S[1]? =some (.tab WJ.t)
 t2:S[2]? =some (.tab WK.t)
 t3:S[3]? =some (.tab WL.t)
 t4:S[4]? =some (.tab VB.t)
theorem Tb.keep {w:Nat→Prop} (h:Tb S) (k:Kp w S S') (n1:¬w 1) (n2:¬w 2) (n3:¬w 3) (n4:¬w 4):Tb S':=⟨k.2 _ _ h.t1 n1,k.2 _ _ h.t2 n2,k.2 _ _ h.t3 n3,k.2 _ _ h.t4 n4⟩
theorem Tb.ne (h:Tb S) {n:Nat} {c:Ce} (e:S[n]? =some c) (hc:∀t,c≠ .tab t):1≠n∧2≠n∧3≠n∧4≠n:=by
 refine ⟨?_,?_,?_,?_⟩<;>intro z<;>rw [←z] at e
 ·rw [h.t1] at e;cases e;exact hc _ rfl
 ·rw [h.t2] at e;cases e;exact hc _ rfl
 ·rw [h.t3] at e;cases e;exact hc _ rfl
 ·rw [h.t4] at e;cases e;exact hc _ rfl
theorem Tb.pre (h:Tb S) (p:S<+:S'):Tb S':=h.keep (Kp.pre (w:=fun _=>False) p) id id id id
theorem Tb.grown {m:Nat} {bx:Xv} (h:Tb S) (s:xg sn fn dn bx fs S) (g:yO sn fn dn bx fs m S fs' S'):Tb S':=by
 obtain ⟨a1,a2,a3,a4⟩:=h.ne s.f (fun t=>by simp)
 obtain ⟨b1,b2,b3,b4⟩:=h.ne s.d (fun t=>by cases fs<;>simp [Yn])
 exact h.keep g.kp (fun z=>z.elim a1 b1) (fun z=>z.elim a2 b2) (fun z=>z.elim a3 b3) (fun z=>z.elim a4 b4)
structure Bx9 (ss:List Nat) (bl:List Xv):Prop extends Bx ss bl where
 l9:ss.length≤9
theorem Wr (hbx:Bx9 ss bl) (hz:∃st,vO ss st) {xr:Xv} (hr:Vs fu xr op) (h:xg sn fn dn (.tup bl) fs S) (w:WF ss fs) (ht:Tb S) {a b:Nat} {fa fb:zB} (ea:fs[a]? =some fa) (eb:fs[b]? =some fb) (va:Vb ss fs a) (vb:Vb ss fs b) (hf:fs.length+cst ss ss.length≤1000000) (hc:cst ss ss.length≤1000000):
  W (yD fu [.ref sn,nod a b,xr] S) fun v S'=>∃(r:Nat) (fs':List zB),v= .int (r:Int)∧Yo ss op fs' a b r∧WF ss fs'∧yO sn fn dn (.tup bl) fs (cst ss ss.length) S fs' S':=by
 walk_at "wr";unfold xH
 refine yE (WE ?_)
 walk_at "w"
 refine ⟨_,_,rfl,h.o,rfl,?_⟩
 refine zR (xi rfl (zR (za5 ht.t4 rfl ?_)))
 walk_at "w"
 have p:=List.prefix_append S [Ce.dk []]
 have hd:=(List.getElem?_eq_some_iff.1 h.d).1
 have js:JS sn fn dn S.length (.tup bl) ss op fs [] (S++[.dk []]):=⟨h.pre p,w,yQ,fun k y e=>by simp [yw] at e,by omega⟩
 refine (zgg hbx.toBx hz hr ss.length 24 (by have:=hbx.l9;omega) js ea eb (by omega) (by omega) va vb hf (by simpa using hc)).imp ?_
 rintro _ S2 ⟨r,fs2,l2,rfl,gd,j⟩
 refine ⟨r,fs2,rfl,gd,j.js.wf,⟨j.js.st,j.pre,j.fl,⟨by have:=j.kp.1;rw [List.length_append] at this;omega,fun n c e nw=> ?_⟩⟩⟩
 have hn:=(List.getElem?_eq_some_iff.1 e).1
 exact j.kp.2 _ _ (yG p e) fun z=>by
  rcases z with z|z|z
  ·exact nw (.inl z)
  ·exact nw (.inr z)
  ·omega
theorem zgh (hbg:Big fu):Vs fu (.lam WJ []) zeo:=⟨WJ,[],zam fu,rfl,Ug,fun ha hb e=>by
 unfold zam
 refine Uh rfl rfl ?_
 unfold zjS
 dsimp only [List.map,HAppend.hAppend,Append.append,List.append]
 walk_at "w"
 refine zP (zi e) xD ?_
 walk_at "w"
 refine zP (zi e) xn ?_
 walk_at "w"
 refine (ziY hbg ha hb).imp ?_
 rintro _ _ ⟨rfl,rfl⟩
 exact ⟨rfl,rfl⟩⟩
theorem zgi (hbg:Big fu):Vs fu (.lam WK []) zep:=⟨WK,[],zan fu,rfl,(za2 (by decide)).trans Ug,fun ha hb e=>by
 unfold zan
 refine Uh rfl rfl ?_
 unfold zjU
 dsimp only [List.map,HAppend.hAppend,Append.append,List.append]
 walk_at "w"
 refine zP (zi e) xD ?_
 walk_at "w"
 refine zP (zi e) xn ?_
 walk_at "w"
 refine (zhm hbg ha hb).imp ?_
 rintro _ _ ⟨rfl,rfl⟩
 exact ⟨rfl,rfl⟩⟩
theorem zgj:Vs fu (.lam WL []) VQ:=⟨WL,[],zao fu,rfl,(za2 (by decide)).trans ((za2 (by decide)).trans Ug),fun ha hb e=>by
 unfold zao
 refine Uh rfl rfl ?_
 unfold zjW
 dsimp only [List.map,HAppend.hAppend,Append.append,List.append]
 walk_at "w"
 refine zP (zi e) xD ?_
 walk_at "w"
 refine zP (zi e) xn ?_
 walk_at "w"
 refine (zer ha hb).imp ?_
 rintro _ _ ⟨rfl,rfl⟩
 exact ⟨rfl,rfl⟩⟩
noncomputable def opW (w:Nat):Q2→Q2→Q2:=match w with
 |0=>zeo
 |1=>zep
 |_=>VQ
noncomputable def VC (w:Nat):Str:=match w with
 |0=>"sum"
 |1=>"product"
 |_=>"greater"
theorem zj4 (hbg:Big fu) (hbx:Bx9 ss bl) (hz:∃st,vO ss st) {wd:Nat} (hw:wd<3) (h:xg sn fn dn (.tup bl) fs S) (w:WF ss fs) (ht:Tb S) {a b:Nat} {fa fb:zB} (ea:fs[a]? =some fa) (eb:fs[b]? =some fb) (va:Vb ss fs a) (vb:Vb ss fs b) (hf:fs.length+cst ss ss.length≤1000000) (hc:cst ss ss.length≤1000000):
  W (yc fu [.ref sn,.str (VC wd),.int (a:Int),.int (b:Int)] S) fun v S'=>∃(r:Nat) (fs':List zB),v= .int (r:Int)∧Yo ss (opW wd) fs' a b r∧WF ss fs'∧yO sn fn dn (.tup bl) fs (cst ss ss.length) S fs' S':=by
 walk_at "wr";unfold xL
 match wd,hw with
 |0,_=>
  refine ya (yv ?_)
  walk_at "w"
  refine yM ⟨_,rfl,fun _=> ?_,fun z=>absurd z (by decide)⟩
  refine yE (yz ?_)
  walk_at "w"
  refine ⟨_,_,rfl,h.o,rfl,?_⟩
  walk_at "w"
  walk_at "wr";unfold Zt
  refine yE (WE ?_)
  walk_at "w"
  refine ⟨_,_,rfl,h.o,rfl,?_⟩
  refine zR (zaT ?_)
  walk_at "w"
  refine za5 ht.t1 rfl ?_
  walk_at "w"
  exact Wr hbx hz (zgh hbg) h w ht ea eb va vb hf hc
 |1,_=>
  refine ya (yv ?_)
  walk_at "w"
  refine yM ⟨_,rfl,fun z=>absurd z (by decide),fun _=>yd ?_⟩
  refine ya (yv ?_)
  walk_at "w"
  refine yM ⟨_,rfl,fun _=> ?_,fun z=>absurd z (by decide)⟩
  refine yE (yz ?_)
  walk_at "w"
  refine ⟨_,_,rfl,h.o,rfl,?_⟩
  walk_at "w"
  walk_at "wr";unfold xZ
  refine yE (WE ?_)
  walk_at "w"
  refine ⟨_,_,rfl,h.o,rfl,?_⟩
  refine zR (zaT ?_)
  walk_at "w"
  refine za5 ht.t2 rfl ?_
  walk_at "w"
  exact Wr hbx hz (zgi hbg) h w ht ea eb va vb hf hc
 |2,_=>
  refine ya (yv ?_)
  walk_at "w"
  refine yM ⟨_,rfl,fun z=>absurd z (by decide),fun _=>yd ?_⟩
  refine ya (yv ?_)
  walk_at "w"
  refine yM ⟨_,rfl,fun z=>absurd z (by decide),fun _=>yd ?_⟩
  refine yE (yz ?_)
  walk_at "w"
  refine ⟨_,_,rfl,h.o,rfl,?_⟩
  walk_at "w"
  walk_at "wr";unfold vN
  refine yE (WE ?_)
  walk_at "w"
  refine ⟨_,_,rfl,h.o,rfl,?_⟩
  refine zR (zaT ?_)
  walk_at "w"
  refine za5 ht.t3 rfl ?_
  walk_at "w"
  exact Wr hbx hz zgj h w ht ea eb va vb hf hc
end
section
variable {fu:Nat} {S S' S2:Sto} {x y z:Xv} {ss:List Nat}
noncomputable def prd:List Nat→Nat
 |[]=>1
 |s::r=>s*prd r
noncomputable def idx:List Nat→List Nat→Nat
 |_::r,x::t=>x*prd r+idx r t
 |_,_=>0
theorem WZ:∀(r:List Nat) (s:Nat),prd (r++[s])=prd r*s
 |[],s=>by simp [prd]
 |a::r,s=>by rw [List.cons_append,prd,prd,WZ r s,Nat.mul_assoc]
theorem zcp:∀(r t:List Nat) (s x:Nat),r.length=t.length→idx (r++[s]) (t++[x])=idx r t*s+x
 |[],[],s,x,_=>by simp [idx,prd]
 |[],_::_,_,_,h=>by cases h
 |_::_,[],_,_,h=>by cases h
 |a::r,y::t,s,x,h=>by
  rw [List.cons_append,List.cons_append,idx,idx,zcp r t s x (by simpa using h),WZ,Nat.add_mul,Nat.mul_assoc]
  omega
structure Va (ss:List Nat) (L:List (List Nat)):Prop where
 len:L.length=prd ss
 at_:∀(k:Nat) st,L[k]? =some st→vO ss st∧idx ss st=k
noncomputable def Te (s:Nat) (st:List Nat):List (List Nat):=(List.range s).map fun x=>st++[x]
theorem Vc {s:Nat} {st:List Nat}:(Te s st).length=s:=by simp [Te]
theorem zhr {s k:Nat} {st w:List Nat} (h:(Te s st)[k]? =some w):k<s∧w=st++[k]:=by
 unfold Te at h
 rw [List.getElem?_map] at h
 cases e:(List.range s)[k]? with
 |none=>rw [e] at h;cases h
 |some x=>
  rw [e] at h
  cases h
  obtain ⟨h1,h2⟩:=List.getElem?_eq_some_iff.1 e
  simp at h1 h2
  exact ⟨h1,by rw [h2]⟩
theorem zdR {s:Nat} (hs:0<s):∀(L:List (List Nat)) (k:Nat) (w:List Nat),(L.flatMap (Te s))[k]? =some w→∃st,L[k / s]? =some st∧w=st++[k % s]
 |[],k,w,h=>by simp at h
 |a::L,k,w,h=>by
  rw [List.flatMap_cons] at h
  by_cases hk:k<s
  ·rw [List.getElem?_append_left (by rw [Vc];exact hk)] at h
   obtain ⟨h1,h2⟩:=zhr h
   exact ⟨a,by rw [Nat.div_eq_of_lt hk];rfl,by rw [Nat.mod_eq_of_lt hk];exact h2⟩
  ·rw [List.getElem?_append_right (by rw [Vc];omega),Vc] at h
   obtain ⟨st,h1,h2⟩:=zdR hs L (k-s) w h
   have hd:k / s=(k-s) / s+1:=Nat.div_eq_sub_div hs (by omega)
   have hm:k % s=(k-s) % s:=Nat.mod_eq_sub_mod (by omega)
   exact ⟨st,by rw [hd];exact h1,by rw [hm];exact h2⟩
theorem Tf {s:Nat}:∀(L:List (List Nat)),(L.flatMap (Te s)).length=L.length*s
 |[]=>by simp
 |a::L=>by rw [List.flatMap_cons,List.length_append,Vc,Tf L,List.length_cons,Nat.succ_mul];omega
theorem vO.snoc {st:List Nat} {s x:Nat} (h:vO ss st) (hx:x<s):vO (ss++[s]) (st++[x]):=by
 refine ⟨by simp [h.1],fun i a t e1 e2=> ?_⟩
 rcases Nat.lt_trichotomy i ss.length with hi|hi|hi
 ·rw [List.getElem?_append_left (by rw [h.1];exact hi)] at e1
  rw [List.getElem?_append_left hi] at e2
  exact h.2 i a t e1 e2
 ·subst hi
  rw [List.getElem?_append_right (Nat.le_refl _),Nat.sub_self] at e2
  rw [List.getElem?_append_right (Nat.le_of_eq h.1),h.1,Nat.sub_self] at e1
  cases e1
  cases e2
  exact hx
 ·rw [List.getElem?_eq_none (by simp;omega)] at e2
  cases e2
theorem Va.ext {L:List (List Nat)} {s:Nat} (h:Va ss L) (hs:0<s):Va (ss++[s]) (L.flatMap (Te s)):=by
 refine ⟨by rw [Tf,h.len,WZ],fun k w e=> ?_⟩
 obtain ⟨st,h1,rfl⟩:=zdR hs L k w e
 obtain ⟨h2,h3⟩:=h.at_ _ st h1
 refine ⟨h2.snoc (Nat.mod_lt _ hs),?_⟩
 rw [zcp _ _ _ _ h2.1.symm,h3,Nat.mul_comm]
 exact Nat.div_add_mod k s
theorem Va.nil:Va [] [[]]:=⟨rfl,fun k st e=>by
 cases k with
 |zero=>cases e;exact ⟨⟨rfl,fun i x s e=>by simp at e⟩,rfl⟩
 |succ k=>simp at e⟩
noncomputable def YY (L:List (List Nat)):List Xv:=L.map fun st=> .tup (ksX st)
theorem zex {zs:List Xv} (h:yf S y=some zs):XT S y=some zs:=by
 cases y with
 |ref n=>exact h
 |_=>cases h
theorem zey {P:Xv→Sto→Prop} {n:Nat} {l zs:List Xv} (h:UI S x=some (n,l)) (h2:yf S y=some zs) (hl:l.length+zs.length≤sizeLine) (k:P .non (S.set n (.lst (l++zs)))):WO (Wt x [y] S) P:= .of (by
 unfold Wt
 rw [h]
 dsimp only
 rw [show XT S y=some zs from zex h2,Option.bind_some,if_pos hl]) k
theorem zhs {P:Xv→Sto→Prop} {a b:List Xv} (h:a.length+b.length≤1000) (k:P (.tup (a++b)) S):WO (Vy (.tup a) (.tup b) S) P:= .of (by unfold Vy;exact if_pos (Nat.le_of_lt (Nat.lt_of_le_of_lt h (by decide)))) k
theorem zbh {n:Nat} (h:n≤1000):n<sizeLine:=Nat.lt_of_le_of_lt h (by decide)
noncomputable abbrev K0:Nat→Prop:=fun _=>False
theorem zht {L:List (List Nat)} {k:Nat} {st:List Nat} (h:L[k]? =some st):(YY L)[k]? =some (.tup (ksX st)):=by unfold YY;rw [List.getElem?_map,h];rfl
theorem zcq {L:List (List Nat)} {k:Nat} {w:Xv} (h:(YY L)[k]? =some w):∃st,L[k]? =some st∧w= .tup (ksX st):=by
 unfold YY at h
 rw [List.getElem?_map] at h
 cases e:L[k]? with
 |none=>rw [e] at h;cases h
 |some st=>rw [e] at h;cases h;exact ⟨st,rfl,rfl⟩
theorem Xu (L:List (List Nat)):(YY L).length=L.length:=by simp [YY]
theorem VD:∀(ss:List Nat) (k:Nat),(∀s∈ss,1≤s)→prd (ss.take k)≤prd ss
 |_,0,h=>by
  rename_i ss
  simp only [List.take_zero,prd]
  induction ss with
  |nil=>exact Nat.le_refl _
  |cons s r ih=>
   have:=ih fun t ht=>h t (List.mem_cons_of_mem _ ht)
   have:=h s List.mem_cons_self
   exact Nat.mul_pos (by omega) (by omega)
 |[],k+1,_=>by simp
 |s::r,k+1,h=>by
  rw [List.take_succ_cons,prd,prd]
  exact Nat.mul_le_mul_left _ (VD r k fun t ht=>h t (List.mem_cons_of_mem _ ht))
theorem vO.len9 {L:List (List Nat)} {k:Nat} {st:List Nat} (h:Va ss L) (e:L[k]? =some st):st.length=ss.length:=(h.at_ k st e).1.1
theorem zcr {bl:List Xv} (hbx:Bx ss bl) (h9:ss.length≤9) (hp:prd ss≤1000):W (wU fu [.tup bl] S) fun v S'=>∃(n:Nat) (L:List (List Nat)),v= .ref n∧S'[n]? =some (.lst (YY L))∧Va ss L∧S.length≤n∧Kp K0 S S':=by
 walk_at "wr";unfold wT
 walk_at "w"
 refine YG (zhY ?_)
 walk_at "w"
 have hpos:∀s∈ss,1≤s:=fun s hs=>(hbx.siz s hs).1
 refine vX (xs:=bl) (fun i ρ S1=>∃(n:Nat) (L:List (List Nat)) (a2 a3 a4:Option Xv),ρ=[some (.tup bl),some (.ref n),a2,a3,a4]∧S1[n]? =some (.lst (YY L))∧Va (ss.take i) L∧S.length≤n∧Kp K0 S S1) (fun _ _ _ _ _=>rfl) ?_ ?_ ?_
 ·rintro i w ρ S1 hw ⟨n,L,a2,a3,a4,rfl,hn,gl,hnl,k1⟩
  have hi:i<ss.length:=by rw [←hbx.len];exact (List.getElem?_eq_some_iff.1 hw).1
  have es:ss[i]? =some ss[i]:=List.getElem?_eq_getElem hi
  obtain ⟨nm,hb⟩:=hbx.at_ i _ es
  rw [hw] at hb
  cases hb
  have hs9:=hbx.siz _ (List.getElem_mem hi)
  have gl2:=gl.ext (s:=ss[i]) hs9.1
  have htk:ss.take i++[ss[i]]=ss.take (i+1):=by rw [List.take_succ_eq_append_getElem hi]
  rw [htk] at gl2
  have hlen2:(L.flatMap (Te ss[i])).length≤1000:=by rw [gl2.len];exact Nat.le_trans (VD ss _ hpos) hp
  refine .of rfl ?_
  dsimp only [List.set]
  walk_at "w"
  refine YG (zae ?_)
  walk_at "w"
  have k2:Kp K0 S (S1++[.lst []]):=k1.app
  have hn2:=yG (List.prefix_append S1 [Ce.lst []]) hn
  have hnl1:=(List.getElem?_eq_some_iff.1 hn).1
  have hS1:=k1.1
  refine ⟨_,zi hn2,_,zi hn2,?_⟩
  refine vX (xs:=YY L) (fun j ρ S2=>∃(a4:Option Xv),ρ=[some (.tup bl),some (.ref n),some (.tup [nm,.int (ss[i]:Int)]),some (.ref S1.length),a4]∧S2[n]? =some (.lst (YY L))∧S2[S1.length]? =some (.lst (YY ((L.take j).flatMap (Te ss[i]))))∧Kp K0 S S2) (fun j ρ S2 _ h=>by obtain ⟨_,_,h,_⟩:=h;exact zi h) ?_ ?_ ?_
  ·rintro j w ρ S2 hw ⟨a4,rfl,h1,h2,k3⟩
   obtain ⟨st,est,rfl⟩:=zcq hw
   have hstl:st.length=i:=by rw [vO.len9 gl est,List.length_take];omega
   have hj:=(List.getElem?_eq_some_iff.1 est).1
   refine .of rfl ?_
   dsimp only [List.set]
   refine ZC (WA ?_)
   walk_at "w"
   refine ⟨⟨_,zi h2⟩,zR (wG (vI ?_))⟩
   walk_at "w"
   refine ⟨⟨by omega,by omega⟩,_,rfl,?_⟩
   rw [Int.toNat_natCast]
   refine we (xs:=xh 0 ss[i]) (by rw [yg];exact Nat.le_of_lt (zcg (by omega))) (fun m es S3=>S3=S2∧es=YY ((List.range m).map fun x=>st++[x])) (fun _ _ _ _ _=>rfl) ?_ ⟨rfl,rfl⟩ ?_
   ·rintro m w es S3 hw hel ⟨rfl,rfl⟩
    obtain ⟨hm,rfl⟩:=xa hw
    rw [Int.zero_add]
    refine .of rfl ?_
    dsimp only [xO,List.map,List.set]
    walk_at "w"
    refine ⟨rfl,?_⟩
    walk_at "w"
    refine zhs (by rw [Um];simp;omega) ⟨rfl,?_⟩
    rw [List.range_succ,List.map_append]
    simp [YY,ksX]
   ·rintro es S3 _ ⟨rfl,rfl⟩
    rw [yg]
    walk_at "w"
    have h2':=yG (List.prefix_append S3 [Ce.lst (YY ((List.range ss[i]).map fun x=>st++[x]))]) h2
    have h1':=yG (List.prefix_append S3 [Ce.lst (YY ((List.range ss[i]).map fun x=>st++[x]))]) h1
    have hl3:((L.take j).flatMap (Te ss[i])).length+ss[i]≤1000:=by
     rw [Tf] at hlen2 ⊢
     rw [List.length_take]
     have:(j+1)*ss[i]≤L.length*ss[i]:=Nat.mul_le_mul_right _ hj
     rw [Nat.succ_mul] at this
     have hmin:min j L.length=j:=by omega
     rw [hmin]
     omega
    refine zey (XA h2') xP (by rw [Xu,Xu,List.length_map,List.length_range];exact Nat.le_of_lt (zbh hl3)) ?_
    refine ⟨some (.tup (ksX st)),rfl,xt h1' (by omega),?_,(k3.app).set (.inr (by omega))⟩
    rw [wY h2',List.take_succ_eq_append_getElem hj,List.flatMap_append,(List.getElem?_eq_some_iff.1 est).2]
    simp [YY,Te]
  ·exact ⟨_,rfl,hn2,yQ,k2⟩
  ·rintro ρ S2 ⟨a4,rfl,h1,h2,k3⟩
   rw [Xu,List.take_length] at h2
   walk_at "w"
   exact ⟨S1.length,_,_,_,_,rfl,h2,gl2,hS1,k3⟩
 ·exact ⟨S.length,[[]],none,none,none,rfl,yQ,Va.nil,Nat.le_refl _,Kp.pre (List.prefix_append _ _)⟩
 ·rintro ρ S1 ⟨n,L,a2,a3,a4,rfl,hn,gl,hnl,k1⟩
  rw [hbx.len,List.take_length] at gl
  walk_at "w"
  exact ⟨n,L,rfl,hn,gl,hnl,k1⟩
end
section
variable {fu:Nat} {S S' S2:Sto} {x y:Xv} {ln:Nat}
theorem zbi {P:Xv→Sto→Prop} {a b:Str} (h:a.length+b.length≤sizeLine) (k:P (.str (a++b)) S):WO (Wx (.str a) (.str b) S) P:= .of (by unfold Wx;exact if_pos h) k
theorem zde {P:Xv→Sto→Prop} {a:Str} {lo hi:Option Int} (h:a.length≤sizeLine) (k:P (.str (Txt.slice a lo hi)) S):WO (UJ (.str a) lo hi S) P:= .of (by unfold UJ;exact if_pos h) k
theorem ZX {n:Nat} (h:n≤100):n≤sizeLine:=Nat.le_of_lt (zcg h)
theorem zi0 {v:Int} (h0:0≤v) (h1:v<26):∃c:Str,c.length=1∧zgX (.str "abcdefghijklmnopqrstuvwxyz") (.int v) S=some (.str c,S):=by
 have all:∀n:Fin 26,(Str.ofString "abcdefghijklmnopqrstuvwxyz").cps.toList[n.1]? =some (97+n.1):=by decide
 obtain ⟨n,rfl⟩:∃n:Nat,v=n:=⟨v.toNat,by omega⟩
 have e:=all ⟨n,by omega⟩
 refine ⟨⟨#[97+n]⟩,rfl,?_⟩
 unfold zgX zjy
 dsimp only
 rw [if_pos (by decide),zcU (by omega) (by rw [Int.toNat_natCast];exact e)]
 rfl
theorem zgk {n:Int} {k:Nat} (hk:k≤8):W (wR fu [.int n,.int (k:Int)] S) fun v S'=>∃z:Str,v= .str z∧z.length=k∧S'=S:=by
 walk_at "wr";unfold Zd
 walk_at "w"
 refine YG (vI ?_)
 walk_at "w"
 refine ⟨⟨by omega,by omega⟩,_,rfl,?_⟩
 refine vX (fun i ρ S2=>∃(m:Int) (z:Str) (a3:Option Xv),ρ=[some (.int m),some (.int (k:Int)),some (.str z),a3]∧z.length=i∧S2=S) (fun _ _ _ _ _=>rfl) ?_ ?_ ?_
 ·rintro i w ρ S2 hw ⟨m,z,a3,rfl,hz,rfl⟩
  obtain ⟨hi,rfl⟩:=xa hw
  refine .of rfl ?_
  dsimp only [List.set]
  walk_at "w"
  refine xX (by decide) ?_
  obtain ⟨c,hc,e⟩:=zi0 (S:=S2) (Int.emod_nonneg m (show (26:Int)≠0 by decide)) (Int.emod_lt_of_pos m (show (0:Int)<26 by decide))
  refine WO.of e ?_
  refine zbi (ZX (by omega)) ?_
  walk_at "w"
  refine Uc (by decide) ?_
  walk_at "w"
  exact ⟨_,_,_,rfl,by rw [Str.length_append];omega,rfl⟩
 ·exact ⟨n,_,none,rfl,rfl,rfl⟩
 ·rintro ρ S2 ⟨m,z,a3,rfl,hz,rfl⟩
  rw [yg,Int.toNat_natCast] at hz
  walk_at "w"
  exact ⟨hz,rfl⟩
noncomputable def Yp (zs:List Str):List Xv:=zs.map Xv.str
theorem zdf {P:Xv→Sto→Prop} {size:Nat} {ρ:Rho} {cap:List (Option Nat)} {e n:TwE} (hs:size≤100)
  (hn:W (n ρ S) fun v S'=>v= .int (size:Int)∧S'=S)
  (he:∀k:Nat,k<size→W (e ((xO cap ρ).set 0 (some (.int (k:Int)))) S) fun v S'=>∃z:Str,v= .str z∧S'=S)
  (k:∀zs:List Str,zs.length=size→P (.ref S.length) (S++[.lst (Yp zs)])):W (xy cap (iR1 n) (gN 0) xm e ρ S) P:=by
 refine wG (vI (hn.imp ?_))
 rintro _ S1 ⟨rfl,rfl⟩
 refine ⟨_,rfl,⟨by omega,by omega⟩,_,rfl,?_⟩
 refine we (by rw [yg];exact ZX (by omega)) (fun i es S2=>S2=S1∧∃zs:List Str,es=Yp zs) (fun _ _ _ _ _=>rfl) ?_ ⟨rfl,[],rfl⟩ ?_
 ·rintro i w es S2 hw hel ⟨rfl,zs,rfl⟩
  obtain ⟨hi,rfl⟩:=xa hw
  rw [Int.zero_add]
  refine .of rfl ?_
  walk_at "w"
  refine ⟨rfl,?_⟩
  refine (he i (by omega)).imp ?_
  rintro _ S3 ⟨z,rfl,rfl⟩
  exact ⟨rfl,zs++[z],by simp [Yp]⟩
 ·rintro es S2 hlen ⟨rfl,zs,rfl⟩
  rw [yg,Int.toNat_natCast] at hlen
  exact k zs (by simpa [Yp] using hlen)
theorem yn.app {T:Sto} (h:yn ln S):yn ln (S++T):=h.keep (Kp.pre (w:=fun _=>False) (List.prefix_append _ _)) id
theorem zhu {m:Nat} (hl:yn ln S) (hm:m≤9):W (ZR fu [.ref ln,.int (m:Int)] S) fun v S'=>∃(n:Nat) (zs:List Str),v= .ref n∧zs.length=m∧S'[n]? =some (.lst (Yp zs))∧S.length≤n∧yn ln S'∧Kp (· =ln) S S':=by
 walk_at "wr";unfold vt
 walk_at "w"
 refine (xk hl (by decide)).imp ?_
 rintro _ S1 ⟨way,rfl,w0,w1,l1,k1⟩
 walk_at "w"
 refine yv ?_
 walk_at "w"
 refine wa (fun hc=> ?_) (fun hc=> ?_)
 ·walk_at "w"
  refine (xk l1.app (by decide)).imp ?_
  rintro _ S2 ⟨tn,rfl,t0,t1,l2,k2⟩
  refine yE ?_
  have hn:¬S1.length=ln:=fun e=>by
   obtain ⟨ns,en⟩:=l1
   have:=(List.getElem?_eq_some_iff.1 en).1
   omega
  have e2:=k2.2 _ _ yQ hn
  refine zdf (size:=m) (by omega) (by walk_at "w";exact ⟨rfl,rfl⟩) ?_ ?_
  ·intro k hk
   dsimp only [xO,List.map,List.set]
   walk_at "w"
   refine xX (by decide) ?_
   have h0:=Int.emod_nonneg (tn+(k:Int)) (show (13:Int)≠0 by decide)
   have h1:=Int.emod_lt_of_pos (tn+(k:Int)) (show (0:Int)<13 by decide)
   generalize (tn+(k:Int)) % 13=j at h0 h1
   obtain ⟨j,rfl⟩:∃jn:Nat,j=(jn:Int):=⟨j.toNat,by omega⟩
   have h1:j<13:=by omega
   refine zP (zi e2) (zN (z:= .str ((["pass","end","lost","set","hand","draw","if","gain","while","look","times","leaf","fork"]:List Str).getD j "")) ?_) ⟨_,rfl,rfl⟩
   match j,h1 with
   |0,_=>rfl
   |1,_=>rfl
   |2,_=>rfl
   |3,_=>rfl
   |4,_=>rfl
   |5,_=>rfl
   |6,_=>rfl
   |7,_=>rfl
   |8,_=>rfl
   |9,_=>rfl
   |10,_=>rfl
   |11,_=>rfl
   |12,_=>rfl
   |j+13,h=>exact absurd h (by omega)
  ·intro zs hz
   have kk:=k1.trans ((Kp.pre (List.prefix_append _ _)).trans k2)
   exact ⟨_,zs,rfl,hz,yQ,kk.1,l2.app,kk.app⟩
 ·walk_at "w"
  refine (xk l1 (by decide)).imp ?_
  rintro _ S2 ⟨c,rfl,c0,c1,l2,k2⟩
  walk_at "w"
  refine (zgk (k:=8) (by decide)).imp ?_
  rintro _ S3 ⟨z,rfl,hz,rfl⟩
  have kk:=k1.trans k2
  refine ya (yv (zfC ?_))
  walk_at "w"
  have go:∀{N:Rho→Sto→Prop} {R:Xv→Sto→Prop},(∀S4,yn ln S4→Kp (· =ln) S S4→∀zs:List Str,zs.length=m→R (.ref S4.length) (S4++[.lst (Yp zs)]))→WS (zu (zJ (zI (zq fu) [(za 0),(eC (.int 1664))]) (gN 6)) (zu (zJ (eOp vA (eC (.int 1)) (eOp Zl (za 6) (eC (.int 8)))) (gN 7)) (zu (zJ (eOp Zl (eOp Ww (za 6) (eC (.int 8))) (za 7)) (gN 8)) (yk (xy [none,some 5,some 7,some 8,some 6] (iR1 (za 1)) (gN 0) xm (eOp Wx (eOp Wx (eSl UJ (za 1) oNo (YQ (za 3))) (zI (wR fu) [(eOp vA (eOp Ww (za 4) (eC (.int 64))) (za 0)),(eC (.int 1))])) (eSl UJ (za 1) (YQ (eOp vA (za 3) (eC (.int 1)))) (YQ (za 2)))))))) [some (.ref ln),some (.int (m:Int)),some (.int way),none,none,some (.str z),none,none,none] S3) N R:=by
   intro N R fin
   walk_at "w"
   refine (xk l2 (by decide)).imp ?_
   rintro _ S4 ⟨d,rfl,d0,d1,l4,k4⟩
   walk_at "w"
   refine xX (by decide) ?_
   walk_at "w"
   refine Uc (by decide) ?_
   walk_at "w"
   have:=Int.emod_nonneg d (show (8:Int)≠0 by decide)
   refine xX (by omega) ?_
   refine yE ?_
   refine zdf (size:=m) (by omega) (by walk_at "w";exact ⟨rfl,rfl⟩) ?_ ?_
   ·intro k hk
    dsimp only [xO,List.map,List.set]
    walk_at "w"
    refine zde (ZX (by omega)) ?_
    walk_at "w"
    refine Uc (by decide) ?_
    walk_at "w"
    refine (zgk (k:=1) (by decide)).imp ?_
    rintro _ S5 ⟨z1,rfl,hz1,rfl⟩
    have s1:=Txt.slice_le z none (some (d / 8 % (1+d % 8)))
    refine zbi (ZX (by omega)) ?_
    walk_at "w"
    refine zde (ZX (by omega)) ?_
    have s2:=Txt.slice_le z (some (d / 8 % (1+d % 8)+1)) (some (1+d % 8))
    refine zbi (ZX (by rw [Str.length_append];omega)) ?_
    exact ⟨_,rfl,rfl⟩
   ·intro zs hz
    exact fin S4 l4 (kk.trans k4) zs hz
  have fin:∀S4,yn ln S4→Kp (· =ln) S S4→∀zs:List Str,zs.length=m→∃(n:Nat) (zs':List Str),Xv.ref S4.length= .ref n∧zs'.length=m∧(S4++[Ce.lst (Yp zs)])[n]? =some (.lst (Yp zs'))∧S.length≤n∧yn ln (S4++[Ce.lst (Yp zs)])∧Kp (· =ln) S (S4++[Ce.lst (Yp zs)]):=fun S4 l4 k4 zs hz=>⟨_,zs,rfl,hz,yQ,k4.1,l4.app,k4.app⟩
  refine wa (fun h2=> ?_) (fun h2=> ?_)
  ·walk_at "w"
   refine wa (fun h3=> ?_) (fun h3=>yd (go fin))
   refine yE ?_
   refine zdf (size:=m) (by omega) (by walk_at "w";exact ⟨rfl,rfl⟩) ?_ ?_
   ·intro k hk
    dsimp only [xO,List.map,List.set]
    walk_at "w"
    refine zde (ZX (by omega)) ?_
    exact ⟨_,rfl,rfl⟩
   ·intro zs hz
    exact fin _ l2 kk zs hz
  ·exact ⟨(fun z=>by cases z),fun _=>yd (go fin)⟩

noncomputable def zj5 (b:Str×Nat):Xv:= .tup [.str b.1,.int (b.2:Int)]
noncomputable def bsX (bs:List (Str×Nat)):List Xv:=bs.map zj5
theorem zhv (bs:List (Str×Nat)):(bsX bs).length=bs.length:=by simp [bsX]
theorem ZY {p:Int} (h:p.natAbs<2^60):intBits p≤60:=PySem.intBits_le_iff.mpr h
theorem yn.lt (h:yn ln S):ln<S.length:=by
 obtain ⟨ns,en⟩:=h
 exact (List.getElem?_eq_some_iff.1 en).1
theorem zj6 {bs:List (Str×Nat)} (h1:∀b∈bs,1≤b.2∧b.2≤9) (h9:bs.length≤9):Bx9 (bs.map (·.2)) (bsX bs):=by
 refine ⟨⟨by simp [bsX],fun i s e=> ?_,fun s hs=> ?_⟩,by simpa using h9⟩
 ·rw [List.getElem?_map] at e
  cases e2:bs[i]? with
  |none=>rw [e2] at e;cases e
  |some b=>
   rw [e2] at e
   cases e
   exact ⟨.str b.1,by unfold bsX;rw [List.getElem?_map,e2];rfl⟩
 ·obtain ⟨b,hb,rfl⟩:=List.mem_map.1 hs
  have:=h1 b hb
  omega
theorem zhw {most:Nat} (h100:1≤most∧most≤1000) (hl:yn ln S):W (ZS fu [.ref ln,.int (most:Int)] S) fun v S'=>∃bs:List (Str×Nat),v= .tup (bsX bs)∧(∀b∈bs,1≤b.2∧b.2≤9)∧bs.length≤9∧prd (bs.map (·.2))≤most∧yn ln S'∧Kp (· =ln) S S':=by
 walk_at "wr";unfold vv
 walk_at "w"
 refine (xk hl (by decide)).imp ?_
 rintro _ S1 ⟨c,rfl,c0,c1,l1,k1⟩
 walk_at "w"
 refine zaU (fun ρ S2=>∃m:Nat,m≤9∧ρ=[some (.ref ln),some (.int (most:Int)),some (.int (m:Int)),none,none,none,none]∧S2=S1) (yv ?_) ?_
 ·walk_at "w"
  refine wa (fun hc=> ?_) (fun hc=> ?_)
  ·walk_at "w"
   refine xX (by decide) ?_
   walk_at "w"
   have h0:=Int.emod_nonneg c (show (3:Int)≠0 by decide)
   have h1:=Int.emod_lt_of_pos c (show (0:Int)<3 by decide)
   exact ⟨(1+c % 3).toNat,by omega,by rw [Int.toNat_of_nonneg (by omega)],rfl⟩
  ·exact yd ⟨c.toNat,by omega,by rw [Int.toNat_of_nonneg (by omega)],rfl⟩
 rintro _ _ ⟨m,hm,rfl,rfl⟩
 walk_at "w"
 refine YG (zae ?_)
 walk_at "w"
 refine (zhu l1 hm).imp ?_
 rintro _ S2 ⟨n,zs,rfl,hz,e2,hn,l2,k2⟩
 have hln:=l1.lt
 refine ⟨_,zi e2,_,zi e2,?_⟩
 refine vX (xs:=Yp zs) (fun i ρ S3=>∃(bs:List (Str×Nat)) (a5 a6:Option Xv),ρ=[some (.ref ln),some (.int (most:Int)),some (.int (m:Int)),some (.tup (bsX bs)),some (.int (prd (bs.map (·.2)):Int)),a5,a6]∧bs.length=i∧(∀b∈bs,1≤b.2∧b.2≤9)∧1≤prd (bs.map (·.2))∧prd (bs.map (·.2))≤most∧yn ln S3∧Kp (· =ln) S2 S3) ?_ ?_ ?_ ?_
 ·rintro i ρ S3 _ ⟨bs,a5,a6,_,_,_,_,_,l3,k3⟩
  exact zi (k3.2 _ _ e2 (show ¬n=ln by omega))
 ·rintro i w ρ S3 hw ⟨bs,a5,a6,rfl,hbl,hbs,p0,p1,l3,k3⟩
  unfold Yp at hw
  rw [List.getElem?_map] at hw
  cases hzi:zs[i]? with
  |none=>rw [hzi] at hw;cases hw
  |some z=>
   rw [hzi] at hw
   cases hw
   have hi:i<zs.length:=(List.getElem?_eq_some_iff.1 hzi).1
   refine .of rfl ?_
   dsimp only [List.set]
   walk_at "w"
   refine (xk l3 (by decide)).imp ?_
   rintro _ S4 ⟨d,rfl,d0,d1,l4,k4⟩
   walk_at "w"
   refine zaU (fun ρ S5=>∃s0:Int,1≤s0∧s0≤9∧ρ=[some (.ref ln),some (.int (most:Int)),some (.int (m:Int)),some (.tup (bsX bs)),some (.int (prd (bs.map (·.2)):Int)),some (.str z),some (.int s0)]∧S4=S5) (yv (zfC ?_)) ?_
   ·have no:∃s0:Int,1≤s0∧s0≤9∧([some (.ref ln),some (.int (most:Int)),some (.int (m:Int)),some (.tup (bsX bs)),some (.int (prd (bs.map (·.2)):Int)),some (.str z),some (.int (1+d))]:Rho)=[some (.ref ln),some (.int (most:Int)),some (.int (m:Int)),some (.tup (bsX bs)),some (.int (prd (bs.map (·.2)):Int)),some (.str z),some (.int s0)]∧S4=S4:=⟨1+d,by omega,by omega,rfl,rfl⟩
    walk_at "w"
    refine ⟨fun _=> ?_,fun _=>⟨nofun,fun _=>yd no⟩⟩
    walk_at "w"
    refine ⟨fun _=> ?_,fun _=>yd no⟩
    walk_at "w"
    refine xX (by decide) ?_
    walk_at "w"
    have h0:=Int.emod_nonneg (1+d) (show (3:Int)≠0 by decide)
    have h1:=Int.emod_lt_of_pos (1+d) (show (0:Int)<3 by decide)
    exact ⟨1+(1+d) % 3,by omega,by omega,rfl,rfl⟩
   rintro _ _ ⟨s0,s1,s2,rfl,rfl⟩
   generalize hp:prd (bs.map (·.2))=p at p0 p1
   walk_at "w"
   refine Ye ⟨by omega,Nat.le_trans (ZY (by omega)) (by decide)⟩ ?_
   rw [Int.fdiv_eq_ediv_of_nonneg _ (by omega)]
   walk_at "w"
   have q0:1≤most / p:=(Nat.le_div_iff_mul_le (by omega)).2 (by omega)
   have q1:p*(most / p)≤most:=Nat.mul_div_le most p
   rw [show (most:Int) / (p:Int)=((most / p:Nat):Int) by rw [Int.natCast_ediv]]
   generalize hs:(if ((most / p:Nat):Int)<s0 then ((most / p:Nat):Int) else s0)=sz
   obtain ⟨s,rfl⟩:∃s:Nat,sz=(s:Int):=⟨sz.toNat,by split at hs<;>omega⟩
   have hs9:1≤s∧s≤9∧s≤most / p:=by split at hs<;>omega
   refine WO.of (show Vy (.tup (bsX bs)) (.tup [.tup [.str z, .int (s : Int)]]) S4 = some (.tup (bsX bs ++ [.tup [.str z, .int (s : Int)]]), S4) by
    unfold Vy
    exact if_pos (by rw [zhv];exact ZX (by simp;omega))) ?_
   walk_at "w"
   have hps:p*s≤most:=Nat.le_trans (Nat.mul_le_mul_left p hs9.2.2) q1
   refine yy (by have:=ZY (p:=(p:Int)) (by omega);have:=ZY (p:=(s:Int)) (by omega);omega) ?_
   walk_at "w"
   have hpp:prd ((bs++[(z,s)]).map (·.2))=p*s:=by rw [List.map_append];show prd (bs.map (·.2)++[s])=_;rw [WZ,hp]
   refine ⟨bs++[(z,s)],_,_,by rw [hpp,Int.natCast_mul,show bsX (bs++[(z,s)])=bsX bs++[.tup [.str z,.int (s:Int)]] by simp [bsX,zj5]],by simp [hbl],?_,by rw [hpp];exact Nat.mul_pos p0 hs9.1,by rw [hpp];exact hps,l4,k3.trans k4⟩
   intro b hb
   rcases List.mem_append.1 hb with hb|hb
   ·exact hbs b hb
   ·rw [List.mem_singleton] at hb
    subst hb
    exact ⟨hs9.1,hs9.2.1⟩
 ·exact ⟨[],none,none,rfl,rfl,(fun b hb=>by cases hb),by decide,h100.1,l2,Kp.refl _⟩
 ·rintro ρ S3 ⟨bs,a5,a6,rfl,hbl,hbs,p0,p1,l3,k3⟩
  walk_at "w"
  refine ⟨hbs,?_,p1,l3,(k1.trans k2).trans k3⟩
  rw [hbl]
  simp [Yp,hz]
  exact hm
theorem zh4 {c:Int} (h0:0≤c) (h:c<2*(10:Int)^60):wb 210 c:=by
 have:2*(10:Int)^60<((2^210:Nat):Int):=by decide
 have h3:(c.natAbs:Int)<((2^210:Nat):Int):=by rw [Int.natAbs_of_nonneg h0];omega
 exact Int.ofNat_lt.1 h3
theorem wb.of_le {p q:Int} {n:Nat} (h:wb n q) (hp:p.natAbs≤q.natAbs):wb n p:=Nat.lt_of_le_of_lt hp h
theorem zhx (hbg:Big fu) (hl:yn ln S):W (ZT fu [.ref ln] S) fun v S'=>∃q:Q2,v=qv q∧Fb q∧yn ln S'∧Kp (· =ln) S S':=by
 walk_at "wr";unfold vw
 walk_at "w"
 refine (xk hl (by decide)).imp ?_
 rintro _ S1 ⟨way,rfl,w0,w1,l1,k1⟩
 walk_at "w"
 refine yv ?_
 walk_at "w"
 have sm:∀{p:Int},p.natAbs≤1000→wb 210 p:=fun {p} h=>Nat.lt_of_le_of_lt h (by decide)
 refine wa (fun hc=> ?_) (fun hc=> ?_)
 ·walk_at "w"
  refine (xk l1 (by decide)).imp ?_
  rintro _ S2 ⟨c,rfl,c0,c1,l2,k2⟩
  walk_at "w"
  refine (xk l2 (by decide)).imp ?_
  rintro _ S3 ⟨d,rfl,d0,d1,l3,k3⟩
  walk_at "w"
  have e10:(10:Int)^(60:Int).toNat=10^60:=rfl
  rw [e10] at c1 d1 ⊢
  have hb:wb 210 (1+d):=zh4 (by omega) (by omega)
  have ht:wb 210 (c-10^60+1):=by
   refine (zh4 (c:=(10:Int)^60) (by decide) (by decide)).of_le ?_
   generalize hX:(10:Int)^60=X at c1 c0 ⊢
   have:0<X:=by rw [←hX];decide
   omega
  refine (WY hbg (by omega) (hb.mono (by decide))).imp ?_
  rintro _ S4 ⟨rfl,rfl⟩
  exact ⟨_,rfl,zga (by omega) ht hb,l3,(k1.trans k2).trans k3⟩
 ·walk_at "w"
  refine yv ?_
  walk_at "w"
  refine wa (fun hc=> ?_) (fun hc=> ?_)
  ·walk_at "w"
   refine (xk l1 (by decide)).imp ?_
   rintro _ S2 ⟨c,rfl,c0,c1,l2,k2⟩
   walk_at "w"
   refine (xk l2 (by decide)).imp ?_
   rintro _ S3 ⟨d,rfl,d0,d1,l3,k3⟩
   walk_at "w"
   refine (WY hbg (by omega) ((sm (by omega)).mono (by decide))).imp ?_
   rintro _ S4 ⟨rfl,rfl⟩
   exact ⟨_,rfl,zga (by omega) (sm (by omega)) (sm (by omega)),l3,(k1.trans k2).trans k3⟩
  ·walk_at "w"
   refine (xk l1 (by decide)).imp ?_
   rintro _ S2 ⟨c,rfl,c0,c1,l2,k2⟩
   walk_at "w"
   refine Uc (by decide) ?_
   walk_at "w"
   exact ⟨(_,_),rfl,⟨show (0:Int)<1 by decide,by simp,sm (by dsimp only;omega),sm (show (1:Int).natAbs≤1000 by decide)⟩,l2,k1.trans k2⟩
end
section
variable {fu:Nat} {S S' S2:Sto} {x y z:Xv} {ss:List Nat} {bl:List Xv} {ln:Nat}
theorem zcs {qs:List Q2} {i:Nat} {q:Q2} (h:qs[i]? =some q):(qs.map qv)[i]? =some (qv q):=by rw [List.getElem?_map,h];rfl
theorem zhy {sp s x k:Nat} (h:sp<100^k) (hs:s≤90) (hx:x<s):sp*s+x<100^(k+1):=by
 rw [Nat.pow_succ]
 have:(sp+1)*s≤100^k*s:=Nat.mul_le_mul_right _ h
 have:100^k*s≤100^k*100:=Nat.mul_le_mul_left _ (by omega)
 rw [Nat.succ_mul] at*
 omega
theorem zdS (hbg:Big fu) (hbx:Bx9 ss bl) (hp:prd ss≤1000) (hl:yn ln S):W (vz fu [.ref ln,.tup bl] S) fun v S'=>∃(n:Nat) (T:List Q2),v= .ref n∧S'[n]? =some (.lst (T.map qv))∧T.length=prd ss∧(∀q∈T,Fb q)∧S.length≤n∧yn ln S'∧Kp (· =ln) S S':=by
 have h9:=hbx.l9
 have hbl:=hbx.len
 walk_at "wr";unfold vy
 refine ya (YF (wG (vI ?_)))
 walk_at "w"
 refine (xk hl (by decide)).imp ?_
 rintro _ S1 ⟨c,rfl,c0,c1,l1,k1⟩
 walk_at "w"
 refine ⟨⟨by omega,by omega⟩,_,rfl,?_⟩
 refine we (xs:=xh 0 (2+c).toNat) (by rw [yg];exact ZX (by omega)) (fun i es S2=>∃qs:List Q2,es=qs.map qv∧qs.length=i∧(∀q∈qs,Fb q)∧yn ln S2∧Kp (· =ln) S S2) (fun _ _ _ _ _=>rfl) ?_ ⟨[],rfl,rfl,(fun q h=>by cases h),l1,k1⟩ ?_
 ·rintro i w es S2 hw hel ⟨qs,rfl,hql,hq,l2,k2⟩
  refine .of rfl ?_
  dsimp only [xO,List.map,List.set]
  walk_at "w"
  refine ⟨rfl,?_⟩
  walk_at "w"
  refine (zhx hbg l2).imp ?_
  rintro _ S3 ⟨q,rfl,fb,l3,k3⟩
  refine ⟨qs++[q],by simp,by simp [hql],fun p hp=> ?_,l3,k2.trans k3⟩
  rcases List.mem_append.1 hp with hp|hp
  ·exact hq p hp
  ·rw [List.mem_singleton] at hp;rw [hp];exact fb
 rintro es S2 _ ⟨qs,rfl,hql,hq,l2,k2⟩
 rw [yg] at hql
 have q2:2≤qs.length∧qs.length≤10:=by omega
 dsimp only [List.set]
 have hln:=hl.lt
 have hsn:S.length≤S2.length:=k2.1
 have l3:yn ln (S2++[.lst (qs.map qv)]):=l2.app
 have k3:Kp (· =ln) S (S2++[.lst (qs.map qv)]):=k2.app
 have hs3:(S2++[Ce.lst (qs.map qv)])[S2.length]? =some (.lst (qs.map qv)):=yQ
 generalize S2++[Ce.lst (qs.map qv)]=S3 at l3 k3 hs3
 have hne:∀{n:Nat},S.length≤n→¬n=ln:=fun h=>by omega
 refine ya (YF (vW (zR (xi rfl (zR (Wz (ZB (zR (xi rfl (YE (WX ?_))))))))))) 
 walk_at "w"
 refine (xk l3 (by omega)).imp ?_
 rintro _ S4 ⟨hold,rfl,ho0,ho1,l4,k4⟩
 dsimp only [List.set]
 walk_at "w"
 refine (xk l4 (by decide)).imp ?_
 rintro _ S5 ⟨one,rfl,a0,a1,l5,k5⟩
 walk_at "w"
 refine (xk l5 (by decide)).imp ?_
 rintro _ S6 ⟨two,rfl,b0,b1,l6,k6⟩
 walk_at "w"
 refine (xk l6 (by decide)).imp ?_
 rintro _ S7 ⟨three,rfl,d0,d1,l7,k7⟩
 walk_at "w"
 have k37:=((k4.trans k5).trans k6).trans k7
 have hs7:=yG (List.prefix_append S7 [Ce.lst []]) (k37.2 _ _ hs3 (hne hsn))
 have k8:Kp (· =ln) S (S7++[.lst []]):=(k3.trans k37).app
 have l8:yn ln (S7++[.lst []]):=l7.app
 have ht8:(S7++[Ce.lst []])[S7.length]? =some (.lst (([]:List Q2).map qv)):=yQ
 have hS7:S.length≤S7.length:=(k3.trans k37).1
 have hne7:S7.length≠S2.length:=fun e=>by
  have:=(List.getElem?_eq_some_iff.1 (k37.2 _ _ hs3 (hne hsn))).1
  omega
 generalize S7++[Ce.lst []]=S8 at hs7 k8 l8 ht8
 refine YG (zae ?_)
 walk_at "w"
 refine (zcr hbx.toBx h9 hp).imp ?_
 rintro _ S9 ⟨n,L,rfl,hn9,gl,hnl,k9⟩
 refine ⟨_,zi hn9,_,zi hn9,?_⟩
 have hs9:=k9.2 _ _ hs7 id
 have ht9:=k9.2 _ _ ht8 id
 have l9:=l8.keep k9 id
 have k89:Kp (· =ln) S S9:=k8.trans (k9.mono fun _ z=>z.elim)
 have hS8:=(List.getElem?_eq_some_iff.1 ht8).1
 refine vX (xs:=YY L) (fun i ρ S10=>∃(T:List Q2) (a8 a9 a10 a11:Option Xv),ρ=[some (.ref ln),some (.tup bl),some (.ref S2.length),some (.int hold),some (.int one),some (.int two),some (.int three),some (.ref S7.length),a8,a9,a10,a11]∧T.length=i∧(∀q∈T,Fb q)∧S10[S7.length]? =some (.lst (T.map qv))∧S10[n]? =some (.lst (YY L))∧S10[S2.length]? =some (.lst (qs.map qv))∧yn ln S10∧Kp (· =ln) S S10) (fun i ρ S10 _ h=>by obtain ⟨_,_,_,_,_,_,_,_,_,h,_⟩:=h;exact zi h) ?_ ?_ ?_
 ·rintro i w ρ S10 hw ⟨T,a8,a9,a10,a11,rfl,hT,hTq,ht,hn,hs,l10,k10⟩
  obtain ⟨st,est,rfl⟩:=zcq hw
  have sok:=(gl.at_ i st est).1
  refine .of rfl ?_
  dsimp only [List.set]
  walk_at "w"
  refine YG (vI (ZB (zR (xi rfl (YE (WX ?_))))))
  refine ⟨_,rfl,⟨by omega,by omega⟩,_,rfl,?_⟩
  rw [Int.toNat_natCast]
  refine vX (xs:=xh 0 bl.length) (fun k ρ S11=>∃(sp:Nat) (a10:Option Xv),ρ=[some (.ref ln),some (.tup bl),some (.ref S2.length),some (.int hold),some (.int one),some (.int two),some (.int three),some (.ref S7.length),some (.tup (ksX st)),some (.int (sp:Int)),a10,a11]∧sp<100^k∧S11=S10) (fun _ _ _ _ _=>rfl) ?_ ?_ ?_
  ·rintro k w ρ S11 hw ⟨sp,a10,rfl,hsp,rfl⟩
   obtain ⟨hk,rfl⟩:=xa hw
   rw [Int.zero_add]
   refine .of rfl ?_
   dsimp only [List.set]
   refine yv ?_
   walk_at "w"
   have es:ss[k]? =some ss[k]:=List.getElem?_eq_getElem (by omega)
   obtain ⟨nm,hb⟩:=hbx.at_ k _ es
   obtain ⟨xx,ex,hx⟩:=sok.get es
   have hsz:=hbx.siz _ (List.mem_of_getElem? es)
   have hpow:(100:Nat)^k≤100^9:=Nat.pow_le_pow_right (by decide) (by omega)
   have h60:(100:Nat)^9<2^60:=by decide
   refine ⟨fun _=> ?_,fun _=>yd ⟨sp,_,rfl,?_,rfl⟩⟩
   ·walk_at "w"
    refine zA (l:=bl) rfl (zN hb) ?_
    walk_at "w"
    refine yy (by have:=ZY (p:=(sp:Int)) (by omega);have:=ZY (p:=(ss[k]:Int)) (by omega);omega) ?_
    walk_at "w"
    refine zA rfl (zN (YM ex)) ?_
    walk_at "w"
    exact ⟨sp*ss[k]+xx,_,by rw [Int.natCast_add,Int.natCast_mul],zhy hsp hsz.2 hx,rfl⟩
   ·exact Nat.lt_of_lt_of_le hsp (Nat.pow_le_pow_right (by decide) (by omega))
  ·exact ⟨0,_,rfl,by decide,rfl⟩
  ·rintro ρ S11 ⟨sp,a10,rfl,hsp,rfl⟩
   have hpow:(100:Nat)^(xh 0 bl.length).length≤100^9:=Nat.pow_le_pow_right (by decide) (by rw [yg];omega)
   have h60:(100:Nat)^9<2^60:=by decide
   have bsp:wb 60 (sp:Int):=by show (sp:Int).natAbs<_;omega
   have bone:wb 60 one:=by show one.natAbs<_;have:(2:Nat)^60=1152921504606846976:=(by decide);omega
   have btwo:wb 60 two:=by show two.natAbs<_;have:(2:Nat)^60=1152921504606846976:=(by decide);omega
   have e1:=bsp.le
   have e2:=bone.le
   have e3:=(bone.mul bsp).le
   have e4:=btwo.le
   walk_at "w"
   refine yy (by omega) ?_
   walk_at "w"
   refine yy (by omega) ?_
   walk_at "w"
   refine yy (by omega) ?_
   walk_at "w"
   refine xX (by decide) ?_
   walk_at "w"
   refine WA ?_
   walk_at "w"
   refine ⟨⟨_,zi ht⟩,?_⟩
   walk_at "w"
   refine Vl (zi hs) ?_
   rw [List.length_map]
   refine xX (by omega) ?_
   generalize hmx:(one*(sp:Int)*(sp:Int)+two*(sp:Int)+three) % 1009=mx
   have g0:=Int.emod_nonneg mx (show (qs.length:Int)≠0 by omega)
   have g1:=Int.emod_lt_of_pos mx (show (0:Int)<(qs.length:Int) by omega)
   obtain ⟨j,hj⟩:∃j:Nat,mx % (qs.length:Int)=(j:Int):=⟨(mx % (qs.length:Int)).toNat,by omega⟩
   rw [hj] at g1 ⊢
   have eq:qs[j]? =some qs[j]:=List.getElem?_eq_getElem (by omega)
   refine zP (zi hs) (zN (zcs eq)) ?_
   walk_at "w"
   have hTl:T.length<1000:=by
    have:=(List.getElem?_eq_some_iff.1 est).1
    rw [gl.len] at this
    omega
   refine Xz (XA ht) (by rw [List.length_map];exact zbh (by omega)) ?_
   refine ⟨T++[qs[j]],_,_,_,_,rfl,by simp [hT],fun q hq'=> ?_,by rw [wY ht];simp,xt hn (by omega),xt hs hne7,?_,k10.set (.inr hS7)⟩
   ·rcases List.mem_append.1 hq' with hq'|hq'
    ·exact hTq q hq'
    ·rw [List.mem_singleton] at hq';rw [hq'];exact hq _ (List.getElem_mem _)
   ·obtain ⟨nl,enl⟩:=l10
    exact ⟨nl,xt enl (by omega)⟩
 ·exact ⟨[],none,none,none,none,rfl,rfl,(fun q h=>by cases h),ht9,hn9,hs9,l9,k89⟩
 ·rintro ρ S10 ⟨T,a8,a9,a10,a11,rfl,hT,hTq,ht,hn,hs,l10,k10⟩
  rw [Xu,gl.len] at hT
  walk_at "w"
  exact ⟨S7.length,T,rfl,ht,hT,hTq,hS7,l10,k10⟩
end
section
variable {fu:Nat} {S S' S2:Sto} {x y z:Xv} {ss:List Nat} {bl:List Xv} {ln sn fn dn:Nat} {fs fs':List zB}
theorem zhz {α:Type} (l:List α) (a b:Nat) (hb:a+b≤l.length):L2.zbM l (some (a:Int)) (some ((a+b:Nat):Int))=(l.drop a).take b:=by
 unfold L2.zbM
 rw [HT.zdk,HT.zdk,Nat.min_eq_left hb,Nat.min_eq_left (show a≤l.length by omega)]
 congr 1
 omega
theorem zgl {lv s:Nat} (es:ss[lv]? =some s):prd (ss.drop lv)=s*prd (ss.drop (lv+1)):=by
 obtain ⟨hl,e⟩:=List.getElem?_eq_some_iff.1 es
 rw [List.drop_eq_getElem_cons hl,e]
 rfl
theorem zbj:∀{ss:List Nat},(∀s∈ss,1≤s)→1≤prd ss
 |[],_=>Nat.le_refl _
 |s::r,h=>Nat.mul_pos (h s List.mem_cons_self) (zbj fun t ht=>h t (List.mem_cons_of_mem _ ht))
theorem zgm {lv s m:Nat} {st:List Nat} (es:ss[lv]? =some s) (e:st[lv]? =some m):idx (ss.drop lv) (st.drop lv)=m*prd (ss.drop (lv+1))+idx (ss.drop (lv+1)) (st.drop (lv+1)):=by
 obtain ⟨hl,e1⟩:=List.getElem?_eq_some_iff.1 es
 obtain ⟨hl2,e2⟩:=List.getElem?_eq_some_iff.1 e
 rw [List.drop_eq_getElem_cons hl,List.drop_eq_getElem_cons hl2,e2]
 rfl
noncomputable def xU (ss:List Nat) (fs:List zB) (lv:Nat) (T:List Q2) (i:Nat):Prop:=∀st,vO ss st→∃q h,T[idx (ss.drop lv) (st.drop lv)]? =some q∧VA fs st q h i
theorem xU.mono {lv i:Nat} {T:List Q2} (h:xU ss fs lv T i) (p:fs<+:fs'):xU ss fs' lv T i:=fun st hs=>by
 obtain ⟨q,k,e,v⟩:=h st hs
 exact ⟨q,k,e,v.mono p⟩
theorem zgn {ks:List Nat} {k:Nat}:ksX (ks++[k])=ksX ks++[.int (k:Int)]:=zdL ks k
theorem zi1 (hbx:Bx9 ss bl) (hp:prd ss≤1000):∀(d N:Nat) {S:Sto} {fs:List zB} {lv tn:Nat} {T:List Q2},d+1≤N→lv+d=ss.length→xg sn fn dn (.tup bl) fs S→WF ss fs→S[tn]? =some (.lst (T.map qv))→tn≠fn→T.length=prd (ss.drop lv)→fs.length+cst ss d≤1000000→
  W (yB fu N [.ref sn,.tup bl,.int (lv:Int),.ref tn] S) fun v S'=>∃(i:Nat) (fs':List zB),v= .int (i:Int)∧(∃f,fs'[i]? =some f∧lv≤lvl ss.length f)∧xU ss fs' lv T i∧WF ss fs'∧yO sn fn dn (.tup bl) fs (cst ss d) S fs' S':=by
 intro d
 have hpos:∀s∈ss,1≤s:=fun s hs=>(hbx.siz s hs).1
 have h9:=hbx.l9
 have hbl:=hbx.len
 induction d with
 |zero=>
  intro N S fs lv tn T hN hlv h w ht htn hT hf
  obtain ⟨N,rfl⟩:∃M,N=M+1:=⟨N-1,by omega⟩
  have c2:2≤cst ss 0:=by unfold cst;rw [Nat.sub_zero,List.drop_length];exact Nat.le_refl _
  rw [wW]
  walk_at "wr";unfold wV
  refine ya (yv (vQ (Wz (xi rfl (ZB (zR (xi rfl (YE (WX ?_)))))))))
  walk_at "w"
  rw [hbl]
  refine wa (fun _=> ?_) (fun z=>absurd (by omega) z)
  rw [show lv=ss.length by omega,List.drop_length] at hT
  have hT1:T.length=1:=hT
  have e0:T[0]? =some T[0]:=List.getElem?_eq_getElem (by omega)
  refine yE (yz ?_)
  walk_at "w"
  refine ⟨_,_,rfl,h.o,rfl,?_⟩
  walk_at "w"
  refine zP (zi ht) (zN (i:=0) (zcs e0)) ?_
  walk_at "w"
  refine (zf4 h (by omega) _).imp ?_
  rintro _ S2 ⟨i,fs2,rfl,e1,ad,g⟩
  refine ⟨i,fs2,rfl,⟨_,e1,by show lv≤ss.length;omega⟩,fun st hs=>⟨_,0,?_,.leaf e1⟩,w.leaf g.st.nd ad,g.more (by omega)⟩
  rw [show lv=ss.length by omega,List.drop_length]
  exact e0
 |succ d ih=>
  intro N S fs lv tn T hN hlv h w ht htn hT hf
  obtain ⟨N,rfl⟩:∃M,N=M+1:=⟨N-1,by omega⟩
  have hl:lv<ss.length:=by omega
  have es:ss[lv]? =some ss[lv]:=List.getElem?_eq_getElem hl
  generalize hs:ss[lv]=s at es
  obtain ⟨nm,hb⟩:=hbx.at_ lv s es
  have hsz:=hbx.siz s (List.mem_of_getElem? es)
  have hT2:T.length=s*prd (ss.drop (lv+1)):=by rw [hT,zgl es]
  generalize hpp:prd (ss.drop (lv+1))=part at hT2
  have hpart:1≤part:=by rw [←hpp];exact zbj fun t ht=>hpos t (List.mem_of_mem_drop ht)
  have hc:cst ss (d+1)=2+s*cst ss d:=by
   have:=zge es
   rw [show ss.length-lv=d+1 by omega] at this
   exact this
  have hTl:T.length≤1000:=by
   rw [hT]
   refine Nat.le_trans ?_ hp
   have e:ss=ss.take lv++ss.drop lv:=(List.take_append_drop lv ss).symm
   have:∀a b:List Nat,(∀s∈a,1≤s)→prd b≤prd (a++b):=by
    intro a b ha
    induction a with
    |nil=>exact Nat.le_refl _
    |cons x r ih2=>
     have h1:=ih2 fun t ht=>ha t (List.mem_cons_of_mem _ ht)
     have h2:=ha x List.mem_cons_self
     show prd b≤x*prd (r++b)
     exact Nat.le_trans h1 (Nat.le_mul_of_pos_left _ h2)
   rw [e]
   rw [←e]
   exact Nat.le_trans (this (ss.take lv) (ss.drop lv) fun t ht=>hpos t (List.mem_of_mem_take ht)) (by rw [←e];exact Nat.le_refl _)
  rw [wW]
  walk_at "wr";unfold wV
  refine ya (yv (vQ (Wz (xi rfl (ZB (zR (xi rfl (YE (WX ?_)))))))))
  walk_at "w"
  rw [hbl]
  refine wa (fun z=>absurd z (by omega)) (fun _=>yd ?_)
  walk_at "w"
  refine zA (l:=bl) rfl (zN hb) ?_
  walk_at "w"
  refine Vl (zi ht) ?_
  rw [List.length_map]
  walk_at "w"
  refine Ye ⟨by omega,Nat.le_trans (ZY (by omega)) (by decide)⟩ ?_
  rw [Int.fdiv_eq_ediv_of_nonneg _ (by omega),hT2,show ((s*part:Nat):Int) / (s:Int)=(part:Int) by rw [Int.natCast_mul];exact Int.mul_ediv_cancel_left _ (by omega)]
  walk_at "w"
  have hpl:part≤1000:=by
   have:1*part≤s*part:=Nat.mul_le_mul_right _ hsz.1
   omega
  refine wG (vI ?_)
  walk_at "w"
  refine ⟨⟨by omega,by omega⟩,_,rfl,?_⟩
  rw [Int.toNat_natCast]
  have hT0:=(List.getElem?_eq_some_iff.1 ht).1
  refine we (xs:=xh 0 s) (by rw [yg];exact ZX (by omega)) (fun i es S2=>∃(fs2:List zB) (ks:List Nat),es=ksX ks∧ks.length=i∧yO sn fn dn (.tup bl) fs (i*cst ss d) S fs2 S2∧WF ss fs2∧S2[tn]? =some (.lst (T.map qv))∧
    ∀(m k:Nat),ks[m]? =some k→(∃f,fs2[k]? =some f∧lv<lvl ss.length f)∧xU ss fs2 (lv+1) ((T.drop (m*part)).take part) k) (fun _ _ _ _ _=>rfl) ?_ ⟨fs,[],rfl,rfl,h.grown.more (by omega),w,ht,fun m k e=>by simp at e⟩ ?_
  ·rintro i w0 es0 S2 hw hel ⟨fs2,ks,rfl,hkl,g2,w2,ht2,hks⟩
   obtain ⟨hi,rfl⟩:=xa hw
   rw [Int.zero_add]
   refine .of rfl ?_
   dsimp only [xO,List.map,List.set]
   walk_at "w"
   refine ⟨rfl,?_⟩
   walk_at "w"
   refine yy (by have:=ZY (p:=(i:Int)) (by omega);have:=ZY (p:=(part:Int)) (by omega);omega) ?_
   walk_at "w"
   refine yy (by have:=ZY (p:=(i:Int)) (by omega);have:=ZY (p:=(part:Int)) (by omega);omega) ?_
   walk_at "w"
   refine zfH (zi ht2) ?_
   have hip:i*part+part≤T.length:=by
    rw [hT2]
    have:(i+1)*part≤s*part:=Nat.mul_le_mul_right _ hi
    rw [Nat.succ_mul] at this
    exact this
   rw [show ((i:Int)*(part:Int))=((i*part:Nat):Int) by rw [Int.natCast_mul],show ((i*part:Nat):Int)+(part:Int)=((i*part+part:Nat):Int) by rw [Int.natCast_add],zhz _ _ _ (by rw [List.length_map];exact hip),←List.map_drop,←List.map_take]
   walk_at "w"
   have g3:=g2.app (List.prefix_append S2 [.lst (((T.drop (i*part)).take part).map qv)])
   have ht3:=yG (List.prefix_append S2 [Ce.lst (((T.drop (i*part)).take part).map qv)]) ht2
   have hcut:(S2++[Ce.lst (((T.drop (i*part)).take part).map qv)])[S2.length]? =some (.lst (((T.drop (i*part)).take part).map qv)):=yQ
   generalize S2++[Ce.lst (((T.drop (i*part)).take part).map qv)]=S3 at g3 ht3 hcut
   have hic:(i+1)*cst ss d≤s*cst ss d:=Nat.mul_le_mul_right _ hi
   have hic2:(i+1)*cst ss d=i*cst ss d+cst ss d:=Nat.succ_mul i _
   have f2:=g2.len
   rw [show (lv:Int)+1=((lv+1:Nat):Int) by omega]
   refine (ih N (lv:=lv+1) (by omega) (by omega) g3.st w2 hcut (by have:=(List.getElem?_eq_some_iff.1 g2.st.f).1;omega) (by rw [List.length_take,List.length_drop,hpp];omega) (by omega)).imp ?_
   rintro _ S4 ⟨k,fs4,rfl,⟨f,ef,hf'⟩,tl,w4,g4⟩
   refine ⟨fs4,ks++[k],by rw [zgn],by simp [hkl],(g3.trans g4).more (by omega),w4,?_,fun m k' e=> ?_⟩
   ·refine g4.kp.2 _ _ ht3 fun z=> ?_
    rcases z with z|z
    ·exact htn z
    ·have e1:=g3.st.d
     rw [←z,ht3] at e1
     exact Tc (Option.some.inj e1).symm
   ·rcases Nat.lt_trichotomy m ks.length with hm'|hm'|hm'
    ·rw [List.getElem?_append_left hm'] at e
     obtain ⟨⟨f',e1,e2⟩,t⟩:=hks m k' e
     exact ⟨⟨f',yG g4.pre e1,e2⟩,t.mono g4.pre⟩
    ·subst hm'
     rw [List.getElem?_append_right (Nat.le_refl _),Nat.sub_self] at e
     cases e
     rw [hkl]
     exact ⟨⟨f,ef,by omega⟩,tl⟩
    ·rw [List.getElem?_eq_none (by simp;omega)] at e
     cases e
  ·rintro es0 S2 _ ⟨fs2,ks,rfl,hkl,g2,w2,ht2,hks⟩
   rw [yg] at hkl g2
   have g3:=g2.app (List.prefix_append S2 [.lst (ksX ks)])
   have hk3:(S2++[Ce.lst (ksX ks)])[S2.length]? =some (.lst (ksX ks)):=yQ
   generalize S2++[Ce.lst (ksX ks)]=S3 at g3 hk3
   have f2:=g2.len
   have h0:ks[0]? =some ks[0]:=List.getElem?_eq_getElem (by omega)
   refine yE (yz ?_)
   walk_at "w"
   refine ⟨_,_,rfl,g3.st.o,rfl,?_⟩
   walk_at "w"
   refine (zf7 g3.st (by omega) hk3 h0 (by omega)).imp ?_
   rintro _ S4 ⟨r,fs4,rfl,fo,ad,g⟩
   have hkf:∀k∈ks,∃f,fs2[k]? =some f∧lv<lvl ss.length f:=fun k hk=>by
    obtain ⟨m,hm'⟩:=List.getElem?_of_mem hk
    exact (hks m k hm').1
   have w4:WF ss fs4:=by
    rcases ad with rfl|⟨nall,ad⟩
    ·exact w2
    ·refine w2.fork g.st.nd (.inr ad) es hkl hkf fun z=>nall fun k hk=> ?_
     exact z k hk ks[0] (List.getElem_mem _)
   refine ⟨r,fs4,rfl,?_,fun st hs=> ?_,w4,(g3.trans g).more (by omega)⟩
   ·obtain ⟨k0,e0,⟨all,rfl⟩|⟨_,e⟩⟩:=fo
    ·obtain ⟨f,e1,e2⟩:=hkf r (List.mem_of_getElem? e0)
     exact ⟨f,yG g.pre e1,by omega⟩
    ·exact ⟨_,e,Nat.le_refl _⟩
   ·obtain ⟨m,em,hm'⟩:=hs.get es
    have ek:ks[m]? =some ks[m]:=List.getElem?_eq_getElem (by omega)
    obtain ⟨_,tl⟩:=hks m _ ek
    obtain ⟨q,hh,e,v⟩:=tl st hs
    refine ⟨q,_,?_,fo.va em ek (v.mono g.pre)⟩
    rw [zgm es em,hpp]
    rw [List.getElem?_take] at e
    split at e
    ·rw [List.getElem?_drop] at e
     exact e
    ·cases e
end
section
variable {fu:Nat} {S S' S2:Sto} {x y z:Xv} {ss:List Nat} {bl:List Xv} {ln sn fn dn:Nat} {fs fs':List zB}
theorem zj7 {n:Nat} (q:Q2):plX (n+1) (qv q)=true:=by cases n<;>simp [plX,qv]
theorem zdT (hbg:Big fu) (hbx:Bx9 ss bl) (hp:prd ss≤1000) {T:List Q2} {i tn:Nat} {f:zB} (h:xg sn fn dn (.tup bl) fs S) (w:WF ss fs) (ei:fs[i]? =some f) (tl:xU ss fs 0 T i) (ht:S[tn]? =some (.lst (T.map qv))):
  W (xq fu [.ref sn,.tup bl,.int (i:Int),.ref tn] S) fun v S'=>v= .bl true∧Kp K0 S S':=by
 have h9:=hbx.l9
 walk_at "wr";unfold ZV
 refine ya (yv (zaS (vQ (vW (zR (xi rfl (YE ?_)))))))
 refine zhj.imp ?_
 rintro _ _ ⟨rfl,rfl⟩
 refine ⟨_,rfl,(fun z=>by cases z),fun _=>yd ?_⟩
 refine ya (YF (vW (zR (xi rfl (YE ?_)))))
 refine (zcr hbx.toBx h9 hp).imp ?_
 rintro _ S1 ⟨n,L,rfl,hn,gl,hnl,k1⟩
 dsimp only [List.set]
 have h1:=h.keep k1 id id id
 have ht1:=k1.2 _ _ ht id
 refine yE (ZB (zR (wG (vI (ZB (zR (xi rfl (YE (Vl (zi hn) ?_)))))))))
 have hll:L.length≤1000:=by rw [gl.len];exact hp
 rw [Xu]
 refine ⟨_,rfl,⟨by omega,by omega⟩,_,rfl,?_⟩
 rw [Int.toNat_natCast]
 refine we (xs:=xh 0 L.length) (by rw [yg];exact Nat.le_of_lt (zbh hll)) (fun j es S2=>es=List.replicate j (.bl true)∧S1<+:S2) (fun _ _ _ _ _=>rfl) ?_ ⟨rfl,List.prefix_refl _⟩ ?_
 ·rintro j w0 es S2 hw hel ⟨rfl,p2⟩
  obtain ⟨hj,rfl⟩:=xa hw
  rw [Int.zero_add]
  have est:L[j]? =some L[j]:=List.getElem?_eq_getElem hj
  obtain ⟨sok,ix⟩:=gl.at_ j _ est
  obtain ⟨q,hh,eq,v⟩:=tl _ sok
  rw [List.drop_zero,List.drop_zero,ix] at eq
  obtain ⟨q',v'⟩:=w.val' sok ei
  have:q'=q:=v'.uniq v
  subst this
  have h2:=h1.pre p2
  refine .of rfl ?_
  dsimp only [xO,List.map,List.set]
  walk_at "w"
  refine ⟨rfl,?_⟩
  refine vW (zR (yz ?_))
  walk_at "w"
  refine ⟨_,_,rfl,h2.o,rfl,?_⟩
  walk_at "w"
  refine zP (zi (yG p2 hn)) (zN (zht est)) ?_
  walk_at "w"
  refine (zhi h2 v' (by have:=hbg.le;omega)).imp ?_
  rintro _ _ ⟨rfl,rfl⟩
  walk_at "w"
  refine zP (zi (yG p2 ht1)) (zN (zcs eq)) ?_
  walk_at "w"
  refine (ziW 9 (zj7 q')).imp ?_
  rintro _ S3 ⟨rfl,p3⟩
  exact ⟨by rw [List.replicate_succ'],p2.trans p3⟩
 ·rintro es S2 _ ⟨rfl,p2⟩
  walk_at "w"
  refine zbf xP (WV _) ⟨?_,k1.trans (Kp.pre (p2.trans (List.prefix_append _ _)))⟩
  simp
theorem zgo {op:Q2→Q2→Q2} {T1 T2:List Q2} {j:Nat} {a b:Q2} (h1:T1[j]? =some a) (h2:T2[j]? =some b):(List.zipWith op T1 T2)[j]? =some (op a b):=by
 rw [List.getElem?_zipWith,h1,h2]
theorem zez (hbg:Big fu) {wd:Nat} (hw:wd<3) {T1 T2:List Q2} {n1 n2:Nat} (h1:S[n1]? =some (.lst (T1.map qv))) (h2:S[n2]? =some (.lst (T2.map qv))) (hl:T1.length=T2.length) (hl9:T1.length≤1000) (f1:∀q∈T1,Fb q) (f2:∀q∈T2,Fb q):
  W (xK fu [.str (VC wd),.ref n1,.ref n2] S) fun v S'=>∃n,v= .ref n∧S'[n]? =some (.lst ((List.zipWith (opW wd) T1 T2).map qv))∧Kp K0 S S':=by
 have n1l:=(List.getElem?_eq_some_iff.1 h1).1
 have n2l:=(List.getElem?_eq_some_iff.1 h2).1
 walk_at "wr";unfold wX
 walk_at "w"
 refine YG (vI (ZB (zR (xi rfl (YE (Vl (zi (yG (List.prefix_append S [Ce.lst []]) h1)) ?_))))))
 rw [List.length_map]
 refine ⟨_,rfl,⟨by omega,by omega⟩,_,rfl,?_⟩
 rw [Int.toNat_natCast]
 refine vX (xs:=xh 0 T1.length) (fun j ρ S2=>∃(a4 a5 a6:Option Xv),ρ=[some (.str (VC wd)),some (.ref n1),some (.ref n2),some (.ref S.length),a4,a5,a6]∧S2[S.length]? =some (.lst (((List.zipWith (opW wd) T1 T2).take j).map qv))∧Kp K0 S S2) (fun _ _ _ _ _=>rfl) ?_ ?_ ?_
 ·rintro j w0 ρ S2 hw0 ⟨a4,a5,a6,rfl,hf,k2⟩
  obtain ⟨hj,rfl⟩:=xa hw0
  rw [Int.zero_add]
  have e1:T1[j]? =some T1[j]:=List.getElem?_eq_getElem hj
  have e2:T2[j]? =some T2[j]:=List.getElem?_eq_getElem (by omega)
  have b1:=f1 _ (List.getElem_mem hj)
  have b2:=f2 T2[j] (List.getElem_mem _)
  generalize T1[j]=a at e1 b1
  generalize T2[j]=b at e2 b2
  have l1:=b1.le1
  have l2:=b1.le2
  have l3:=b2.le1
  have l4:=b2.le2
  refine .of rfl ?_
  dsimp only [List.set]
  walk_at "w"
  refine zP (zi (k2.2 _ _ h1 id)) (zN (zcs e1)) ?_
  walk_at "w"
  refine zP (zi (k2.2 _ _ h2 id)) (zN (zcs e2)) ?_
  walk_at "w"
  have hzl:(List.zipWith (opW wd) T1 T2).length=T1.length:=by rw [List.length_zipWith];omega
  have fin:∀{r:Q2},r=opW wd a b→WO (wj (.ref S.length) [qv r] S2) fun _ S3=>∃(a4 a5 a6:Option Xv),([some (.str (VC wd)),some (.ref n1),some (.ref n2),some (.ref S.length),some (.int (j:Int)),some (qv a),some (qv b)]:Rho)=[some (.str (VC wd)),some (.ref n1),some (.ref n2),some (.ref S.length),a4,a5,a6]∧S3[S.length]? =some (.lst (((List.zipWith (opW wd) T1 T2).take (j+1)).map qv))∧Kp K0 S S3:=by
   rintro r rfl
   refine Xz (XA hf) (by rw [List.length_map,List.length_take];exact zbh (by omega)) ⟨_,_,_,rfl,?_,k2.set (.inr (Nat.le_refl _))⟩
   rw [wY hf]
   have ez:=zgo (op:=opW wd) e1 e2
   obtain ⟨hz1,hz2⟩:=List.getElem?_eq_some_iff.1 ez
   rw [List.take_succ_eq_append_getElem hz1,hz2]
   simp
  match wd,hw with
  |0,_=>
   refine yv ?_
   walk_at "w"
   refine yM ⟨_,rfl,fun _=> ?_,fun z=>absurd z (by decide)⟩
   refine ZC (WA ?_)
   walk_at "w"
   refine ⟨⟨_,zi hf⟩,?_⟩
   walk_at "w"
   refine zA rfl xD ?_
   walk_at "w"
   refine zA rfl xn ?_
   refine yy (by omega) ?_
   walk_at "w"
   refine zA rfl xD ?_
   walk_at "w"
   refine zA rfl xn ?_
   refine yy (by omega) ?_
   walk_at "w"
   refine zA rfl xn ?_
   walk_at "w"
   refine zA rfl xn ?_
   refine yy (by omega) ?_
   walk_at "w"
   refine (WY hbg (Int.mul_pos b1.pos b2.pos) ((b1.b2.mul b2.b2).mono (by decide))).imp ?_
   rintro _ _ ⟨rfl,rfl⟩
   walk_at "w"
   exact fin rfl
  |1,_=>
   refine yv ?_
   walk_at "w"
   refine yM ⟨_,rfl,fun z=>absurd z (by decide),fun _=> ?_⟩
   refine yv ?_
   walk_at "w"
   refine yM ⟨_,rfl,fun _=> ?_,fun z=>absurd z (by decide)⟩
   refine ZC (WA ?_)
   walk_at "w"
   refine ⟨⟨_,zi hf⟩,?_⟩
   walk_at "w"
   refine zA rfl xD ?_
   walk_at "w"
   refine zA rfl xD ?_
   refine yy (by omega) ?_
   walk_at "w"
   refine zA rfl xn ?_
   walk_at "w"
   refine zA rfl xn ?_
   refine yy (by omega) ?_
   walk_at "w"
   refine (WY hbg (Int.mul_pos b1.pos b2.pos) ((b1.b2.mul b2.b2).mono (by decide))).imp ?_
   rintro _ _ ⟨rfl,rfl⟩
   walk_at "w"
   exact fin rfl
  |2,_=>
   refine yv ?_
   walk_at "w"
   refine yM ⟨_,rfl,fun z=>absurd z (by decide),fun _=> ?_⟩
   refine yv ?_
   walk_at "w"
   refine yM ⟨_,rfl,fun z=>absurd z (by decide),fun _=> ?_⟩
   refine yv ?_
   walk_at "w"
   refine zA rfl xD ?_
   walk_at "w"
   refine zA rfl xn ?_
   refine yy (by omega) ?_
   walk_at "w"
   refine zA rfl xD ?_
   walk_at "w"
   refine zA rfl xn ?_
   refine yy (by omega) ?_
   walk_at "w"
   refine wa (fun hc=> ?_) (fun hc=> ?_)
   ·refine ZC (WA ?_)
    walk_at "w"
    refine ⟨⟨_,zi hf⟩,?_⟩
    walk_at "w"
    exact fin (r:=b) (by show b=VQ a b;unfold VQ;rw [if_pos hc])
   ·refine ZC (WA ?_)
    walk_at "w"
    refine ⟨⟨_,zi hf⟩,?_⟩
    walk_at "w"
    exact fin (r:=a) (by show a=VQ a b;unfold VQ;rw [if_neg hc])
 ·exact ⟨none,none,none,rfl,yQ,Kp.pre (List.prefix_append _ _)⟩
 ·rintro ρ S2 ⟨a4,a5,a6,rfl,hf,k2⟩
  rw [yg,List.take_of_length_le (by rw [List.length_zipWith];omega)] at hf
  walk_at "w"
  exact ⟨hf,k2⟩
end
section
variable {fu:Nat} {S S' S2:Sto} {x y z:Xv} {ss:List Nat} {bl:List Xv} {ln sn fn dn tn n1 n2 nn a b:Nat} {fs fs':List zB} {T1 T2:List Q2}
structure LS (sn fn dn tn n1 n2 nn:Nat) (bl:List Xv) (ss:List Nat) (T1 T2:List Q2) (a b:Nat) (fs:List zB) (S:Sto):Prop where
 st:xg sn fn dn (.tup bl) fs S
 wf:WF ss fs
 tb:Tb S
 t:S[tn]? =some (.lst [.ref n1,.ref n2])
 c1:S[n1]? =some (.lst (T1.map qv))
 c2:S[n2]? =some (.lst (T2.map qv))
 nd:S[nn]? =some (.lst (ksX [a,b]))
 ea:∃f,fs[a]? =some f
 eb:∃f,fs[b]? =some f
 ta:xU ss fs 0 T1 a
 tc:xU ss fs 0 T2 b
 x1:tn≠fn∧n1≠fn∧n2≠fn∧nn≠fn
theorem LS.grown {m:Nat} (h:LS sn fn dn tn n1 n2 nn bl ss T1 T2 a b fs S) (w:WF ss fs') (g:yO sn fn dn (.tup bl) fs m S fs' S'):LS sn fn dn tn n1 n2 nn bl ss T1 T2 a b fs' S':=by
 have q:∀{n:Nat} {l:List Xv},S[n]? =some (.lst l)→n≠fn→S'[n]? =some (.lst l):=fun {n l} e hn=>g.kp.2 _ _ e fun z=>by
  rcases z with z|z
  ·exact hn z
  ·rw [z,h.st.d] at e
   exact Tc (Option.some.inj e)
 obtain ⟨f,ef⟩:=h.ea
 obtain ⟨f',ef'⟩:=h.eb
 exact ⟨g.st,w,h.tb.grown h.st g,q h.t h.x1.1,q h.c1 h.x1.2.1,q h.c2 h.x1.2.2.1,q h.nd h.x1.2.2.2,⟨f,yG g.pre ef⟩,⟨f',yG g.pre ef'⟩,h.ta.mono g.pre,h.tc.mono g.pre,h.x1⟩
theorem LS.keep (h:LS sn fn dn tn n1 n2 nn bl ss T1 T2 a b fs S) (k:Kp K0 S S'):LS sn fn dn tn n1 n2 nn bl ss T1 T2 a b fs S':=
 ⟨h.st.keep k id id id,h.wf,h.tb.keep k id id id id,k.2 _ _ h.t id,k.2 _ _ h.c1 id,k.2 _ _ h.c2 id,k.2 _ _ h.nd id,h.ea,h.eb,h.ta,h.tc,h.x1⟩
theorem xU.vb {T:List Q2} {i:Nat} (h:xU ss fs 0 T i) (f:∀q∈T,Fb q):Vb ss fs i:=fun st hs q hh v=>by
 obtain ⟨q',h',e,v'⟩:=h st hs
 rw [v.uniq v']
 exact f q' (List.mem_of_getElem? e)
theorem Yo.tells {op:Q2→Q2→Q2} {Tx Ty:List Q2} {i j r:Nat} (g:Yo ss op fs i j r) (h1:xU ss fs 0 Tx i) (h2:xU ss fs 0 Ty j):xU ss fs 0 (List.zipWith op Tx Ty) r:=fun st hs=>by
 obtain ⟨q1,k1,e1,v1⟩:=h1 st hs
 obtain ⟨q2,k2,e2,v2⟩:=h2 st hs
 obtain ⟨h,v⟩:=g.va st hs _ _ _ _ v1 v2
 exact ⟨_,h,zgo e1 e2,v⟩
theorem zhA {wd:Nat} (hw:wd<3) {p q:Q2} (hp:Fb p) (hq:Fb q):opW wd p q=opW wd q p:=by
 match wd,hw with
 |0,_=>exact zes p q
 |1,_=>exact zet p q
 |2,_=>exact zeu hp hq
theorem Yo.comm {wd:Nat} (hw:wd<3) {i j r r':Nat} (w:WF ss fs) (hz:∃st,vO ss st) (g:Yo ss (opW wd) fs i j r) (g':Yo ss (opW wd) fs j i r') (vi:Vb ss fs i) (vj:Vb ss fs j):r'=r:=by
 obtain ⟨fi,fj,fr,ei,ej,er,_⟩:=g.lv
 obtain ⟨_,_,fr',_,_,er',_⟩:=g'.lv
 refine w.canon hz er' er fun st hs=> ?_
 obtain ⟨qi,v1⟩:=w.val' hs ei
 obtain ⟨qj,v2⟩:=w.val' hs ej
 obtain ⟨h,v⟩:=g.va st hs _ _ _ _ v1 v2
 obtain ⟨h',v'⟩:=g'.va st hs _ _ _ _ v2 v1
 rw [zhA hw (vj st hs _ _ v2) (vi st hs _ _ v1)] at v'
 exact ⟨_,h',h,v',v⟩
theorem zh5:∀{ss:List Nat},(∀s∈ss,1≤s)→wt ss≤2*(ss.length+1)*prd ss
 |[],_=>by simp [wt,prd]
 |s::r,h=>by
  have h1:=zh5 (ss:=r) fun t ht=>h t (List.mem_cons_of_mem _ ht)
  have h2:=h s List.mem_cons_self
  have h3:=zbj (ss:=r) fun t ht=>h t (List.mem_cons_of_mem _ ht)
  have h4:1≤s*prd r:=Nat.mul_pos h2 h3
  show 2+s*wt r≤2*(r.length+1+1)*(s*prd r)
  have h5:s*wt r≤s*(2*(r.length+1)*prd r):=Nat.mul_le_mul_left _ h1
  have h6:s*(2*(r.length+1)*prd r)=2*(r.length+1)*(s*prd r):=by rw [Nat.mul_left_comm]
  have h7:2*(r.length+1+1)*(s*prd r)=2*(r.length+1)*(s*prd r)+2*(s*prd r):=by rw [show 2*(r.length+1+1)=2*(r.length+1)+2 by omega,Nat.add_mul]
  omega
theorem zgp (hbx:Bx9 ss bl) (hp:prd ss≤90):cst ss ss.length≤1800:=by
 unfold cst
 rw [Nat.sub_self,List.drop_zero]
 have h1:=zh5 (ss:=ss) fun s hs=>(hbx.siz s hs).1
 have h2:2*(ss.length+1)*prd ss≤20*90:=Nat.mul_le_mul (by have:=hbx.l9;omega) hp
 omega
theorem zdU (hbx:Bx9 ss bl):∃st,vO ss st:=by
 refine ⟨List.replicate ss.length 0,by simp,fun i x s e1 e2=> ?_⟩
 rw [List.getElem?_replicate] at e1
 split at e1
 ·cases e1
  exact (hbx.siz s (List.mem_of_getElem? e2)).1
 ·cases e1
theorem zkj (k:Int):k % 2=0∨k % 2=1:=by omega
end
section
variable {fu:Nat} {S S' S2:Sto} {x y z:Xv} {ss:List Nat} {bl:List Xv} {ln sn fn dn tn n1 n2 nn a b:Nat} {fs fs':List zB} {T1 T2:List Q2}
theorem zhB {P:Xv→Sto→Prop} {l:List Xv} (h:yf S x=some l) (k:P (.ref S.length) (S++[.lst l.reverse])):WO (Xh x S) P:= .of (by unfold Xh;rw [h];rfl) k
theorem zeA (l:List Int) (lo hi:Option Int):∃m:List Int,L2.zbM (l.map Xv.int) lo hi=m.map Xv.int:=by
 unfold L2.zbM
 rw [←List.map_drop,←List.map_take]
 exact ⟨_,rfl⟩
theorem zdg (hbg:Big fu) (hbx:Bx9 ss bl) (hp:prd ss≤90) {wd:Nat} (hw:wd<3) (h:LS sn fn dn tn n1 n2 nn bl ss T1 T2 a b fs S) (hc:fs.length+1800≤1000000) {i j:Nat} {Tx Ty:List Q2} (ei:∃f,fs[i]? =some f) (ej:∃f,fs[j]? =some f) (ti:xU ss fs 0 Tx i) (tj:xU ss fs 0 Ty j) (fx:∀q∈Tx,Fb q) (fy:∀q∈Ty,Fb q):
  W (yc fu [.ref sn,.str (VC wd),.int (i:Int),.int (j:Int)] S) fun v S'=>∃(r:Nat) (fs':List zB),v= .int (r:Int)∧Yo ss (opW wd) fs' i j r∧LS sn fn dn tn n1 n2 nn bl ss T1 T2 a b fs' S'∧fs<+:fs'∧fs'.length≤fs.length+1800∧Kp (fun n=>n=fn∨n=dn) S S':=by
 obtain ⟨fi,ei⟩:=ei
 obtain ⟨fj,ej⟩:=ej
 have hcs:=zgp hbx hp
 refine (zj4 hbg hbx (zdU hbx) hw h.st h.wf h.tb ei ej (ti.vb fx) (tj.vb fy) (by omega) (by omega)).imp ?_
 rintro _ S2 ⟨r,fs2,rfl,gd,w2,g⟩
 exact ⟨r,fs2,rfl,gd,h.grown w2 g,g.pre,by have:=g.len;omega,g.kp⟩
theorem zgq (hbg:Big fu) (hbx:Bx9 ss bl) (hp:prd ss≤90) {wd:Nat} (hw:wd<3) (h:LS sn fn dn tn n1 n2 nn bl ss T1 T2 a b fs S) {i j r m1 m2:Nat} {Tx Ty:List Q2} (gd:Yo ss (opW wd) fs i j r) (ti:xU ss fs 0 Tx i) (tj:xU ss fs 0 Ty j) (fx:∀q∈Tx,Fb q) (fy:∀q∈Ty,Fb q) (lx:Tx.length=prd ss) (ly:Ty.length=prd ss) (h1:S[m1]? =some (.lst (Tx.map qv))) (h2:S[m2]? =some (.lst (Ty.map qv))):
  W (xK fu [.str (VC wd),.ref m1,.ref m2] S) fun v S'=>W (xq fu [.ref sn,.tup bl,.int (r:Int),v] S') fun v' S2=>v'= .bl true∧Kp K0 S S2:=by
 refine (zez hbg hw h1 h2 (by rw [lx,ly]) (by omega) fx fy).imp ?_
 rintro _ S2 ⟨n,rfl,hn,k2⟩
 obtain ⟨_,_,fr,_,_,er,_⟩:=gd.lv
 refine (zdT hbg hbx (by omega) (h.keep k2).st h.wf er (gd.tells ti tj) hn).imp ?_
 rintro _ S3 ⟨rfl,k3⟩
 exact ⟨rfl,k2.trans k3⟩
theorem zhC {wd:Nat} (hw:wd<3):atI [Xv.str "sum",.str "product",.str "greater"] (wd:Int)=some (.str (VC wd)):=by
 match wd,hw with
 |0,_=>rfl
 |1,_=>rfl
 |2,_=>rfl
theorem zhD {c:Int} (c0:0≤c) (c1:c<4):∃most:Nat,(1≤most∧most≤90)∧atI [Xv.int 24,.int 24,.int 24,.int 90] c=some (.int (most:Int)):=by
 obtain ⟨cn,rfl⟩:∃cn:Nat,c=(cn:Int):=⟨c.toNat,by omega⟩
 match cn,(show cn<4 by omega) with
 |0,_=>exact ⟨24,by omega,rfl⟩
 |1,_=>exact ⟨24,by omega,rfl⟩
 |2,_=>exact ⟨24,by omega,rfl⟩
 |3,_=>exact ⟨90,by omega,rfl⟩
theorem zhE:∀{ks:List Nat},ks.length=1→∃k,ks=[k]
 |[k],_=>⟨k,rfl⟩
theorem zhF:∀{ks:List Nat},ks.length=2→∃a b,ks=[a,b]
 |[a,b],_=>⟨a,b,rfl⟩
theorem zj8 (hbg:Big fu) (ns:List Int):W (zc9 fu [.ref 0] (.frz (ns.map Xv.int)::Xo.map .tab)) fun v _=>v= .bl true:=by
 have tb0:Tb (Ce.frz (ns.map Xv.int)::Xo.map .tab):=⟨rfl,rfl,rfl,rfl⟩
 have hscr:yf (Ce.frz (ns.map Xv.int)::Xo.map .tab) (.ref 0)=some (ns.map Xv.int):=rfl
 generalize (Ce.frz (ns.map Xv.int)::Xo.map Ce.tab)=Z at tb0 hscr
 walk_at "wr";unfold zc8;walk_at "w"
 refine zfH hscr ?_
 obtain ⟨ms,em⟩:=zeA ns none (some 200)
 rw [em]
 refine zhB xP ?_
 rw [←List.map_reverse]
 have l0:yn (Z++[Ce.lst (ms.map Xv.int)]).length ((Z++[Ce.lst (ms.map Xv.int)])++[Ce.lst (ms.reverse.map Xv.int)]):=⟨ms.reverse,yQ⟩
 have tb1:=(tb0.pre (List.prefix_append _ [Ce.lst (ms.map Xv.int)])).pre (List.prefix_append _ [Ce.lst (ms.reverse.map Xv.int)])
 generalize (Z++[Ce.lst (ms.map Xv.int)]).length=ln at l0 ⊢
 generalize ((Z++[Ce.lst (ms.map Xv.int)])++[Ce.lst (ms.reverse.map Xv.int)])=S0 at l0 tb1 ⊢
 walk_at "w"
 refine (xk l0.app (by decide)).imp ?_
 rintro _ S1 ⟨c,rfl,c0,c1,l1,k1⟩
 have hl0:=l0.lt
 have tbk:∀{S S':Sto},Tb S→yn ln S→Kp (· =ln) S S'→Tb S':=fun {S S'} t l k=>by
  obtain ⟨nl,e⟩:=l
  obtain ⟨q1,q2,q3,q4⟩:=t.ne e (fun t=>by simp)
  exact t.keep k q1 q2 q3 q4
 have tb2:=tbk (tb1.pre (List.prefix_append _ _)) l0.app k1
 have hm:=k1.2 _ _ yQ (show ¬S0.length=ln by omega)
 obtain ⟨most,hmost,h4⟩:=zhD c0 c1
 refine zP (zi hm) h4 ?_
 walk_at "w"
 refine (xk l1 (by decide)).imp ?_
 rintro _ S2 ⟨YW,rfl,u0,u1,l2,k2⟩
 have tb3:=tbk tb2 l1 k2
 walk_at "w"
 refine (zhw (by omega) l2).imp ?_
 rintro _ S3 ⟨bs,rfl,hbs,hb9,hprd,l3,k3⟩
 have tb4:=tbk tb3 l2 k3
 have hbx:=zj6 hbs hb9
 generalize bs.map (·.2)=ss at hbx hprd
 generalize bsX bs=bl at hbx
 have hp90:prd ss≤90:=by omega
 refine ya (YF (zfD ?_))
 walk_at "w"
 refine (zdS hbg hbx (by omega) l3).imp ?_
 rintro _ S4 ⟨n1,T1,rfl,ht1,hl1,f1,hn1,l4,k4⟩
 have tb5:=tbk tb4 l3 k4
 walk_at "w"
 refine (zdS hbg hbx (by omega) l4).imp ?_
 rintro _ S5 ⟨n2,T2,rfl,ht2,hl2,f2,hn2,l5,k5⟩
 have tb6:=tbk tb5 l4 k5
 have hl3:=l3.lt
 have ht1':=k5.2 _ _ ht1 (show ¬n1=ln by omega)
 walk_at "w"
 have tb7:=tb6.pre (List.prefix_append S5 [Ce.lst [.ref n1,.ref n2]])
 have hc1:=yG (List.prefix_append S5 [Ce.lst [.ref n1,.ref n2]]) ht1'
 have hc2:=yG (List.prefix_append S5 [Ce.lst [.ref n1,.ref n2]]) ht2
 have htt:(S5++[Ce.lst [.ref n1,.ref n2]])[S5.length]? =some (.lst [.ref n1,.ref n2]):=yQ
 generalize hS6:S5++[Ce.lst [.ref n1,.ref n2]]=S6 at tb7 hc1 hc2 htt
 refine zg4 ?_
 walk_at "w"
 refine (ziX (n:=S6.length) yQ (.tup bl)).imp ?_
 rintro _ S7 ⟨rfl,st7,k7,len7⟩
 rw [List.length_append,List.length_cons,List.length_nil] at st7 len7
 refine ⟨rfl,?_⟩
 have k67:Kp (· =S6.length) S6 S7:=(Kp.pre (List.prefix_append _ _)).trans k7
 have i1:=(List.getElem?_eq_some_iff.1 hc1).1
 have i2:=(List.getElem?_eq_some_iff.1 hc2).1
 have i3:=(List.getElem?_eq_some_iff.1 htt).1
 have tb8:Tb S7:=by
  have q1:=(List.getElem?_eq_some_iff.1 tb7.t4).1
  refine tb7.keep k67 ?_ ?_ ?_ ?_<;>omega
 have hd1:=k67.2 _ _ hc1 (show ¬n1=S6.length by omega)
 have hd2:=k67.2 _ _ hc2 (show ¬n2=S6.length by omega)
 have hdt:=k67.2 _ _ htt (show ¬S5.length=S6.length by omega)
 generalize hfn:S6.length+1=fn at st7
 generalize hdn:fn+1=dn at st7
 generalize hsn:S6.length=sn at st7 ⊢
 have hcs:=zgp hbx hp90
 have w0:WF ss []:=⟨List.nodup_nil,fun i lv ks e=>by simp at e⟩
 generalize htn:S5.length=tn at hdt i3 ⊢
 walk_at "w"
 refine wG (zae ?_)
 walk_at "w"
 refine ⟨_,zi hdt,_,zi hdt,?_⟩
 refine we (xs:=[.ref n1,.ref n2]) (show 2≤sizeLine by decide) (fun i es S8=>∃(fs:List zB) (ks:List Nat),es=ksX ks∧ks.length=i∧xg sn fn dn (.tup bl) fs S8∧WF ss fs∧fs.length≤i*1800∧Kp (fun n=>n=fn∨n=dn) S7 S8∧
   (∀k,ks[0]? =some k→(∃f,fs[k]? =some f)∧xU ss fs 0 T1 k)∧∀k,ks[1]? =some k→(∃f,fs[k]? =some f)∧xU ss fs 0 T2 k) ?_ ?_ ⟨[],[],rfl,rfl,st7,w0,by simp,Kp.refl _,(fun k e=>by simp at e),fun k e=>by simp at e⟩ ?_
 ·rintro i es S8 _ ⟨fs,ks,_,_,_,_,_,k8,_⟩
  exact zi (k8.2 _ _ hdt (by omega))
 ·rintro i w es S8 hw hel ⟨fs,ks,rfl,hkl,st8,w8,hf8,k8,hk0,hk1⟩
  have hi2:i<2:=(List.getElem?_eq_some_iff.1 hw).1
  refine .of rfl ?_
  dsimp only [xO,List.map,List.set]
  walk_at "w"
  refine ⟨rfl,?_⟩
  walk_at "w"
  have go:∀{m:Nat} {T:List Q2},S8[m]? =some (.lst (T.map qv))→m≠fn→T.length=prd ss→W (yB fu 12 [.ref sn,.tup bl,.int 0,.ref m] S8) fun v S'=>∃(i:Nat) (fs':List zB),v= .int (i:Int)∧(∃f,fs'[i]? =some f∧0≤lvl ss.length f)∧xU ss fs' 0 T i∧WF ss fs'∧yO sn fn dn (.tup bl) fs (cst ss ss.length) S8 fs' S':=fun {m T} e hm hT=>by
   have h9:=hbx.l9
   exact zi1 hbx (by omega) ss.length 12 (lv:=0) (by omega) (by omega) st8 w8 e hm hT (by omega)
  obtain rfl|rfl:i=0∨i=1:=by omega
  ·cases hw
   refine (go (k8.2 _ _ hd1 (by omega)) (by omega) hl1).imp ?_
   rintro _ S9 ⟨j,fs9,rfl,⟨f,ef,_⟩,tl,w9,g9⟩
   have:ks=[]:=List.length_eq_zero_iff.1 hkl
   subst this
   exact ⟨fs9,[j],rfl,rfl,g9.st,w9,by have:=g9.len;omega,k8.trans g9.kp,(fun k e=>by cases e;exact ⟨⟨f,ef⟩,tl⟩),fun k e=>by simp at e⟩
  ·cases hw
   refine (go (k8.2 _ _ hd2 (by omega)) (by omega) hl2).imp ?_
   rintro _ S9 ⟨j,fs9,rfl,⟨f,ef,_⟩,tl,w9,g9⟩
   obtain ⟨k0,rfl⟩:=zhE hkl
   obtain ⟨⟨f',ef'⟩,tl'⟩:=hk0 k0 rfl
   exact ⟨fs9,[k0,j],rfl,rfl,g9.st,w9,by have:=g9.len;omega,k8.trans g9.kp,(fun k e=>by cases e;exact ⟨⟨f',yG g9.pre ef'⟩,tl'.mono g9.pre⟩),fun k e=>by cases e;exact ⟨⟨f,ef⟩,tl⟩⟩
 rintro es S8 _ ⟨fs,ks,rfl,hkl,st8,w8,hf8,k8,hk0,hk1⟩
 obtain ⟨a,b,rfl⟩:=zhF hkl
 obtain ⟨ea,ta⟩:=hk0 a rfl
 obtain ⟨eb,tb⟩:=hk1 b rfl
 have len8:=k8.1
 have tb9:Tb S8:=by
  have q1:=(List.getElem?_eq_some_iff.1 tb7.t4).1
  refine tb8.keep k8 ?_ ?_ ?_ ?_<;>omega
 have ls:LS sn fn dn tn n1 n2 S8.length bl ss T1 T2 a b fs (S8++[.lst (ksX [a,b])]):=
  ⟨st8.pre (List.prefix_append _ _),w8,tb9.pre (List.prefix_append _ _),yG (List.prefix_append _ _) (k8.2 _ _ hdt (by omega)),yG (List.prefix_append _ _) (k8.2 _ _ hd1 (by omega)),yG (List.prefix_append _ _) (k8.2 _ _ hd2 (by omega)),yQ,ea,eb,ta,tb,⟨by omega,by omega,by omega,by omega⟩⟩
 generalize S8.length=nn at ls ⊢
 generalize S8++[Ce.lst (ksX [a,b])]=S9 at ls ⊢
 have hf9:fs.length≤3600:=by
  have:([Xv.ref n1,Xv.ref n2]).length=2:=rfl
  rw [this] at hf8
  omega
 refine ya (YG (vI ?_))
 walk_at "w"
 refine ⟨⟨by decide,by decide⟩,_,rfl,?_⟩
 refine vX (xs:=xh 0 3) (fun k ρ S10=>∃(fs:List zB) (a8 a9 a10:Option Xv),ρ=[some (.ref 0),some (.ref ln),some (.int (most:Int)),some (.int YW),some (.tup bl),some (.ref tn),some (.ref sn),some (.ref nn),a8,a9,a10]∧LS sn fn dn tn n1 n2 nn bl ss T1 T2 a b fs S10∧fs.length≤3600+k*5400) (fun _ _ _ _ _=>rfl) ?_ ?_ ?_
 ·rintro k w ρ S10 hw ⟨fs,a8,a9,a10,rfl,h,hfl⟩
  obtain ⟨hk,rfl⟩:=xa hw
  rw [Int.zero_add]
  refine .of rfl ?_
  dsimp only [List.set]
  have m0:=Int.emod_nonneg (YW+(k:Int)) (show (3:Int)≠0 by decide)
  have m1:=Int.emod_lt_of_pos (YW+(k:Int)) (show (0:Int)<3 by decide)
  obtain ⟨wd,hwd⟩:∃wd:Nat,(YW+(k:Int)) % 3=(wd:Int):=⟨((YW+(k:Int)) % 3).toNat,by omega⟩
  have hw3:wd<3:=by omega
  walk_at "w"
  refine xX (by decide) ?_
  rw [hwd]
  refine zP xP (zhC hw3) ?_
  have h:=h.keep (Kp.pre (List.prefix_append S10 [Ce.lst [.str "sum",.str "product",.str "greater"]]))
  generalize S10++[Ce.lst [.str "sum",.str "product",.str "greater"]]=S11 at h ⊢
  walk_at "w"
  refine zP (zi h.nd) (zN (i:=0) (YM (ks:=[a,b]) rfl)) ?_
  walk_at "w"
  refine zP (zi h.nd) (zN (i:=1) (YM (ks:=[a,b]) rfl)) ?_
  walk_at "w"
  refine (zdg hbg hbx hp90 hw3 h (by omega) h.ea h.eb h.ta h.tc f1 f2).imp ?_
  rintro _ S12 ⟨r,fs2,rfl,gd,h2,p2,len2,k12⟩
  walk_at "w"
  refine yv (zaS (vQ (vW ?_)))
  walk_at "w"
  refine zP (zi h2.t) xD ?_
  walk_at "w"
  refine zP (zi h2.t) xn ?_
  walk_at "w"
  refine (zgq hbg hbx hp90 hw3 h2 gd h2.ta h2.tc f1 f2 hl1 hl2 h2.c1 h2.c2).imp ?_
  intro v S13 hv
  walk_at "w"
  refine hv.imp ?_
  rintro _ S14 ⟨rfl,k14⟩
  have h2:=h2.keep k14
  refine ⟨_,rfl,(fun z=>by cases z),fun _=>yd ?_⟩
  refine ya (yv (vQ (Wz (vW ?_))))
  walk_at "w"
  refine zP (zi h2.nd) (zN (i:=1) (YM (ks:=[a,b]) rfl)) ?_
  walk_at "w"
  refine zP (zi h2.nd) (zN (i:=0) (YM (ks:=[a,b]) rfl)) ?_
  walk_at "w"
  refine (zdg hbg hbx hp90 hw3 h2 (by omega) h2.eb h2.ea h2.tc h2.ta f2 f1).imp ?_
  rintro _ S15 ⟨r',fs3,rfl,gd',h3,p3,len3,k15⟩
  have hrr:r'=r:=Yo.comm hw3 h3.wf (zdU hbx) (gd.mono h2.wf p3) gd' (h3.ta.vb f1) (h3.tc.vb f2)
  subst hrr
  walk_at "w"
  refine ⟨fun z=>absurd z (by simp),fun _=>yd ?_⟩
  have hm2:=zkj (k:Int)
  have hpk:∃(i m:Nat) (Tx:List Q2),atI (ksX [a,b]) ((k:Int) % 2)=some (.int (i:Int))∧atI [Xv.ref n1,.ref n2] ((k:Int) % 2)=some (.ref m)∧(∃f,fs3[i]? =some f)∧xU ss fs3 0 Tx i∧(∀q∈Tx,Fb q)∧Tx.length=prd ss∧(m=n1∧Tx=T1∨m=n2∧Tx=T2):=by
   rcases hm2 with e|e
   ·rw [e];exact ⟨a,n1,T1,rfl,rfl,h3.ea,h3.ta,f1,hl1,.inl ⟨rfl,rfl⟩⟩
   ·rw [e];exact ⟨b,n2,T2,rfl,rfl,h3.eb,h3.tc,f2,hl2,.inr ⟨rfl,rfl⟩⟩
  obtain ⟨i,m,Tx,q1,q2,q3,q4,q5,q6,q7⟩:=hpk
  walk_at "w"
  refine xX (by decide) ?_
  refine zP (zi h3.nd) q1 ?_
  walk_at "w"
  refine xX (by decide) ?_
  refine zP (zi h3.nd) q1 ?_
  walk_at "w"
  refine (zdg hbg hbx hp90 hw3 h3 (by omega) q3 q3 q4 q4 q5 q5).imp ?_
  rintro _ S16 ⟨r2,fs4,rfl,gd2,h4,p4,len4,k16⟩
  walk_at "w"
  refine yv (zaS (vQ (vW ?_)))
  walk_at "w"
  refine xX (by decide) ?_
  refine zP (zi h4.t) q2 ?_
  walk_at "w"
  refine xX (by decide) ?_
  refine zP (zi h4.t) q2 ?_
  walk_at "w"
  have hcx:S16[m]? =some (.lst (Tx.map qv)):=by
   rcases q7 with ⟨rfl,rfl⟩|⟨rfl,rfl⟩
   ·exact h4.c1
   ·exact h4.c2
  refine (zgq hbg hbx hp90 hw3 h4 gd2 (q4.mono p4) (q4.mono p4) q5 q5 q6 q6 hcx hcx).imp ?_
  intro v S17 hv
  walk_at "w"
  refine hv.imp ?_
  rintro _ S18 ⟨rfl,k18⟩
  refine ⟨_,rfl,(fun z=>by cases z),fun _=>yd ?_⟩
  exact ⟨fs4,_,_,_,rfl,h4.keep k18,by omega⟩
 ·exact ⟨fs,none,none,none,rfl,ls,by omega⟩
 ·rintro ρ S10 ⟨fs,a8,a9,a10,rfl,h,hfl⟩
  refine yE (ZB (zR (wG (vI ?_))))
  walk_at "w"
  refine ⟨⟨by decide,by decide⟩,_,rfl,?_⟩
  refine we (xs:=xh 0 2) (show 2≤sizeLine by decide) (fun i es S11=>es=List.replicate i (.bl true)∧Kp K0 S10 S11) (fun _ _ _ _ _=>rfl) ?_ ⟨rfl,Kp.refl _⟩ ?_
  ·rintro i w es S11 hw hel ⟨rfl,k11⟩
   obtain ⟨hi,rfl⟩:=xa hw
   rw [Int.zero_add]
   have h:=h.keep k11
   refine .of rfl ?_
   dsimp only [xO,List.map,List.set]
   walk_at "w"
   refine ⟨rfl,?_⟩
   have pk:∃(j m:Nat) (Tx:List Q2),(ksX [a,b])[i]? =some (.int (j:Int))∧([Xv.ref n1,.ref n2])[i]? =some (.ref m)∧(∃f,fs[j]? =some f)∧xU ss fs 0 Tx j∧S11[m]? =some (.lst (Tx.map qv)):=by
    obtain rfl|rfl:i=0∨i=1:=by omega
    ·exact ⟨a,n1,T1,rfl,rfl,h.ea,h.ta,h.c1⟩
    ·exact ⟨b,n2,T2,rfl,rfl,h.eb,h.tc,h.c2⟩
   obtain ⟨j,m,Tx,q1,q2,⟨f,q3⟩,q4,q5⟩:=pk
   walk_at "w"
   refine zP (zi h.nd) (zN q1) ?_
   walk_at "w"
   refine zP (zi h.t) (zN q2) ?_
   walk_at "w"
   refine (zdT hbg hbx (by omega) h.st h.wf q3 q4 q5).imp ?_
   rintro _ S12 ⟨rfl,k12⟩
   exact ⟨by rw [List.replicate_succ'],k11.trans k12⟩
  ·rintro es S11 _ ⟨rfl,_⟩
   walk_at "w"
   refine zbf xP (WV _) ?_
   simp
theorem zj9 (hbg:Big fu) (ns:List Int) (hl:ns.length≤63):∃S,zc9 fu [.ref 0] (.frz (ns.map Xv.int)::Xo.map .tab)=some (.ok (.bl true) S):=by
 obtain ⟨_,S,e,rfl⟩:=zj8 hbg ns
 exact ⟨S,e⟩
end
end
noncomputable def zbk:Nat:=2^9000
theorem zct:Big zbk:=by unfold Big zbk;exact Nat.le_refl _
theorem zi2 {P:Program} {w:World} {K:PySem.W.Frag} {mg:Str→Option Value} {base:Heap} (T:Tx K mg) {ts tbs:List Addr} (hT:zg9 K ts Xo tbs):yj P w K mg base (CXE P w) 34 T.f_law.a T.f_law.fd ["_law_script"] (UU K tbs):=zhb (zhg (fu:=zbk) T) hT fun ns hl=>zj9 zct ns hl
noncomputable def zka {K:PySem.W.Frag} {h:Heap} {mg:Str→Option Value} (X:K.In h) (G:h.Ns mainGlobals mg)
  {g_Store:Addr} 
  (a_Store:PySem.W.nsIn K mainGlobals "Store"=some (some (.ref g_Store)))
  (H0:FL K "_wall" zdH)
  (H1:FL K "common_part" ZM)
  (H2:FL K "lowest" UV)
  (H3:FL K "plus" zc1)
  (H4:FL K "times" za8)
  (H5:FL K "under" za9)
  (H6:FL K "greater" Vn)
  (H7:ML K g_Store "__init__" "Store.__init__" vd)
  (H8:ML K g_Store "number_of" "Store.number_of" wI)
  (H9:ML K g_Store "leaf" "Store.leaf" YH)
  (H10:ML K g_Store "fork" "Store.fork" vY)
  (H11:ML K g_Store "told" "Store.told" WG)
  (H12:ML K g_Store "level_of" "Store.level_of" ve)
  (H13:ML K g_Store "kids_of" "Store.kids_of" vK)
  (H14:ML K g_Store "kid_at" "Store.kid_at" Zp)
  (H15:ML K g_Store "value_at" "Store.value_at" vf)
  (H16:ML K g_Store "added" "Store.added" wg)
  (H17:ML K g_Store "multiplied" "Store.multiplied" yL)
  (H18:ML K g_Store "higher" "Store.higher" xE)
  (H19:ML K g_Store "reckoned_of" "Store.reckoned_of" yF)
  (H20:ML K g_Store "chosen_by" "Store.chosen_by" ZD)
  (H21:ML K g_Store "joined" "Store.joined" Zq)
  (H22:ML K g_Store "joined_below" "Store.joined_below" yC)
  (H23:ML K g_Store "leaf_by" "Store.leaf_by" yR)
  (H24:ML K g_Store "choice_among" "Store.choice_among" vB)
  (H25:ML K g_Store "fixed" "Store.fixed" XX)
  (H26:ML K g_Store "fixed_below" "Store.fixed_below" vR)
  (H27:ML K g_Store "marked" "Store.marked" Xj)
  (H28:ML K g_Store "made" "Store.made" WH)
  (H29:ML K g_Store "made_behind" "Store.made_behind" vS)
  (H30:ML K g_Store "point" "Store.point" XY)
  (H31:ML K g_Store "nodes_below" "Store.nodes_below" vT)
  (H32:FL K "_law_take" Xk)
  (H33:FL K "_law_word" Xl)
  (H34:FL K "_law_names" xQ)
  (H35:FL K "_law_boxes" YI)
  (H36:FL K "_law_low" Wo)
  (H37:FL K "_law_ratio" YJ)
  (H38:FL K "_law_same" vC)
  (H39:FL K "_law_whole" YK)
  (H40:FL K "_law_states" vp)
  (H41:FL K "_law_table" vZ)
  (H42:FL K "_law_node" ZE)
  (H43:FL K "_law_tells" Za)
  (H44:FL K "_law_joined" ZN)
  (H45:FL K "_law_put_together" xY)
  (H46:FL K "law" zce)
  (Z_Store_added:(Zv K ⟨some "Store","added","Store.added"⟩).isSome=true)
  (Z_Store_multiplied:(Zv K ⟨some "Store","multiplied","Store.multiplied"⟩).isSome=true)
  (Z_Store_higher:(Zv K ⟨some "Store","higher","Store.higher"⟩).isSome=true)
  (Z_Store_reckoned_of:(Zv K ⟨some "Store","reckoned_of","Store.reckoned_of"⟩).isSome=true)
  (g1_Store:PySem.W.plainGet K g_Store Str.empty=true) (g2_Store:PySem.W.hasDictIn K g_Store=true) (g3_Store:PySem.W.plainOver K g_Store=true) (g4_Store:PySem.W.findIn K (.ref g_Store) "__setattr__"=some (some (.builtin "object.__setattr__"))) (k_Store:PySem.W.makesIn K g_Store=true) (p_Store:PySem.W.keepIn K (.ref g_Store)=true)
  (n_Store_boxes:PySem.W.findIn K (.ref g_Store) "boxes"=some none)
  (n_Store_facts:PySem.W.findIn K (.ref g_Store) "facts"=some none)
  (n_Store_numbers:PySem.W.findIn K (.ref g_Store) "numbers"=some none)
  (N_abs:PySem.W.nsIn K mainGlobals "abs"=some none)
  (N_all:PySem.W.nsIn K mainGlobals "all"=some none)
  (N_any:PySem.W.nsIn K mainGlobals "any"=some none)
  (N_bool:PySem.W.nsIn K mainGlobals "bool"=some none)
  (N_int:PySem.W.nsIn K mainGlobals "int"=some none)
  (N_isinstance:PySem.W.nsIn K mainGlobals "isinstance"=some none)
  (N_len:PySem.W.nsIn K mainGlobals "len"=some none)
  (N_list:PySem.W.nsIn K mainGlobals "list"=some none)
  (N_min:PySem.W.nsIn K mainGlobals "min"=some none)
  (N_range:PySem.W.nsIn K mainGlobals "range"=some none)
  (N_reversed:PySem.W.nsIn K mainGlobals "reversed"=some none)
  (N_str:PySem.W.nsIn K mainGlobals "str"=some none)
  (N_tuple:PySem.W.nsIn K mainGlobals "tuple"=some none):Tx K mg:={f__wall:=H0.to X G (fun _ _ _ _ _ _=>at_ fun _=>at0 rfl),f_common_part:=H1.to X G (fun _ _ _ _ _ _=>at_ fun _=>at_ fun _=>at0 rfl),f_lowest:=H2.to X G (fun _ _ _ _ _ _=>at_ fun _=>at_ fun _=>at0 rfl),f_plus:=H3.to X G (fun _ _ _ _ _ _=>at_ fun _=>at_ fun _=>at0 rfl),f_times:=H4.to X G (fun _ _ _ _ _ _=>at_ fun _=>at_ fun _=>at0 rfl),f_under:=H5.to X G (fun _ _ _ _ _ _=>at_ fun _=>at_ fun _=>at0 rfl),f_greater:=H6.to X G (fun _ _ _ _ _ _=>at_ fun _=>at_ fun _=>at0 rfl),f_Store___init__:=H7.to (fun _ _ _ _ _ _=>at_ fun _=>at_ fun _=>at0 rfl),mk_Store:=⟨k_Store,(H7.to (ps:=["self","boxes"]) (fun _ _ _ _ _ _=>at_ fun _=>at_ fun _=>at0 rfl)).mt.at_,(H7.to (ps:=["self","boxes"]) (fun _ _ _ _ _ _=>at_ fun _=>at_ fun _=>at0 rfl)).mt.fn,p_Store⟩,f_Store_number_of:=H8.to (fun _ _ _ _ _ _=>at_ fun _=>at_ fun _=>at0 rfl),f_Store_leaf:=H9.to (fun _ _ _ _ _ _=>at_ fun _=>at_ fun _=>at0 rfl),f_Store_fork:=H10.to (fun _ _ _ _ _ _=>at_ fun _=>at_ fun _=>at_ fun _=>at0 rfl),f_Store_told:=H11.to (fun _ _ _ _ _ _=>at_ fun _=>at_ fun _=>at0 rfl),f_Store_level_of:=H12.to (fun _ _ _ _ _ _=>at_ fun _=>at_ fun _=>at0 rfl),f_Store_kids_of:=H13.to (fun _ _ _ _ _ _=>at_ fun _=>at_ fun _=>at0 rfl),f_Store_kid_at:=H14.to (fun _ _ _ _ _ _=>at_ fun _=>at_ fun _=>at_ fun _=>at_ fun _=>at0 rfl),f_Store_value_at:=H15.to (fun _ _ _ _ _ _=>at_ fun _=>at_ fun _=>at_ fun _=>at0 rfl),f_Store_added:=H16.to (fun _ _ _ _ _ _=>at_ fun _=>at_ fun _=>at_ fun _=>at0 rfl),f_Store_multiplied:=H17.to (fun _ _ _ _ _ _=>at_ fun _=>at_ fun _=>at_ fun _=>at0 rfl),f_Store_higher:=H18.to (fun _ _ _ _ _ _=>at_ fun _=>at_ fun _=>at_ fun _=>at0 rfl),f_Store_reckoned_of:=H19.to (fun _ _ _ _ _ _=>at_ fun _=>at_ fun _=>at_ fun _=>at0 rfl),f_Store_chosen_by:=H20.to (fun _ _ _ _ _ _=>at_ fun _=>at_ fun _=>at_ fun _=>at0 rfl),f_Store_joined:=H21.to (fun _ _ _ _ _ _=>at_ fun _=>at_ fun _=>at_ fun _=>at_ fun _=>at0 rfl),f_Store_joined_below:=H22.to (fun _ _ _ _ _ _=>at_ fun _=>at_ fun _=>at_ fun _=>at_ fun _=>at0 rfl),f_Store_leaf_by:=H23.to (fun _ _ _ _ _ _=>at_ fun _=>at_ fun _=>at_ fun _=>at0 rfl),f_Store_choice_among:=H24.to (fun _ _ _ _ _ _=>at_ fun _=>at_ fun _=>at0 rfl),f_Store_fixed:=H25.to (fun _ _ _ _ _ _=>at_ fun _=>at_ fun _=>at_ fun _=>at_ fun _=>at0 rfl),f_Store_fixed_below:=H26.to (fun _ _ _ _ _ _=>at_ fun _=>at_ fun _=>at_ fun _=>at_ fun _=>at_ fun _=>at0 rfl),f_Store_marked:=H27.to (fun _ _ _ _ _ _=>at_ fun _=>at_ fun _=>at0 rfl),f_Store_made:=H28.to (fun _ _ _ _ _ _=>at_ fun _=>at_ fun _=>at_ fun _=>at0 rfl),f_Store_made_behind:=H29.to (fun _ _ _ _ _ _=>at_ fun _=>at_ fun _=>at_ fun _=>at_ fun _=>at0 rfl),f_Store_point:=H30.to (fun _ _ _ _ _ _=>at_ fun _=>at_ fun _=>at0 rfl),f_Store_nodes_below:=H31.to (fun _ _ _ _ _ _=>at_ fun _=>at_ fun _=>at0 rfl),f__law_take:=H32.to X G (fun _ _ _ _ _ _=>at_ fun _=>at_ fun _=>at0 rfl),f__law_word:=H33.to X G (fun _ _ _ _ _ _=>at_ fun _=>at_ fun _=>at0 rfl),f__law_names:=H34.to X G (fun _ _ _ _ _ _=>at_ fun _=>at_ fun _=>at0 rfl),f__law_boxes:=H35.to X G (fun _ _ _ _ _ _=>at_ fun _=>at_ fun _=>at0 rfl),f__law_low:=H36.to X G (fun _ _ _ _ _ _=>at_ fun _=>at_ fun _=>at0 rfl),f__law_ratio:=H37.to X G (fun _ _ _ _ _ _=>at_ fun _=>at0 rfl),f__law_same:=H38.to X G (fun _ _ _ _ _ _=>at_ fun _=>at_ fun _=>at0 rfl),f__law_whole:=H39.to X G (fun _ _ _ _ _ _=>at_ fun _=>at0 rfl),f__law_states:=H40.to X G (fun _ _ _ _ _ _=>at_ fun _=>at0 rfl),f__law_table:=H41.to X G (fun _ _ _ _ _ _=>at_ fun _=>at_ fun _=>at0 rfl),f__law_node:=H42.to X G (fun _ _ _ _ _ _=>at_ fun _=>at_ fun _=>at_ fun _=>at_ fun _=>at0 rfl),f__law_tells:=H43.to X G (fun _ _ _ _ _ _=>at_ fun _=>at_ fun _=>at_ fun _=>at_ fun _=>at0 rfl),f__law_joined:=H44.to X G (fun _ _ _ _ _ _=>at_ fun _=>at_ fun _=>at_ fun _=>at0 rfl),f__law_put_together:=H45.to X G (fun _ _ _ _ _ _=>at_ fun _=>at_ fun _=>at_ fun _=>at_ fun _=>at0 rfl),f_law:=H46.to X G (fun _ _ _ _ _ _=>at_ fun _=>at0 rfl),z_Store_added:=Z_Store_added,z_Store_multiplied:=Z_Store_multiplied,z_Store_higher:=Z_Store_higher,z_Store_reckoned_of:=Z_Store_reckoned_of,a_Store:=g_Store,m_Store:=PySem.W.mg_of X G a_Store,cl_Store:=⟨g1_Store,g2_Store,g3_Store,g4_Store⟩,ns_Store:=a_Store,n_Store_boxes:=n_Store_boxes,n_Store_facts:=n_Store_facts,n_Store_numbers:=n_Store_numbers,n_abs:=PySem.W.mg_none_of X G N_abs,n_all:=PySem.W.mg_none_of X G N_all,n_any:=PySem.W.mg_none_of X G N_any,n_bool:=PySem.W.mg_none_of X G N_bool,n_int:=PySem.W.mg_none_of X G N_int,n_isinstance:=PySem.W.mg_none_of X G N_isinstance,n_len:=PySem.W.mg_none_of X G N_len,n_list:=PySem.W.mg_none_of X G N_list,n_min:=PySem.W.mg_none_of X G N_min,n_range:=PySem.W.mg_none_of X G N_range,n_reversed:=PySem.W.mg_none_of X G N_reversed,n_str:=PySem.W.mg_none_of X G N_str,n_tuple:=PySem.W.mg_none_of X G N_tuple}
theorem zi3 {l:PySem.W.OpenLaw} {w:World} {K:PySem.W.Frag} {mg:Str→Option Value} {fa:Addr} {ts:List Addr} (hB:zaj K ts Xo=true) (hfa:mg "law"=some (.ref fa)) (T:Tx K mg):
  ∃fd:FuncData,(∀(s:Shared) (v:Value),BindsTo s fd ⟨[v],[]⟩ [("_law_script",v)])∧∀base:Heap,K.In base→base.Ns mainGlobals mg→yj l.prog w K mg base (CXE l.prog w) 34 fa fd ["_law_script"] (UU K (Xi K Xo)):=by
 have e:=ziV T.f_law (fun _ _=>trivial) hfa
 subst e
 exact ⟨_,fun s v=>by
  obtain ⟨_,_,_,_,_,_,_,_,_,e,_⟩:=T.f_law.F.ex
  rw [e]
  exact .of_eq rfl,fun base _ _=>zi2 T (zdG hB)⟩
theorem zkk {l:PySem.W.OpenLaw} {q:Program} {loose:List Str} {XP:(Str→Option Value)→Heap→Prop} {YP:World→Heap→Prop} {d:DefRec} {K:Params→PySem.W.Frag} {ts:List Addr} (hn:l.most=some 63) (hdf:d.params.defaults=[])
  (hY:∀(w:World) (h:Heap),YP w h→(K w.params).In h∧∀P∈ts,h.get? P=some (PySem.W.tabObj #[])) (hB:∀w:World,zaj (K w.params) ts Xo=true)
  (F:∀(w:World) (mg:Str→Option Value) (fa:Addr) (h:Heap),zaj (K w.params) ts Xo=true→(K w.params).In h→h.Ns mainGlobals mg→mg d.name=some (.ref fa)→
   ∃fd:FuncData,(∀(s:Shared) (u:Value),BindsTo s fd ⟨[u],[]⟩ [("_law_script",u)])∧∀base:Heap,(K w.params).In base→base.Ns mainGlobals mg→yj l.prog w (K w.params) mg base (CXE l.prog w) 34 fa fd ["_law_script"] (UU (K w.params) (Xi (K w.params) Xo))):
  PySem.W.WalkO q loose XP YP l.row.toRowW d [] (fun f vs=>PySem.call f vs):=
 L2.zfV (n:=63) (k:=34) (x:="_law_script") (CX:=fun w=>CXE l.prog w) hn (by decide) hdf ⟨rfl,by decide,by decide,rfl⟩ hY hB (fun w mg fa h=>F w mg fa h (hB w)) fun _ _ _ _ _ ⟨_,_,_,_,_,z⟩=>z
end Prf
open PySem PySem.W PyProof.Rows
local macro_rules | `(tactic| walk_at "fl") => `(tactic| exact Prf.zjQ (by k_is) (by k_is) (by k_is) (by k_is))
local macro_rules | `(tactic| walk_at "ml") => `(tactic| exact Prf.zjR (by k_is) (by k_is) (by k_is) (by k_is) (by k_is))
set_option maxRecDepth 100000 in
set_option maxHeartbeats 0 in
theorem PySem.Challenge.cw_lots_k41_sums_by_states_holds : PySem.Challenge.rw_lots_k41_sums_by_states.Holds := by
 w_on;o_law;k_head;(case hw=>w_witness2)
 k_fill
 refine Prf.zkk (l:=PySem.Challenge.rw_lots_k41_sums_by_states) rfl rfl (fun w h Y=>⟨PySem.W.km_in_of Y,PySem.W.km_tabs_of Y⟩) ?B ?F
 case B=>intro w;kernel_rfl
 case F=>
  intro w mg fa h hB KX G hmg
  refine' Prf.zi3 hB hmg (Prf.zka KX G ?a_Store ?H0 ?H1 ?H2 ?H3 ?H4 ?H5 ?H6 ?H7 ?H8 ?H9 ?H10 ?H11 ?H12 ?H13 ?H14 ?H15 ?H16 ?H17 ?H18 ?H19 ?H20 ?H21 ?H22 ?H23 ?H24 ?H25 ?H26 ?H27 ?H28 ?H29 ?H30 ?H31 ?H32 ?H33 ?H34 ?H35 ?H36 ?H37 ?H38 ?H39 ?H40 ?H41 ?H42 ?H43 ?H44 ?H45 ?H46 ?Z_Store_added ?Z_Store_multiplied ?Z_Store_higher ?Z_Store_reckoned_of ?g1_Store ?g2_Store ?g3_Store ?g4_Store ?k_Store ?p_Store ?n_Store_boxes ?n_Store_facts ?n_Store_numbers ?N_abs ?N_all ?N_any ?N_bool ?N_int ?N_isinstance ?N_len ?N_list ?N_min ?N_range ?N_reversed ?N_str ?N_tuple)
  (case a_Store=>k_is);(case H0=>walk_at "fl");(case H1=>walk_at "fl");(case H2=>walk_at "fl");(case H3=>walk_at "fl");(case H4=>walk_at "fl")
  (case H5=>walk_at "fl");(case H6=>walk_at "fl");(case H7=>walk_at "ml");(case H8=>walk_at "ml");(case H9=>walk_at "ml");(case H10=>walk_at "ml")
  (case H11=>walk_at "ml");(case H12=>walk_at "ml");(case H13=>walk_at "ml");(case H14=>walk_at "ml");(case H15=>walk_at "ml");(case H16=>walk_at "ml")
  (case H17=>walk_at "ml");(case H18=>walk_at "ml");(case H19=>walk_at "ml");(case H20=>walk_at "ml");(case H21=>walk_at "ml");(case H22=>walk_at "ml")
  (case H23=>walk_at "ml");(case H24=>walk_at "ml");(case H25=>walk_at "ml");(case H26=>walk_at "ml");(case H27=>walk_at "ml");(case H28=>walk_at "ml")
  (case H29=>walk_at "ml");(case H30=>walk_at "ml");(case H31=>walk_at "ml");(case H32=>walk_at "fl");(case H33=>walk_at "fl");(case H34=>walk_at "fl")
  (case H35=>walk_at "fl");(case H36=>walk_at "fl");(case H37=>walk_at "fl");(case H38=>walk_at "fl");(case H39=>walk_at "fl");(case H40=>walk_at "fl")
  (case H41=>walk_at "fl");(case H42=>walk_at "fl");(case H43=>walk_at "fl");(case H44=>walk_at "fl");(case H45=>walk_at "fl");(case H46=>walk_at "fl")
  (case Z_Store_added=>kernel_rfl);(case Z_Store_multiplied=>kernel_rfl);(case Z_Store_higher=>kernel_rfl);(case Z_Store_reckoned_of=>kernel_rfl);(case g1_Store=>k_is);(case g2_Store=>k_is)
  (case g3_Store=>k_is);(case g4_Store=>k_is);(case k_Store=>k_is);(case p_Store=>k_is);(case n_Store_boxes=>k_is);(case n_Store_facts=>k_is)
  (case n_Store_numbers=>k_is);(case N_abs=>k_is);(case N_all=>k_is);(case N_any=>k_is);(case N_bool=>k_is);(case N_int=>k_is)
  (case N_isinstance=>k_is);(case N_len=>k_is);(case N_list=>k_is);(case N_min=>k_is);(case N_range=>k_is);(case N_reversed=>k_is)
  (case N_str=>k_is);(case N_tuple=>k_is)
