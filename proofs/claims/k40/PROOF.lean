import PyProof.Rows.All
import Wide.All
import OpenK.AllK
import Wide.FinOn
import Lean
import PyProof.EqAt
import PyProof.EqKinds
import PyProof.TupleCall
import PySem.Challenge.RW_lots_k40_leaves_and_forks
set_option Elab.async false
set_option linter.all false
set_option maxRecDepth 100000
namespace PySem.W.Fast
theorem tw10014207747678104734 : True := trivial
theorem tw10031914281611092580 : True := trivial
theorem tw10099401266917507582 : True := trivial
theorem tw10101747873563801103 : True := trivial
theorem tw10128877380170430353 : True := trivial
theorem tw1013801833432676611 : True := trivial
theorem tw10282100836212175585 : True := trivial
theorem tw10385003824863735526 : True := trivial
theorem tw10394625490253866952 : True := trivial
theorem tw10405249699271795497 : True := trivial
theorem tw10448321328190585400 : True := trivial
theorem tw10454998538580490205 : True := trivial
theorem tw1047722399098131396 : True := trivial
theorem tw10483335541712784837 : True := trivial
theorem tw1055920729511379305 : True := trivial
theorem tw10580696263052587571 : True := trivial
theorem tw10608285460504619432 : True := trivial
theorem tw1063809825157537409 : True := trivial
theorem tw10639609807211954200 : True := trivial
theorem tw10722447075283727244 : True := trivial
theorem tw10741921320592006269 : True := trivial
theorem tw10782835576761480821 : True := trivial
theorem tw10867353077778483355 : True := trivial
theorem tw10887104314572446712 : True := trivial
theorem tw10933765916990314632 : True := trivial
theorem tw10966266491318078128 : True := trivial
theorem tw11004052261135992790 : True := trivial
theorem tw11022000654304515888 : True := trivial
theorem tw11072586059083204430 : True := trivial
theorem tw11093893743983352178 : True := trivial
theorem tw11105368474840394729 : True := trivial
theorem tw111062603861999510 : True := trivial
theorem tw11117988476103254464 : True := trivial
theorem tw11170150419783044567 : True := trivial
theorem tw11187071701046841285 : True := trivial
theorem tw11191838045421316619 : True := trivial
theorem tw11254645662068506258 : True := trivial
theorem tw11289590721742856006 : True := trivial
theorem tw11298794139159764837 : True := trivial
theorem tw11326941914508829961 : True := trivial
theorem tw11383020137308874010 : True := trivial
theorem tw11396645517074133958 : True := trivial
theorem tw11433756662428460961 : True := trivial
theorem tw11461353740951645909 : True := trivial
theorem tw11463778205611138304 : True := trivial
theorem tw11490848711059742400 : True := trivial
theorem tw11497875430510703289 : True := trivial
theorem tw11504409420811277924 : True := trivial
theorem tw11538980215262858868 : True := trivial
theorem tw11566005004809264573 : True := trivial
theorem tw11603019775503273389 : True := trivial
theorem tw11631285139653807473 : True := trivial
theorem tw11638533503000860152 : True := trivial
theorem tw11656239154660503153 : True := trivial
theorem tw11731631631825127423 : True := trivial
theorem tw1177995954777556364 : True := trivial
theorem tw11880169157816271562 : True := trivial
theorem tw11883820943900141027 : True := trivial
theorem tw11906626810579917872 : True := trivial
theorem tw11925624834271484368 : True := trivial
theorem tw12003595365246434462 : True := trivial
theorem tw12091694769095741865 : True := trivial
theorem tw12096389260723869517 : True := trivial
theorem tw12114340171998506756 : True := trivial
theorem tw12142997708716148709 : True := trivial
theorem tw12145750223322666308 : True := trivial
theorem tw12192480023920122705 : True := trivial
theorem tw12357980409752332497 : True := trivial
theorem tw12449543534666442185 : True := trivial
theorem tw1254063013507257443 : True := trivial
theorem tw12565000517136992600 : True := trivial
theorem tw12587342749850456860 : True := trivial
theorem tw12743646525424039152 : True := trivial
theorem tw12753258924302482968 : True := trivial
theorem tw12769363552708729507 : True := trivial
theorem tw12797380574240188597 : True := trivial
theorem tw12844116508060122273 : True := trivial
theorem tw12862510773165065242 : True := trivial
theorem tw1291652002044456007 : True := trivial
theorem tw12934050071099842683 : True := trivial
theorem tw12944489369729710846 : True := trivial
theorem tw12979262957932400441 : True := trivial
theorem tw13013352279607508629 : True := trivial
theorem tw13045626822837947492 : True := trivial
theorem tw13061133763479345328 : True := trivial
theorem tw13102469902267142138 : True := trivial
theorem tw1313188233538917896 : True := trivial
theorem tw13165994103519084219 : True := trivial
theorem tw13207797673721925589 : True := trivial
theorem tw13323461197853735216 : True := trivial
theorem tw13350898777866085660 : True := trivial
theorem tw13364695016859727415 : True := trivial
theorem tw13370857067921735632 : True := trivial
theorem tw13509813988733910146 : True := trivial
theorem tw13521664367451779826 : True := trivial
theorem tw13576809655652835775 : True := trivial
theorem tw13638875475253729032 : True := trivial
theorem tw13690260467755533615 : True := trivial
theorem tw13758359506826357461 : True := trivial
theorem tw13759218040431501283 : True := trivial
theorem tw13812773461302361421 : True := trivial
theorem tw13814386903338932801 : True := trivial
theorem tw13855613850650763674 : True := trivial
theorem tw13884112638227422466 : True := trivial
theorem tw13890208990468767999 : True := trivial
theorem tw13906003560065738344 : True := trivial
theorem tw13932909749774701021 : True := trivial
theorem tw13938199580654921116 : True := trivial
theorem tw14026638792573299375 : True := trivial
theorem tw14076073614741025253 : True := trivial
theorem tw14086581528144410208 : True := trivial
theorem tw14090349116005763446 : True := trivial
theorem tw14122088338614192376 : True := trivial
theorem tw1417062957806030792 : True := trivial
theorem tw1422358485898227872 : True := trivial
theorem tw14286856083654494729 : True := trivial
theorem tw14300631443458556144 : True := trivial
theorem tw14307419095829742264 : True := trivial
theorem tw14323140590978822354 : True := trivial
theorem tw14344248021950893127 : True := trivial
theorem tw14366690659102361834 : True := trivial
theorem tw14386375751560640386 : True := trivial
theorem tw14392178002534563204 : True := trivial
theorem tw14452914822703633098 : True := trivial
theorem tw145295726513467556 : True := trivial
theorem tw14549252957118113865 : True := trivial
theorem tw14556844397022338951 : True := trivial
theorem tw14626448308638318727 : True := trivial
theorem tw1468453360537073424 : True := trivial
theorem tw14753178482584135604 : True := trivial
theorem tw14756821389619748590 : True := trivial
theorem tw14868817698312615107 : True := trivial
theorem tw14874473040532436106 : True := trivial
theorem tw14951991455150718929 : True := trivial
theorem tw14983380741308231821 : True := trivial
theorem tw14999754325631921344 : True := trivial
theorem tw15036540655809019682 : True := trivial
theorem tw15042923639758638384 : True := trivial
theorem tw1506733047614641119 : True := trivial
theorem tw15070600859858712430 : True := trivial
theorem tw15150826657464379179 : True := trivial
theorem tw15176336374761272535 : True := trivial
theorem tw1528599099856626233 : True := trivial
theorem tw15365266210033497082 : True := trivial
theorem tw15465354299615101660 : True := trivial
theorem tw15489267152153102361 : True := trivial
theorem tw15580737443877443624 : True := trivial
theorem tw15580878607267603281 : True := trivial
theorem tw1571707740617263224 : True := trivial
theorem tw15723714382085312594 : True := trivial
theorem tw15752509210726547071 : True := trivial
theorem tw15816003203741707673 : True := trivial
theorem tw1585621170776945317 : True := trivial
theorem tw15932519931512995255 : True := trivial
theorem tw15938518911197240320 : True := trivial
theorem tw15981758573022683411 : True := trivial
theorem tw15996837194007116616 : True := trivial
theorem tw16023596759233268685 : True := trivial
theorem tw16094824518367522386 : True := trivial
theorem tw16247492696309675877 : True := trivial
theorem tw16275768656445407904 : True := trivial
theorem tw16320923797970915826 : True := trivial
theorem tw16354170016202039123 : True := trivial
theorem tw16355237473903841906 : True := trivial
theorem tw16371385306124238341 : True := trivial
theorem tw1637813779010357413 : True := trivial
theorem tw1639770993481722224 : True := trivial
theorem tw16501500756993240529 : True := trivial
theorem tw16555426168322058681 : True := trivial
theorem tw16591189361836873603 : True := trivial
theorem tw16592126258718576784 : True := trivial
theorem tw16664698524680314088 : True := trivial
theorem tw16686192550278021707 : True := trivial
theorem tw1669027882142548770 : True := trivial
theorem tw16738493026093429799 : True := trivial
theorem tw16761496501982301057 : True := trivial
theorem tw16767531628251607607 : True := trivial
theorem tw16825731431675250153 : True := trivial
theorem tw16988268936985678135 : True := trivial
theorem tw169892514580154407 : True := trivial
theorem tw17005158385540548036 : True := trivial
theorem tw17101167550653037907 : True := trivial
theorem tw17123385137441650879 : True := trivial
theorem tw17199127425666976295 : True := trivial
theorem tw17221136511495947311 : True := trivial
theorem tw1722259450454065069 : True := trivial
theorem tw17240357594040258922 : True := trivial
theorem tw17373886493232872294 : True := trivial
theorem tw17414053973422064157 : True := trivial
theorem tw1741835421438625397 : True := trivial
theorem tw17422299384346734847 : True := trivial
theorem tw1743848973761623386 : True := trivial
theorem tw17479097428883386674 : True := trivial
theorem tw17620057760294079454 : True := trivial
theorem tw17637363773723409355 : True := trivial
theorem tw17659681456687806131 : True := trivial
theorem tw1776367487914498742 : True := trivial
theorem tw1779403934054251294 : True := trivial
theorem tw17803244156582062184 : True := trivial
theorem tw17827321186232432147 : True := trivial
theorem tw1785747384273786700 : True := trivial
theorem tw1787627343140099856 : True := trivial
theorem tw17876832659570458021 : True := trivial
theorem tw17900484603072722222 : True := trivial
theorem tw17914158427261590337 : True := trivial
theorem tw17922572024942214188 : True := trivial
theorem tw17958563640825255037 : True := trivial
theorem tw17974422277737870768 : True := trivial
theorem tw18014388272542512040 : True := trivial
theorem tw18127448644803994304 : True := trivial
theorem tw18155781205469835286 : True := trivial
theorem tw18292491653397768740 : True := trivial
theorem tw18368836716697886935 : True := trivial
theorem tw18370024066456905890 : True := trivial
theorem tw18387031565635400846 : True := trivial
theorem tw18393724719144212253 : True := trivial
theorem tw18424554279799671429 : True := trivial
theorem tw1843902243271627186 : True := trivial
theorem tw1941544688675391537 : True := trivial
theorem tw2043573119066509503 : True := trivial
theorem tw2055440973487072984 : True := trivial
theorem tw2083448944061570765 : True := trivial
theorem tw2105317023942131675 : True := trivial
theorem tw2265862197398587332 : True := trivial
theorem tw2338358613353955171 : True := trivial
theorem tw245118481971767203 : True := trivial
theorem tw2466318798564173243 : True := trivial
theorem tw247098788528868656 : True := trivial
theorem tw2477075676314134714 : True := trivial
theorem tw2492611587255612693 : True := trivial
theorem tw2502738361000708532 : True := trivial
theorem tw2503200699691066015 : True := trivial
theorem tw2563973298171473134 : True := trivial
theorem tw2600148205882396005 : True := trivial
theorem tw2808945824738220383 : True := trivial
theorem tw2942732934367428533 : True := trivial
theorem tw2950319236258410953 : True := trivial
theorem tw2957781142958003549 : True := trivial
theorem tw2975837132129959186 : True := trivial
theorem tw3005999037341993911 : True := trivial
theorem tw3064547547870083249 : True := trivial
theorem tw3099597825101740162 : True := trivial
theorem tw3152400076566317476 : True := trivial
theorem tw3153203845012107600 : True := trivial
theorem tw3177331792377899295 : True := trivial
theorem tw3196140224260506702 : True := trivial
theorem tw334202821401116088 : True := trivial
theorem tw3373792988773595769 : True := trivial
theorem tw3432940469549426501 : True := trivial
theorem tw3465143301196858926 : True := trivial
theorem tw352304142043786481 : True := trivial
theorem tw3525265042876473819 : True := trivial
theorem tw3551888738983974646 : True := trivial
theorem tw3632475362038959203 : True := trivial
theorem tw3655122925945172102 : True := trivial
theorem tw3686300578670207110 : True := trivial
theorem tw3743682285016869556 : True := trivial
theorem tw3766485596445123690 : True := trivial
theorem tw3859083249382257072 : True := trivial
theorem tw3877034868467201866 : True := trivial
theorem tw3894508055785922035 : True := trivial
theorem tw3907374932217653904 : True := trivial
theorem tw3914461874540746772 : True := trivial
theorem tw3995122734952175723 : True := trivial
theorem tw4069520483228591230 : True := trivial
theorem tw4279846969350178549 : True := trivial
theorem tw4369628641087192537 : True := trivial
theorem tw4411397817571627319 : True := trivial
theorem tw444389803747021513 : True := trivial
theorem tw4454088355143573683 : True := trivial
theorem tw4523430001942866650 : True := trivial
theorem tw4617425709923355961 : True := trivial
theorem tw4656710327457790333 : True := trivial
theorem tw4658094776297469751 : True := trivial
theorem tw4687122696036802736 : True := trivial
theorem tw470266763433947102 : True := trivial
theorem tw4763813647851863241 : True := trivial
theorem tw4858457977748896551 : True := trivial
theorem tw4998051258010279092 : True := trivial
theorem tw5055793783101853697 : True := trivial
theorem tw508634638846688983 : True := trivial
theorem tw5101764262900244911 : True := trivial
theorem tw5262228699720812333 : True := trivial
theorem tw530465501384023911 : True := trivial
theorem tw5325648346975840004 : True := trivial
theorem tw5351690217333402419 : True := trivial
theorem tw5360389834381513965 : True := trivial
theorem tw5382263105592080865 : True := trivial
theorem tw5463072146347583785 : True := trivial
theorem tw5478403965401494988 : True := trivial
theorem tw550009706572131707 : True := trivial
theorem tw5580092686004174313 : True := trivial
theorem tw562558413636195713 : True := trivial
theorem tw5734621068627594760 : True := trivial
theorem tw5745632367181044766 : True := trivial
theorem tw5909757431530849069 : True := trivial
theorem tw6008437314163507526 : True := trivial
theorem tw6016922555193285825 : True := trivial
theorem tw6017661190117513747 : True := trivial
theorem tw6233733587426800646 : True := trivial
theorem tw6280545426068473155 : True := trivial
theorem tw6285554501544459545 : True := trivial
theorem tw6287369516516414641 : True := trivial
theorem tw6313080145896989269 : True := trivial
theorem tw6354920539014334887 : True := trivial
theorem tw6423166189634794922 : True := trivial
theorem tw6483213600968496032 : True := trivial
theorem tw6490853437193098503 : True := trivial
theorem tw6491411446713568757 : True := trivial
theorem tw6547217413127645649 : True := trivial
theorem tw6656623507167675605 : True := trivial
theorem tw6719678969193445014 : True := trivial
theorem tw6746436327528575305 : True := trivial
theorem tw6759628786248981837 : True := trivial
theorem tw6810831960212119202 : True := trivial
theorem tw6822251119127236791 : True := trivial
theorem tw68283606450223502 : True := trivial
theorem tw685624971112085598 : True := trivial
theorem tw6898256447248845125 : True := trivial
theorem tw6911798876999406247 : True := trivial
theorem tw6924810686339685724 : True := trivial
theorem tw6940549648717708566 : True := trivial
theorem tw7014032618265846438 : True := trivial
theorem tw7020236509247035589 : True := trivial
theorem tw7040530930292517378 : True := trivial
theorem tw7120346768596635393 : True := trivial
theorem tw7136988049961961979 : True := trivial
theorem tw72061604614324238 : True := trivial
theorem tw7212830097897066874 : True := trivial
theorem tw7237657152260425681 : True := trivial
theorem tw7239970550603523668 : True := trivial
theorem tw7318440673453762497 : True := trivial
theorem tw7373013113739662890 : True := trivial
theorem tw7394477552510091894 : True := trivial
theorem tw7415083796907650396 : True := trivial
theorem tw7518662448134661766 : True := trivial
theorem tw7533577638248349592 : True := trivial
theorem tw7548647716203639343 : True := trivial
theorem tw7617480022136559403 : True := trivial
theorem tw7635399468114675152 : True := trivial
theorem tw7641952234202671378 : True := trivial
theorem tw7649737600797575596 : True := trivial
theorem tw7650594825934705158 : True := trivial
theorem tw7661159052368829727 : True := trivial
theorem tw770599162763494987 : True := trivial
theorem tw7781123937764499489 : True := trivial
theorem tw7850124340498922407 : True := trivial
theorem tw7853903967814011217 : True := trivial
theorem tw7855044331738183378 : True := trivial
theorem tw7901817707856633565 : True := trivial
theorem tw8056123863045238478 : True := trivial
theorem tw8102747490495752901 : True := trivial
theorem tw8108606882150645589 : True := trivial
theorem tw8119856442469159604 : True := trivial
theorem tw8253113731986114078 : True := trivial
theorem tw8341032524245164347 : True := trivial
theorem tw8369734155653857667 : True := trivial
theorem tw8395167039102815413 : True := trivial
theorem tw8510142303482383772 : True := trivial
theorem tw8576704363966471817 : True := trivial
theorem tw8613685688840522818 : True := trivial
theorem tw8632076633021299934 : True := trivial
theorem tw864593772356573656 : True := trivial
theorem tw8678591364352215813 : True := trivial
theorem tw8800594601766911777 : True := trivial
theorem tw8862490929568329411 : True := trivial
theorem tw8916859300383447169 : True := trivial
theorem tw8942729395423156151 : True := trivial
theorem tw8955003750807441118 : True := trivial
theorem tw8970148301848450085 : True := trivial
theorem tw9007633472863117091 : True := trivial
theorem tw9021409975280424366 : True := trivial
theorem tw9065296259802698992 : True := trivial
theorem tw9095943398615495029 : True := trivial
theorem tw9106917528231926631 : True := trivial
theorem tw9107990607061699388 : True := trivial
theorem tw9109441615117351952 : True := trivial
theorem tw9140526820648181707 : True := trivial
theorem tw9280132061558968636 : True := trivial
theorem tw9358022855219530684 : True := trivial
theorem tw9430821178170348023 : True := trivial
theorem tw9460540221106360939 : True := trivial
theorem tw9466228349136232729 : True := trivial
theorem tw9483887021571179071 : True := trivial
theorem tw9489619316588344143 : True := trivial
theorem tw9505788890897055097 : True := trivial
theorem tw9595520772065729498 : True := trivial
theorem tw9620879782544337987 : True := trivial
theorem tw9644894496614471299 : True := trivial
theorem tw9697473924401497298 : True := trivial
theorem tw9699816718738904375 : True := trivial
theorem tw9727876821211581337 : True := trivial
theorem tw9754181014489641529 : True := trivial
theorem tw9814727474538847902 : True := trivial
theorem tw9886643643169290114 : True := trivial
theorem tw9909483016441022686 : True := trivial
theorem tw9919424713243655544 : True := trivial
theorem tw9968417478792054973 : True := trivial
theorem tw9978931964581510820 : True := trivial
end PySem.W.Fast
namespace L2
open PySem PySem.Spec PyProof.Rows

noncomputable abbrev Key := Sum Int Str
noncomputable def keyIs : Key → Value → Bool
 | .inl k, v => Value.isInt k v
 | .inr x, v => Value.isStrOf x v
noncomputable def keyH (w : World) : Key → Int
 | .inl k => hashInt k
 | .inr x => hashStr w x
theorem keyIs_shape : ∀ {k : Key} {v : Value}, keyIs k v = true → (∃ i t, k = Sum.inl i ∧ v = Value.int i t) ∨ (∃ x t, k = Sum.inr x ∧ v = Value.str x t)
 | .inl i, v, h => by
  obtain ⟨t, e⟩ := Value.isInt_shape (k := i) (v := v) h
  exact .inl ⟨i, t, rfl, e⟩
 | .inr x, v, h => by
  obtain ⟨t, e⟩ := Value.isStrOf_shape (x := x) (v := v) h
  exact .inr ⟨x, t, rfl, e⟩
theorem keyIs_int (i : Int) (t : Tok) : keyIs (.inl i) (.int i t) = true := by simp [keyIs, Value.isInt]
theorem keyIs_str (x : Str) (t : Tok) : keyIs (.inr x) (.str x t) = true := by simp [keyIs, Value.isStrOf]
theorem key_ll (a b : Int) : decide ((Sum.inl a : Key) = Sum.inl b) = (a == b) := by
 by_cases e : a = b
 ·subst e; simp
 ·have h : ¬ (Sum.inl a : Key) = Sum.inl b := fun q => e (Sum.inl.inj q)
  rw [decide_eq_false h]
  exact (beq_eq_false_iff_ne.mpr e).symm
theorem key_rr (a b : Str) : decide ((Sum.inr a : Key) = Sum.inr b) = decide (a = b) := by
 by_cases e : a = b
 ·subst e; simp
 ·have h : ¬ (Sum.inr a : Key) = Sum.inr b := fun q => e (Sum.inr.inj q)
  rw [decide_eq_false h, decide_eq_false e]
theorem key_lr (a : Int) (b : Str) : decide ((Sum.inl a : Key) = Sum.inr b) = false := decide_eq_false (fun q => nomatch q)
theorem key_rl (a : Str) (b : Int) : decide ((Sum.inr a : Key) = Sum.inl b) = false := decide_eq_false (fun q => nomatch q)

noncomputable def mixKind (prog : Program) (w : World) : PySem.KeyKind prog w Key where
 is := keyIs
 hash := keyH w
 inj := fun v a b ha hb => by
  rcases keyIs_shape ha with ⟨i, t, rfl, rfl⟩ | ⟨x, t, rfl, rfl⟩
  ·rcases keyIs_shape hb with ⟨j, u, rfl, e⟩ | ⟨y, u, rfl, e⟩
   ·injection e with e1 _; rw [e1]
   ·exact nomatch e
  ·rcases keyIs_shape hb with ⟨j, u, rfl, e⟩ | ⟨y, u, rfl, e⟩
   ·exact nomatch e
   ·injection e with e1 _; rw [e1]
 byValue := fun k v h => by
  rcases keyIs_shape h with ⟨i, t, rfl, rfl⟩ | ⟨x, t, rfl, rfl⟩ <;> rfl
 pyHash := fun hv h => by
  rcases keyIs_shape hv with ⟨i, t, rfl, rfl⟩ | ⟨x, t, rfl, rfl⟩
  ·exact wpAny_pyHash_int h
  ·exact wpAny_pyHash_str h
 eqBool := fun hu hv h => by
  rcases keyIs_shape hu with ⟨i, t, rfl, rfl⟩ | ⟨x, t, rfl, rfl⟩
  ·rcases keyIs_shape hv with ⟨j, u, rfl, rfl⟩ | ⟨y, u, rfl, rfl⟩
   ·rw [key_ll] at h; exact wpAny_eqBool_int h
   ·rw [key_lr] at h; exact SeqAt.EqAt.int_str i t y u _ _ _ _ h
  ·rcases keyIs_shape hv with ⟨j, u, rfl, rfl⟩ | ⟨y, u, rfl, rfl⟩
   ·rw [key_rl] at h; exact SeqAt.EqAt.str_int x t j u _ _ _ _ h
   ·rw [key_rr] at h; exact wpAny_eqBool_str h
 «strs» := fun k x t v h => by
  rcases keyIs_shape h with ⟨i, u, rfl, e⟩ | ⟨y, u, rfl, e⟩
  ·exact nomatch e
  ·injection e with e1 _
   subst e1
   cases v <;> rfl

theorem mixKind_int (prog : Program) (w : World) (i : Int) (t : Tok) : (mixKind prog w).is (.inl i) (.int i t) = true := keyIs_int i t
theorem mixKind_str (prog : Program) (w : World) (x : Str) (t : Tok) : (mixKind prog w).is (.inr x) (.str x t) = true := keyIs_str x t
end L2

namespace L2
open PySem PySem.Spec PyProof.Rows

inductive V where
 | non | bl (b : Bool) | int (i : Int) | str (x : Str) | byt (b : Array UInt8) | flt (b : UInt64) | ref (a : Addr) | ty (n : String)
 deriving DecidableEq

noncomputable def RelV : V → Value → Prop
 | .non, u => u = Value.none
 | .bl b, u => u = Value.bool b
 | .int i, u => ∃ t, u = Value.int i t
 | .str x, u => ∃ t, u = Value.str x t
 | .byt b, u => ∃ t, u = Value.bytes b t
 | .flt b, u => ∃ t, u = Value.float b t
 | .ref a, u => u = Value.ref a
 | .ty n, u => u = Value.type n

noncomputable abbrev Vals : List V → List Value → Prop := Paired RelV
theorem Vals.length {xs : List V} {us : List Value} (r : Vals xs us) : xs.length = us.length := Paired.length r
theorem Vals.get : ∀ {xs : List V} {us : List Value} {i : Nat} {x : V}, Vals xs us → xs[i]? = some x → ∃ u, us[i]? = some u ∧ RelV x u
 | _, _, _, _, .nil, e => by simp at e
 | _, _, 0, _, .cons r _, e => by simp at e; subst e; exact ⟨_, rfl, r⟩
 | _, _, i + 1, x, .cons _ t, e => by
  obtain ⟨u, h1, h2⟩ := Vals.get (i := i) (x := x) t (by simpa using e)
  exact ⟨u, by simpa using h1, h2⟩
theorem Vals.set {x : V} {u : Value} (r : RelV x u) : ∀ {xs : List V} {us : List Value} (i : Nat), Vals xs us → Vals (xs.set i x) (us.set i u)
 | _, _, _, .nil => .nil
 | _, _, 0, .cons _ t => .cons r t
 | _, _, i + 1, .cons q t => .cons q (Vals.set r i t)
theorem Vals.append : ∀ {xs ys : List V} {us ws : List Value}, Vals xs us → Vals ys ws → Vals (xs ++ ys) (us ++ ws)
 | _, _, _, _, .nil, s => s
 | _, _, _, _, .cons r t, s => .cons r (Vals.append t s)
theorem Vals.take : ∀ {xs : List V} {us : List Value} (n : Nat), Vals xs us → Vals (xs.take n) (us.take n)
 | _, _, 0, _ => .nil
 | _, _, _ + 1, .nil => .nil
 | _, _, n + 1, .cons r t => .cons r (Vals.take n t)
theorem Vals.drop : ∀ {xs : List V} {us : List Value} (n : Nat), Vals xs us → Vals (xs.drop n) (us.drop n)
 | _, _, 0, r => r
 | _, _, _ + 1, .nil => .nil
 | _, _, n + 1, .cons _ t => Vals.drop n t

noncomputable def RelO : Option V → Option Value → Prop
 | some v, some u => RelV v u
 | none, none => True
 | _, _ => False
noncomputable def KV {κ : Type} : List (κ × V) → List (κ × Value) → Prop := Paired fun (p : κ × V) (q : κ × Value) => p.1 = q.1 ∧ RelV p.2 q.2

noncomputable def kV : Key → V
 | .inl i => .int i
 | .inr x => .str x

inductive NK where
 | int (i : Int) | str (x : Str) | tup (l : List NK)
noncomputable instance : DecidableEq NK := fun a b => Classical.propDecidable (a = b)
mutual
noncomputable def nhash (w : World) : NK → Int
 | .int i => keyH w (.inl i)
 | .str x => keyH w (.inr x)
 | .tup l => reduceHash (Builtin.Tuple.tupleHashOf (nhashL w l))
noncomputable def nhashL (w : World) : List NK → List Int
 | [] => []
 | k :: r => nhash w k :: nhashL w r
end
mutual
noncomputable def ndep : NK → Nat
 | .int _ => 0
 | .str _ => 0
 | .tup l => ndepL l + 1
noncomputable def ndepL : List NK → Nat
 | [] => 0
 | k :: r => max (ndep k) (ndepL r)
end
noncomputable def entryN (w : World) (x : NK × Addr × Value) : DictEntry := { hash := nhash w x.1, key := .ref x.2.1, val := x.2.2 }
inductive HO where
 /-- a list -/
 | lst (xs : List V)
 /-- a tuple (never changes) -/
 | tup (xs : List V)
 /-- a dict whose keys are ints and texts; one whose keys are tuples of ints and texts (the empty one is both) -/
 | dK (kvs : List (Key × V)) | dT (kvs : List (List Key × V))
 /-- a dict whose keys are tuples of any depth: key, where it stands, value -/
 | dN (ks : List (NK × Addr × V))
 /-- a set of ints: its members, its size -/
 | set (S : Int → Bool) (n : Nat)
 /-- an instance of the class at C, its dict at dx, its attributes -/
 | ins (C dx : Addr) (fs : List (Str × V))
 /-- the dict of the instance at x -/
 | own (x : Addr)
 /-- the dict of an exception -/
 | xd (fs : List (Str × V))
 /-- a bound method, f of x -/
 | met (f x : Addr)
 /-- a range object lo, lo + 1, .. below hi -/
 | rng (lo hi : Int)
 /-- a thing that is known to the object (the script; a dict while a loop walks it): read, never written while it is so -/
 | frz (o : Obj) (u : HO)
 /-- a code object's table -/
 | tbl (ps : Array Value)
 /-- any other thing, by what is true of its one object (a def of one's own: SetO a S n := HO.ext fun h => ..) -/
 | ext (φ : Heap → Prop)

noncomputable abbrev Hp := Addr → Option HO
noncomputable def upd (H : Hp) (a : Addr) (o : HO) : Hp := fun b => if b = a then some o else H b
theorem upd_same {H : Hp} {a : Addr} {o : HO} : upd H a o a = some o := by unfold upd; rw [if_pos rfl]
theorem upd_ne {H : Hp} {a b : Addr} {o : HO} (h : b ≠ a) : upd H a o b = H b := by unfold upd; rw [if_neg h]
theorem ne_of {H : Hp} {a b : Addr} {o u : HO} (h : H a = some o) (h' : H b = some u) (d : o ≠ u) : a ≠ b := by
 intro e; subst e; rw [h] at h'; exact d (Option.some.inj h')
theorem ne_of_none {H : Hp} {a b : Addr} {o : HO} (h : H a = some o) (h' : H b = none) : a ≠ b := by
 intro e; subst e; rw [h] at h'; cases h'

section
variable (P : Program) (w : World)
noncomputable def ObjOk (H : Hp) (h : Heap) (a : Addr) : HO → Prop
 | .lst xs => xs.length ≤ sizeLine ∧ ∃ (its : List Value) (n : Nat), Vals xs its ∧ h.get? a = some { cls := .type "list", data := .seq its.toArray n }
 | .tup xs => xs.length ≤ sizeLine ∧ ∃ its : List Value, Vals xs its ∧ IsTup h a its.toArray
 | .dK kvs => kvs.length ≤ sizeLine ∧ (a == sysModules) = false ∧ ∃ vs, KV kvs vs ∧ h.DictOf (mixKind P w) a vs
 | .dT kvs => kvs.length ≤ sizeLine ∧ (a == sysModules) = false ∧ ∃ xs : List (List Key × Addr × Value),
   Paired (fun (p : List Key × V) (q : List Key × Addr × Value) => p.1 = q.1 ∧ H q.2.1 = some (.tup (p.1.map kV)) ∧ RelV p.2 q.2.2) kvs xs ∧
   ∃ o es ep, h.get? a = some o ∧ o.ExactDict ∧ o.data = .dict es ep ∧ es.toList = xs.map (entryOfKey (tupleKind (mixKind P w))) ∧ (xs.map (·.1)).Nodup
 | .dN ks => ks.length ≤ sizeLine ∧ (a == sysModules) = false ∧ ∃ xs : List (NK × Addr × Value), Paired (fun (p : NK × Addr × V) (q : NK × Addr × Value) => p.1 = q.1 ∧ p.2.1 = q.2.1 ∧ RelV p.2.2 q.2.2) ks xs ∧
   ∃ o es ep, h.get? a = some o ∧ o.ExactDict ∧ o.data = .dict es ep ∧ es.toList = xs.map (entryN w) ∧ (xs.map (·.1)).Nodup
 | .set S n => h.SetOf (intKind P w) a S n
 | .ins C dx fs => H dx = some (.own a) ∧ fs.length ≤ 1000 ∧ dx ≠ a ∧ h.get? a = some (PySem.W.instObj C dx) ∧
   ∃ mA, h.Ns1 dx mA ∧ (∀ f, RelO (fs.lookup f) (mA f)) ∧ PySem.Within mA (fs.map (·.1))
 | .own _ => ∃ o, h.get? a = some o
 | .xd fs => ∃ mA, h.Ns1 a mA ∧ ∀ f, RelO (fs.lookup f) (mA f)
 | .rng lo hi => ∃ t u v, h.get? a = some { cls := .type "range", data := .fields #[.int lo t, .int hi u, .int 1 v] }
 | .frz o u => h.get? a = some o ∧ ObjOk H h a u
 | .tbl ps => h.get? a = some { cls := .none, data := .fields ps }
 | .met f x => h.get? a = some (PySem.W.methodObj (.ref f) (.ref x))
 | .ext φ => φ h ∧ (∃ o, h.get? a = some o) ∧ ∀ h1 h2 : Heap, φ h1 → (∀ o, h1.get? a = some o → h2.get? a = some o) → φ h2
noncomputable def HOk (H : Hp) (h : Heap) : Prop := ∀ a o, H a = some o → ObjOk P w H h a o
end

section
variable {P : Program} {w : World} {H H' : Hp} {h h' : Heap} {a : Addr} {o : HO}
theorem ObjOk.lt (x : ObjOk P w H h a o) : a < h.objs.size := by
 cases o with
 | lst xs => obtain ⟨_, _, _, _, e⟩ := x; exact Heap.lt_size e
 | tup xs => obtain ⟨_, _, _, p⟩ := x; exact p.lt
 | dK kvs => obtain ⟨_, _, _, _, o, _, _, e, _⟩ := x; exact Heap.lt_size e
 | dT kvs => obtain ⟨_, _, _, _, o, _, _, e, _⟩ := x; exact Heap.lt_size e
 | dN ks => obtain ⟨_, _, _, _, o, _, _, e, _⟩ := x; exact Heap.lt_size e
 | set S n => obtain ⟨o, _, _, _, e, _⟩ := x; exact Heap.lt_size e
 | ins C dx fs => obtain ⟨_, _, _, e, _⟩ := x; exact Heap.lt_size e
 | own y => obtain ⟨_, e⟩ := x; exact Heap.lt_size e
 | xd fs => obtain ⟨_, ⟨_, _, _, e, _⟩, _⟩ := x; exact Heap.lt_size e
 | rng lo hi => obtain ⟨_, _, _, e⟩ := x; exact Heap.lt_size e
 | frz ob u => obtain ⟨e, _⟩ := x; exact Heap.lt_size e
 | tbl ps => exact Heap.lt_size (show h.get? a = some _ from x)
 | met f y => exact Heap.lt_size (show h.get? a = some _ from x)
 | ext φ => obtain ⟨_, ⟨_, e⟩, _⟩ := x; exact Heap.lt_size e
theorem Paired.mapP {α β : Type} {F G : α → β → Prop} : ∀ {l₁ : List α} {l₂ : List β}, Paired F l₁ l₂ → (∀ a b, F a b → G a b) → Paired G l₁ l₂
 | _, _, .nil, _ => .nil
 | _, _, .cons r t, f => .cons (f _ _ r) (Paired.mapP t f)
theorem ObjOk.stay (x : ObjOk P w H h a o) (k : ∀ b u, (b = a ∨ H b = some (.own a)) → h.get? b = some u → h'.get? b = some u)
  (ho : ∀ b, H b = some (.own a) → H' b = some (.own a)) (ht : ∀ b xs, H b = some (.tup xs) → H' b = some (.tup xs)) : ObjOk P w H' h' a o := by
 induction o with
 | lst xs => obtain ⟨z, its, n, r, e⟩ := x; exact ⟨z, its, n, r, k _ _ (.inl rfl) e⟩
 | tup xs => obtain ⟨z, its, r, ob, e, c⟩ := x; exact ⟨z, its, r, ob, k _ _ (.inl rfl) e, c⟩
 | dK kvs => obtain ⟨z, y, vs, r, ob, es, ep, e, c⟩ := x; exact ⟨z, y, vs, r, ob, es, ep, k _ _ (.inl rfl) e, c⟩
 | dT kvs =>
  obtain ⟨z, y, xs, r, ob, es, ep, e, c⟩ := x
  exact ⟨z, y, xs, Paired.mapP r fun p q z => ⟨z.1, ht _ _ z.2.1, z.2.2⟩, ob, es, ep, k _ _ (.inl rfl) e, c⟩
 | dN ks => obtain ⟨z, y, xs, r, ob, es, ep, e, c⟩ := x; exact ⟨z, y, xs, r, ob, es, ep, k _ _ (.inl rfl) e, c⟩
 | set S n => obtain ⟨ob, es, ep, t, e, c⟩ := x; exact ⟨ob, es, ep, t, k _ _ (.inl rfl) e, c⟩
 | ins C dx fs =>
  obtain ⟨d, z, ne, e, mA, ⟨od, es, ep, e2, c⟩, r⟩ := x
  exact ⟨ho _ d, z, ne, k _ _ (.inl rfl) e, mA, ⟨od, es, ep, k _ _ (.inr d) e2, c⟩, r⟩
 | own y => obtain ⟨ob, e⟩ := x; exact ⟨ob, k _ _ (.inl rfl) e⟩
 | xd fs => obtain ⟨mA, ⟨od, es, ep, e, c⟩, r⟩ := x; exact ⟨mA, ⟨od, es, ep, k _ _ (.inl rfl) e, c⟩, r⟩
 | rng lo hi => obtain ⟨t, u, v, e⟩ := x; exact ⟨t, u, v, k _ _ (.inl rfl) e⟩
 | frz ob u ih => obtain ⟨e, q⟩ := x; exact ⟨k _ _ (.inl rfl) e, ih q⟩
 | tbl ps =>
  have e : h.get? a = some { cls := .none, data := .fields ps } := x
  show h'.get? a = some { cls := .none, data := .fields ps }
  exact k a _ (.inl rfl) e
 | met f y =>
  have e : h.get? a = some (PySem.W.methodObj (.ref f) (.ref y)) := x
  show h'.get? a = some (PySem.W.methodObj (.ref f) (.ref y))
  exact k a _ (.inl rfl) e
 | ext φ => obtain ⟨p, ⟨o, e⟩, st⟩ := x; exact ⟨st _ _ p fun o q => k _ _ (.inl rfl) q, ⟨o, k _ _ (.inl rfl) e⟩, st⟩
theorem HOk.lt (x : HOk P w H h) (e : H a = some o) : a < h.objs.size := (x a o e).lt
theorem HOk.fresh (x : HOk P w H h) (e : h.objs.size ≤ a) : H a = none := by
 cases q : H a with
 | none => rfl
 | some u => exact absurd (Nat.lt_of_lt_of_le (x.lt q) e) (Nat.lt_irrefl _)
theorem HOk.kept (x : HOk P w H h) (k : ∀ b u, h.get? b = some u → h'.get? b = some u) : HOk P w H h' := fun a o e =>
 (x a o e).stay (fun b u _ q => k b u q) (fun _ q => q) fun _ _ q => q
theorem HOk.laid (x : HOk P w H h) (k : ∀ b u, h.get? b = some u → h'.get? b = some u) (hp : h.objs.size ≤ a) (new : ObjOk P w (upd H a o) h' a o) : HOk P w (upd H a o) h' := fun b u e => by
 have hn := x.fresh hp
 by_cases hb : b = a
 ·subst hb; rw [upd_same] at e; cases e; exact new
 ·rw [upd_ne hb] at e
  exact (x b u e).stay (fun c v _ q => k c v q) (fun c q => by rw [upd_ne (ne_of_none q hn)]; exact q) fun c xs q => by rw [upd_ne (ne_of_none q hn)]; exact q
end

noncomputable def Rd (H : Hp) (a : Addr) (u : HO) : Prop := H a = some u ∨ ∃ o, H a = some (.frz o u)
theorem Rd.ok {P : Program} {w : World} {H : Hp} {h : Heap} {a : Addr} {u : HO} (r : Rd H a u) (x : HOk P w H h) : ObjOk P w H h a u := by
 rcases r with r | ⟨o, r⟩
 ·exact x a u r
 ·obtain ⟨_, q⟩ := x a _ r
  exact q
noncomputable def Mut : Option HO → Prop
 | some (.lst _) => True
 | some (.dK _) => True
 | some (.dT _) => True
 | some (.dN _) => True
 | some (.set _ _) => True
 | some (.ins _ _ _) => True
 | some (.ext _) => True
 | _ => False
section
variable {P : Program} {w : World} {H : Hp} {h h' : Heap} {x e : Addr} {o' : HO}
theorem HOk.write (ok : HOk P w H h) (mu : Mut (H x)) (he : e = x ∨ H e = some (.own x)) (k : ∀ b u, b ≠ e → h.get? b = some u → h'.get? b = some u) (heo : ∃ u, h'.get? e = some u)
  (new : ObjOk P w (upd H x o') h' x o') : HOk P w (upd H x o') h' := fun b u q => by
 have nown : ∀ c y, H c = some (.own y) → c ≠ x := fun c y r z => by subst z; rw [r] at mu; exact mu
 have ntup : ∀ c xs, H c = some (.tup xs) → c ≠ x := fun c xs r z => by subst z; rw [r] at mu; exact mu
 by_cases hb : b = x
 ·subst hb; rw [upd_same] at q; cases q; exact new
 ·rw [upd_ne hb] at q
  by_cases hbe : b = e
  ·have q' : H b = some (.own x) := by
    rcases he with z | z
    ·exact absurd (hbe.trans z) hb
    ·rw [hbe]; exact z
   rw [q] at q'; cases q'
   obtain ⟨v, hv⟩ := heo
   exact ⟨v, by rw [hbe]; exact hv⟩
  ·refine (ok b u q).stay (fun c v hc r => k c v ?_ r) (fun c r => by rw [upd_ne (nown c b r)]; exact r) fun c xs r => by rw [upd_ne (ntup c xs r)]; exact r
   rcases hc with rfl | hc
   ·exact hbe
   ·rintro rfl
    rcases he with z | z
    ·exact nown c b hc z
    ·rw [hc] at z; cases z; exact hb rfl
end

structure Un (fs ex : List Addr) (H H' : Hp) (h h' : Heap) : Prop where
 keep : ∀ b o, h.get? b = some o → H b = none → b ∉ fs → b ∉ ex → h'.get? b = some o
 slot : ∀ b o, h.get? b = some o → H b = none → b ∈ fs → b ∉ ex → ∃ sl, h'.get? b = some { o with slots := sl }
 free : ∀ b o, h.get? b = some o → H b = none → b ∉ ex → H' b = none
 there : ∀ b o, h.get? b = some o → b ∉ ex → ∃ o', h'.get? b = some o'
 tups : ∀ b xs, H b = some (.tup xs) → H' b = some (.tup xs)
 frzs : ∀ b o u, H b = some (.frz o u) → H' b = some (.frz o u)
 tbls : ∀ b ps, H b = some (.tbl ps) → ∃ more, H' b = some (.tbl (ps ++ more))
section
variable {fs fs' ex ex' : List Addr} {H H1 H2 : Hp} {h h1 h2 h' : Heap} {a x e : Addr} {o : HO}
theorem Un.any (u : Un fs ex H H1 h h1) {b : Addr} {ob : Obj} (q : h.get? b = some ob) (n : H b = none) (hx : b ∉ ex) : ∃ sl, h1.get? b = some { ob with slots := sl } := by
 by_cases hb : b ∈ fs
 ·exact u.slot b ob q n hb hx
 ·exact ⟨ob.slots, u.keep b ob q n hb hx⟩
theorem Un.trans (a : Un fs ex H H1 h h1) (b : Un fs ex H1 H2 h1 h2) : Un fs ex H H2 h h2 where
 keep := fun c ob q n hc hx => b.keep c ob (a.keep c ob q n hc hx) (a.free c ob q n hx) hc hx
 slot := fun c ob q n hc hx => by
  obtain ⟨sl, e1⟩ := a.slot c ob q n hc hx
  obtain ⟨sl', e2⟩ := b.slot c _ e1 (a.free c ob q n hx) hc hx
  exact ⟨sl', e2⟩
 free := fun c ob q n hx => by
  obtain ⟨o', e1⟩ := a.there c ob q hx
  exact b.free c o' e1 (a.free c ob q n hx) hx
 there := fun c ob q hx => by
  obtain ⟨o', e1⟩ := a.there c ob q hx
  exact b.there c o' e1 hx
 tups := fun c xs q => b.tups c xs (a.tups c xs q)
 frzs := fun c ob xs q => b.frzs c ob xs (a.frzs c ob xs q)
 tbls := fun c ps q => by
  obtain ⟨m1, e1⟩ := a.tbls c ps q
  obtain ⟨m2, e2⟩ := b.tbls c _ e1
  exact ⟨m1 ++ m2, by rw [e2, Array.append_assoc]⟩
theorem Un.kept (k : ∀ b u, h.get? b = some u → h'.get? b = some u) : Un fs ex H H h h' :=
 ⟨fun b ob q _ _ _ => k b ob q, fun b ob q _ _ _ => ⟨ob.slots, k b ob q⟩, fun _ _ _ n _ => n, fun b ob q _ => ⟨ob, k b ob q⟩, fun _ _ q => q, fun _ _ _ q => q, fun _ ps q => ⟨#[], by rw [q]; simp⟩⟩
theorem Un.refl : Un fs ex H H h h := Un.kept fun _ _ q => q
theorem Un.laid (k : ∀ b u, h.get? b = some u → h'.get? b = some u) (hp : h.objs.size ≤ a) (hn : H a = none) : Un fs ex H (upd H a o) h h' where
 keep := fun b u q _ _ _ => k b u q
 slot := fun b u q _ _ _ => ⟨u.slots, k b u q⟩
 free := fun b u q n _ => by rw [upd_ne (Nat.ne_of_lt (Nat.lt_of_lt_of_le (Heap.lt_size q) hp))]; exact n
 there := fun b u q _ => ⟨u, k b u q⟩
 tups := fun b xs q => by rw [upd_ne (ne_of_none q hn)]; exact q
 frzs := fun b u xs q => by rw [upd_ne (ne_of_none q hn)]; exact q
 tbls := fun b ps q => ⟨#[], by rw [upd_ne (ne_of_none q hn), q]; simp⟩
theorem Un.write (mu : Mut (H x)) (he : e = x ∨ H e = some (.own x)) (k : ∀ b u, b ≠ e → h.get? b = some u → h'.get? b = some u) (heo : ∃ u, h'.get? e = some u) : Un fs ex H (upd H x o) h h' := by
 have hx : ∀ b, H b = none → b ≠ x := fun b n z => by subst z; rw [n] at mu; exact mu
 have hb : ∀ b, H b = none → b ≠ e := fun b n z => by
  subst z
  rcases he with r | r
  ·exact hx b n r
  ·rw [n] at r; cases r
 have hm : ∀ b u, H b = some u → ¬ Mut (some u) → b ≠ x := fun b u q nm z => by subst z; rw [q] at mu; exact nm mu
 refine ⟨fun b u q n _ _ => k b u (hb b n) q, fun b u q n _ _ => ⟨u.slots, k b u (hb b n) q⟩, fun b u q n _ => by rw [upd_ne (hx b n)]; exact n, fun b u q _ => ?_,
  fun b xs q => by rw [upd_ne (hm b _ q fun z => z)]; exact q, fun b u xs q => by rw [upd_ne (hm b _ q fun z => z)]; exact q, fun b ps q => ⟨#[], by rw [upd_ne (hm b _ q fun z => z), q]; simp⟩⟩
 by_cases hbe : b = e
 ·subst hbe; exact heo
 ·exact ⟨u, k b u hbe q⟩
end

noncomputable def trk (h : Heap) (H : Hp) : List Addr := (List.range h.objs.size).filter fun a => (H a).isSome
noncomputable def hidT (h : Heap) (H : Hp) : Heap := PySem.W.hideAll h (trk h H)
theorem hidT_size (h : Heap) (H : Hp) : (hidT h H).objs.size = h.objs.size := PySem.W.hideAll_size _ _
theorem hidT_get {h : Heap} {H : Hp} {b : Addr} {o : Obj} (e : h.get? b = some o) (n : H b = none) : (hidT h H).get? b = some o :=
 PySem.W.hideAll_get _ e fun hm => by
  have q : (H b).isSome = true := (List.mem_filter.mp hm).2
  rw [n] at q; simp at q
theorem of_hidT {h : Heap} {H : Hp} {b : Addr} {o : Obj} (e : (hidT h H).get? b = some o) : h.get? b = some o ∧ H b = none := by
 have e' : h.get? b = some o := PySem.W.of_hideAll (trk h H) e
 refine ⟨e', ?_⟩
 cases q : H b with
 | none => rfl
 | some x =>
  have hm : b ∈ trk h H := List.mem_filter.mpr ⟨List.mem_range.mpr (Heap.lt_size e'), by simp [q]⟩
  have z : (hidT h H).get? b = none := PySem.W.hideAll_none (trk h H) hm
  rw [z] at e; cases e

end L2

namespace L2
open PySem PySem.Spec PyProof.Rows

structure Mod (K : PySem.W.Frag) (mg : Str → Option Value) (base : Heap) : Prop where
 kin : K.In base
 glob : base.Ns mainGlobals mg
 blt : ∃ mb, base.Ns builtinsNs mb ∧ ∀ x : Str, x ≠ "__name__" → mb x = bootBuiltins x
 nolimit : base.NoLimit

/-- the context: a def's body (or a comprehension's block) running. base: fixed through the whole law; s₀, H₀: the entry; outer: the frames whose slots others may change (a def's callers); stack: all frames that run;
   ex: iterators that were made ahead of the entry and are walked here (a comprehension's); fn: the names whose cells were made at the entry (a def: all; a comprehension's block: its own); calm: not within an except suite; pn: pins that every state bears; xe: what is wanted of an exception that leaves the code -/
structure Cx where
 prog : Program
 w : World
 K : PySem.W.Frag
 mg : Str → Option Value
 base : Heap
 A : Around
 N : List Str
 s₀ : Shared
 H₀ : Hp
 env : Env
 outer : List Env
 stack : List Env
 ex : List Addr
 fn : Str → Bool
 calm : Bool
 pn : List (Addr × Obj)
 xe : Value → Shared → Prop
noncomputable def frs (l : List Env) : List Addr := l.filterMap (·.frame)
noncomputable abbrev Cx.fs (X : Cx) : List Addr := frs X.outer

noncomputable def Vis (sc : Scope) (x : Str) : Prop := sc.names.lookup x = some .local ∨ sc.names.lookup x = some .cell ∨ sc.names.lookup x = some .free
noncomputable def Loc (sc : Scope) (x : Str) : Prop := sc.names.lookup x = some .local ∨ sc.names.lookup x = some .cell
noncomputable def Look (env : Env) (h : Heap) (m : Str → Option Value) (x : Str) (u : Value) : Prop :=
 (env.kindOf x = some .local ∧ m x = some u) ∨ ((env.kindOf x = some .cell ∨ env.kindOf x = some .free) ∧ ∃ c, env.cells.lookup x = some c ∧ h.IsCell c (some u))

structure Cx.Ok (X : Cx) : Prop where
 mod : Mod X.K X.mg X.base
 kind : X.env.scope.kind = .function
 glob : X.env.globals = mainGlobals
 blt : X.env.builtins = builtinsNs
 above : X.s₀.heap.objs.size ≤ X.env.locals
 inj : ∀ x y c, X.env.cells.lookup x = some c → X.env.cells.lookup y = some c → x = y
 has : ∀ x, (X.env.kindOf x = some .cell ∨ X.env.kindOf x = some .free) → ∃ c, X.env.cells.lookup x = some c
 cab : ∀ x c, X.fn x = true → X.env.cells.lookup x = some c → X.s₀.heap.objs.size ≤ c
 hd : X.calm = true → X.A.handled = none
 frames : X.A.frames = some X.stack
 stk : X.stack = X.outer ∨ (X.stack = X.env :: X.outer ∧ X.env.frame = some X.env.locals)
 exf : ∀ b ∈ X.ex, b ≠ X.env.locals ∧ ∀ x c, X.env.cells.lookup x = some c → c ≠ b
 bs : ∀ b o, X.base.get? b = some o → X.s₀.heap.get? b = some o ∧ X.H₀ b = none
 bsz : X.base.objs.size ≤ X.s₀.heap.objs.size
 noex : ∀ b o, X.base.get? b = some o → b ∉ X.ex
 exfs : ∀ b ∈ X.ex, b ∉ X.fs
 funs : X.s₀.heap.FunFrames X.base X.outer
 frf : ∀ b ∈ X.fs, X.H₀ b = none

structure Inv (X : Cx) (pins : List (Addr × Obj)) (σ : List (Option V)) (H : Hp) (s : Shared) : Prop where
 ok : X.Ok
 os : s.os = X.s₀.os
 bare : AllBare s.gens
 base : Un X.fs X.ex X.H₀ H X.s₀.heap s.heap
 loc : ∃ m, s.heap.Ns X.env.locals m ∧ ∀ (i : Nat) (x : Str) (v : V), X.N[i]? = some x → σ[i]? = some (some v) → Vis X.env.scope x → ∃ u, RelV v u ∧ Look X.env s.heap m x u
 cell : ∀ x c, X.env.cells.lookup x = some c → ∃ v, s.heap.IsCell c v
 free : H X.env.locals = none
 freeC : ∀ x c, X.env.cells.lookup x = some c → H c = none
 pin : ∀ p ∈ X.pn ++ pins, s.heap.get? p.1 = some p.2 ∧ H p.1 = none ∧ p.1 ≠ X.env.locals ∧ p.1 ∉ X.fs ∧ ∀ v, p.2.data ≠ .cell v
 hok : HOk X.prog X.w H s.heap
 len : σ.length = X.N.length

section
variable {X : Cx} {pins : List (Addr × Obj)} {σ : List (Option V)} {H H' : Hp} {s : Shared} {h' : Heap}

theorem Cx.Ok.nofr (ok : X.Ok) {b : Addr} {o : Obj} (e : X.base.get? b = some o) : b ∉ X.fs := fun hb => by
 have := (ok.funs.mem hb).1
 rw [e] at this; cases this
theorem Inv.bs (I : Inv X pins σ H s) : ∀ b o, X.base.get? b = some o → s.heap.get? b = some o ∧ H b = none := fun b o e =>
 ⟨I.base.keep b o (I.ok.bs b o e).1 (I.ok.bs b o e).2 (I.ok.nofr e) (I.ok.noex b o e), I.base.free b o (I.ok.bs b o e).1 (I.ok.bs b o e).2 (I.ok.noex b o e)⟩
theorem Inv.bk (I : Inv X pins σ H s) : ∀ b o, X.base.get? b = some o → s.heap.get? b = some o := fun b o e => (I.bs b o e).1
theorem Inv.mod (I : Inv X pins σ H s) : Mod X.K X.mg X.base := I.ok.mod
theorem Inv.kIn (I : Inv X pins σ H s) : X.K.In s.heap := I.ok.mod.kin.keeps I.bk
theorem Inv.lt (I : Inv X pins σ H s) : X.env.locals < s.heap.objs.size := let ⟨_, hn, _⟩ := I.loc; hn.lt
theorem Inv.sz (I : Inv X pins σ H s) : X.s₀.heap.objs.size ≤ s.heap.objs.size := Nat.le_trans I.ok.above (Nat.le_of_lt I.lt)
theorem Inv.nofs (I : Inv X pins σ H s) {a : Addr} (h : s.heap.objs.size ≤ a) : a ∉ X.fs := fun hb => by
 obtain ⟨_, o, ho, _⟩ := I.ok.funs.mem hb
 exact absurd (Nat.lt_of_lt_of_le (Heap.lt_size ho) (Nat.le_trans I.sz h)) (Nat.lt_irrefl _)
theorem Inv.cne (I : Inv X pins σ H s) : ∀ x c, X.env.cells.lookup x = some c → c ≠ X.env.locals := fun x c e z => by
 obtain ⟨v, o, ho, hd⟩ := I.cell x c e
 obtain ⟨m, ⟨o', es, ep, ho', hd', _⟩, _⟩ := I.loc
 rw [z, ho'] at ho; cases ho; rw [hd'] at hd; cases hd
theorem Inv.funs (I : Inv X pins σ H s) : s.heap.FunFrames X.base X.outer := by
 have all : ∀ (l : List Env), (∀ b ∈ frs l, b ∈ X.fs) → X.s₀.heap.FunFrames X.base l → s.heap.FunFrames X.base l := by
  intro l
  induction l with
  | nil => intro _ _; trivial
  | cons env r ih =>
   intro hs hl
   obtain ⟨hk, ⟨L, o, hf, hn, ho, hd⟩, hr⟩ := hl
   have hL : L ∈ X.fs := hs L (by unfold frs; rw [List.filterMap_cons, hf]; exact List.mem_cons_self)
   obtain ⟨sl, e⟩ := I.base.slot L o ho (I.ok.frf L hL) hL fun z => I.ok.exfs L z hL
   exact ⟨hk, ⟨L, _, hf, hn, e, hd⟩, ih (fun b hb => hs b (by unfold frs; rw [List.filterMap_cons, hf]; exact List.mem_cons_of_mem _ hb)) hr⟩
 exact all X.outer (fun _ hb => hb) I.ok.funs

theorem Inv.stack (I : Inv X pins σ H s) : s.heap.FunFrames X.base X.stack := by
 rcases I.ok.stk with e | ⟨e, hf⟩
 ·rw [e]; exact I.funs
 ·rw [e]
  obtain ⟨m, hn, _⟩ := I.loc
  refine .cons (by rw [I.ok.kind]; decide) hf hn ?_ I.funs
  exact Heap.get?_none_of_le (Nat.le_trans I.ok.bsz I.ok.above)
theorem Inv.stkSub (I : Inv X pins σ H s) : ∀ b ∈ frs X.stack, b ∈ X.env.locals :: X.fs := fun b hb => by
 rcases I.ok.stk with e | ⟨e, hf⟩
 ·rw [e] at hb; exact List.mem_cons_of_mem _ hb
 ·rw [e] at hb
  unfold frs at hb
  rw [List.filterMap_cons, hf] at hb
  exact hb
theorem Inv.stkFree (I : Inv X pins σ H s) : ∀ b ∈ frs X.stack, H b = none := fun b hb => by
 rcases List.mem_cons.mp (I.stkSub b hb) with e | hb
 ·rw [e]; exact I.free
 ·obtain ⟨_, o, ho, _⟩ := I.ok.funs.mem hb
  exact I.base.free b o ho (I.ok.frf b hb) fun z => I.ok.exfs b z hb

theorem Inv.step {g' : Array GenState} {t' : Nat} {d' : Drawn} {ch : List Addr} (I : Inv X pins σ H s)
  (hch : ∀ b ∈ ch, (b ∈ X.ex ∨ X.s₀.heap.objs.size ≤ b) ∧ b ≠ X.env.locals ∧ (∀ x c, X.env.cells.lookup x = some c → c ≠ b) ∧ ∀ p ∈ X.pn ++ pins, p.1 ≠ b)
  (keep : ∀ b o, b ≠ X.env.locals → b ∉ X.fs → b ∉ ch → s.heap.get? b = some o → H b = none → h'.get? b = some o)
  (slot : ∀ b o, b ≠ X.env.locals → b ∈ X.fs → b ∉ ch → s.heap.get? b = some o → H b = none → ∃ sl, h'.get? b = some { o with slots := sl }) (free : ∀ b o, b ∉ ch → s.heap.get? b = some o → H b = none → H' b = none)
  (there : ∀ b o, b ∉ ch → s.heap.get? b = some o → ∃ o', h'.get? b = some o')
  (tups : ∀ b xs, H b = some (.tup xs) → H' b = some (.tup xs)) (frzs : ∀ b o u, H b = some (.frz o u) → H' b = some (.frz o u)) (tbls : ∀ b ps, H b = some (.tbl ps) → ∃ more, H' b = some (.tbl (ps ++ more)))
  (ns : ∀ m, s.heap.Ns X.env.locals m → h'.Ns X.env.locals m) (hok : HOk X.prog X.w H' h') (hg : AllBare g') :
  Inv X pins σ H' { s with heap := h', gens := g', drawn := d', toks := t' } := by
 have neL : ∀ b o, X.s₀.heap.get? b = some o → b ≠ X.env.locals := fun b o e => Nat.ne_of_lt (Nat.lt_of_lt_of_le (Heap.lt_size e) I.ok.above)
 have neC : ∀ b o, X.s₀.heap.get? b = some o → b ∉ X.ex → b ∉ ch := fun b o e hx hb => by
  rcases (hch b hb).1 with z | z
  ·exact hx z
  ·exact absurd (Nat.lt_of_lt_of_le (Heap.lt_size e) z) (Nat.lt_irrefl _)
 have cellK : ∀ x c, X.env.cells.lookup x = some c → ∀ v, s.heap.IsCell c v → h'.IsCell c v := fun x c e v ⟨o, ho, hd⟩ => by
  have nch : c ∉ ch := fun z => (hch c z).2.2.1 x c e rfl
  by_cases hc : c ∈ X.fs
  ·obtain ⟨sl, q⟩ := slot c o (I.cne x c e) hc nch ho (I.freeC x c e)
   exact ⟨_, q, hd⟩
  ·exact ⟨o, keep c o (I.cne x c e) hc nch ho (I.freeC x c e), hd⟩
 refine ⟨I.ok, I.os, hg, ⟨fun b o e n hb hx => ?_, fun b o e n hb hx => ?_, fun b o e n hx => ?_, fun b o e hx => ?_, fun b xs e => tups b xs (I.base.tups b xs e), fun b o xs e => frzs b o xs (I.base.frzs b o xs e), fun b ps e => ?_⟩, ?_, fun x c e => ?_, ?_, fun x c e => ?_, fun p hp => ?_, hok, I.len⟩
 ·exact keep b o (neL b o e) hb (neC b o e hx) (I.base.keep b o e n hb hx) (I.base.free b o e n hx)
 ·obtain ⟨sl, e1⟩ := I.base.slot b o e n hb hx
  obtain ⟨sl', e2⟩ := slot b _ (neL b o e) hb (neC b o e hx) e1 (I.base.free b o e n hx)
  exact ⟨sl', e2⟩
 ·obtain ⟨o', e1⟩ := I.base.there b o e hx
  exact free b o' (neC b o e hx) e1 (I.base.free b o e n hx)
 ·obtain ⟨o', e1⟩ := I.base.there b o e hx
  exact there b o' (neC b o e hx) e1
 ·obtain ⟨m1, e1⟩ := I.base.tbls b ps e
  obtain ⟨m2, e2⟩ := tbls b _ e1
  exact ⟨m1 ++ m2, by rw [e2, Array.append_assoc]⟩
 ·obtain ⟨m, hn, hl⟩ := I.loc
  refine ⟨m, ns m hn, fun i x v e1 e2 e3 => ?_⟩
  obtain ⟨u, r, l⟩ := hl i x v e1 e2 e3
  refine ⟨u, r, ?_⟩
  rcases l with l | ⟨k, c, e, z⟩
  ·exact .inl l
  ·exact .inr ⟨k, c, e, cellK x c e _ z⟩
 ·obtain ⟨v, z⟩ := I.cell x c e
  exact ⟨v, cellK x c e v z⟩
 ·obtain ⟨m, ⟨o, _, _, ho, _⟩, _⟩ := I.loc
  exact free _ o (fun z => (hch _ z).2.1 rfl) ho I.free
 ·obtain ⟨v, o, ho, hd⟩ := I.cell x c e
  exact free c o (fun z => (hch c z).2.2.1 x c e rfl) ho (I.freeC x c e)
 ·obtain ⟨e, n, ne, nf, d⟩ := I.pin p hp
  have nch : p.1 ∉ ch := fun z => (hch p.1 z).2.2.2 p hp rfl
  exact ⟨keep p.1 p.2 ne nf nch e n, free p.1 p.2 nch e n, ne, nf, d⟩
theorem Inv.un {t' : Nat} (I : Inv X pins σ H s) (u : Un X.fs [] H H' s.heap h') (hok : HOk X.prog X.w H' h') : Inv X pins σ H' { s with heap := h', toks := t' } := by
 obtain ⟨m, ⟨o, es, ep, ho, r⟩, _⟩ := id I.loc
 obtain ⟨sl, hL⟩ := u.any ho I.free (by simp)
 exact I.step (g' := s.gens) (d' := s.drawn) (ch := []) (fun _ z => nomatch z) (fun b o _ hb _ e n => u.keep b o e n hb (by simp)) (fun b o _ hb _ e n => u.slot b o e n hb (by simp)) (fun b o _ e n => u.free b o e n (by simp)) (fun b o _ e => u.there b o e (by simp)) u.tups u.frzs u.tbls (fun m' hm => by
  obtain ⟨o', es', ep', ho', r'⟩ := hm
  rw [ho] at ho'; cases ho'
  exact ⟨_, es', ep', hL, r'⟩) hok I.bare
theorem Inv.call {g' : Array GenState} {t' : Nat} {d' : Drawn} {ch : List Addr} (I : Inv X pins σ H s) (u : Un (frs X.stack) ch H H' s.heap h') (hok : HOk X.prog X.w H' h') (hg : AllBare g')
  (hch : ∀ b ∈ ch, (b ∈ X.ex ∨ X.s₀.heap.objs.size ≤ b) ∧ b ≠ X.env.locals ∧ (∀ x c, X.env.cells.lookup x = some c → c ≠ b) ∧ ∀ p ∈ X.pn ++ pins, p.1 ≠ b) :
  Inv X pins σ H' { s with heap := h', gens := g', drawn := d', toks := t' } := by
 obtain ⟨m, ⟨o, es, ep, ho, r⟩, _⟩ := id I.loc
 obtain ⟨sl, hL⟩ := u.any ho I.free fun z => (hch _ z).2.1 rfl
 exact I.step (ch := ch) hch (fun b o hL hb hc e n => u.keep b o e n (fun z => (List.mem_cons.mp (I.stkSub b z)).elim hL hb) hc) (fun b o _ _ hc e n => u.any e n hc) (fun b o hc e n => u.free b o e n hc) (fun b o hc e => u.there b o e hc) u.tups u.frzs u.tbls (fun m' hm => by
  obtain ⟨o', es', ep', ho', r'⟩ := hm
  rw [ho] at ho'; cases ho'
  exact ⟨_, es', ep', hL, r'⟩) hok hg
theorem Inv.turned {t' : Nat} {it : Addr} (I : Inv X pins σ H s) (k : ∀ b o, b ≠ it → s.heap.get? b = some o → h'.get? b = some o) (hn : H it = none) (hL : it ≠ X.env.locals)
  (h1 : it ∈ X.ex ∨ X.s₀.heap.objs.size ≤ it) (h2 : ∀ x c, X.env.cells.lookup x = some c → c ≠ it) (h3 : ∀ p ∈ X.pn ++ pins, p.1 ≠ it) : Inv X pins σ H { s with heap := h', toks := t' } := by
 have nit : ∀ b u, H b = some u → b ≠ it := fun b u e z => by rw [z, hn] at e; cases e
 refine I.step (g' := s.gens) (d' := s.drawn) (ch := [it]) (fun b hb => ?_) (fun b o _ _ hc e _ => k b o (fun z => hc (by simp [z])) e) (fun b o _ _ hc e _ => ⟨o.slots, k b o (fun z => hc (by simp [z])) e⟩) (fun _ _ _ _ n => n)
  (fun b o hc e => ⟨o, k b o (fun z => hc (by simp [z])) e⟩) (fun _ _ e => e) (fun _ _ _ e => e) (fun b ps e => ⟨#[], by rw [e]; simp⟩) (fun m hm => ?_) (fun b u e => ?_) I.bare
 ·have e : b = it := by simpa using hb
  subst e
  exact ⟨h1, hL, h2, h3⟩
 ·obtain ⟨o, es, ep, ho, r⟩ := hm
  exact ⟨o, es, ep, k _ o (Ne.symm hL) ho, r⟩
 ·refine (I.hok b u e).stay (fun c v hc q => k c v ?_ q) (fun _ q => q) fun _ _ q => q
  rcases hc with z | z
  ·rw [z]; exact nit b u e
  ·exact nit c _ z
theorem Inv.tok (I : Inv X pins σ H s) (t : Nat) : Inv X pins σ H { s with toks := t } := I.un (h' := s.heap) (t' := t) Un.refl I.hok
theorem Inv.kept {t' : Nat} (I : Inv X pins σ H s) (k : ∀ b u, s.heap.get? b = some u → h'.get? b = some u) : Inv X pins σ H { s with heap := h', toks := t' } := I.un (Un.kept k) (I.hok.kept k)
theorem Inv.laid {a : Addr} {o : HO} {t' : Nat} (I : Inv X pins σ H s) (k : ∀ b u, s.heap.get? b = some u → h'.get? b = some u) (hp : s.heap.objs.size ≤ a) (new : ObjOk X.prog X.w (upd H a o) h' a o) :
  Inv X pins σ (upd H a o) { s with heap := h', toks := t' } := I.un (Un.laid k hp (I.hok.fresh hp)) (I.hok.laid k hp new)
theorem Inv.write {x e : Addr} {o : HO} {t' : Nat} (I : Inv X pins σ H s) (mu : Mut (H x)) (he : e = x ∨ H e = some (.own x)) (k : ∀ b u, b ≠ e → s.heap.get? b = some u → h'.get? b = some u) (heo : ∃ u, h'.get? e = some u)
  (new : ObjOk X.prog X.w (upd H x o) h' x o) : Inv X pins σ (upd H x o) { s with heap := h', toks := t' } := I.un (Un.write mu he k heo) (I.hok.write mu he k heo new)
theorem Inv.weak {σ' : List (Option V)} (I : Inv X pins σ H s) (hl : σ'.length = σ.length) (w : ∀ (i : Nat) v, σ'[i]? = some (some v) → σ[i]? = some (some v)) : Inv X pins σ' H s :=
 ⟨I.ok, I.os, I.bare, I.base, let ⟨m, hn, hl'⟩ := I.loc; ⟨m, hn, fun i x v e1 e2 e3 => hl' i x v e1 (w i v e2) e3⟩, I.cell, I.free, I.freeC, I.pin, I.hok, hl.trans I.len⟩
theorem Inv.pins_of {pins' : List (Addr × Obj)} (I : Inv X pins σ H s) (h : ∀ p ∈ pins', s.heap.get? p.1 = some p.2 ∧ H p.1 = none ∧ p.1 ≠ X.env.locals ∧ p.1 ∉ X.fs ∧ ∀ v, p.2.data ≠ .cell v) : Inv X pins' σ H s :=
 ⟨I.ok, I.os, I.bare, I.base, I.loc, I.cell, I.free, I.freeC, fun p hp => (List.mem_append.mp hp).elim (fun z => I.pin p (List.mem_append_left _ z)) (h p), I.hok, I.len⟩

theorem nodup_ix {N : List Str} (hN : N.Nodup) {i j : Nat} {x : Str} (a : N[i]? = some x) (b : N[j]? = some x) : i = j := by
 obtain ⟨h1, e1⟩ := List.getElem?_eq_some_iff.mp a
 obtain ⟨h2, e2⟩ := List.getElem?_eq_some_iff.mp b
 exact (List.getElem_inj hN).mp (e1.trans e2.symm)

theorem store_ok2 {M : Model} {A : Around} {E : Value → Shared → Prop} {i : Nat} {x : Str} {v : V} {u : Value} {Q : Unit → Shared → Prop} (I : Inv X pins σ H s) (hN : X.N.Nodup) (hi : X.N[i]? = some x) (hx : Loc X.env.scope x) (r : RelV v u)
  (h : ∀ s', Inv X pins (σ.set i (some v)) H s' → (∃ a, Heap.SameBut a s.heap s'.heap ∧ (a = X.env.locals ∨ X.env.cells.lookup x = some a)) → Q () s') (hf : X.fn x = true ∨ X.env.scope.names.lookup x = some .local := by first | exact .inl rfl | exact .inr rfl | assumption) : wpAny M A (storeName X.env x u) Q E s := by
 obtain ⟨m, hn, hl⟩ := id I.loc
 have hcls : (X.env.scope.kind == .class || (X.env.scope.kind == .module && X.env.locals != X.env.globals)) = false := by rw [I.ok.kind]; rfl
 have hiσ : i < σ.length := by rw [I.len]; exact (List.getElem?_eq_some_iff.mp hi).1
 have cne := I.cne
 have tracked : ∀ {a : Addr} {h' : Heap}, (∃ o, s.heap.get? a = some o ∧ H a = none) → Heap.SameBut a s.heap h' → HOk X.prog X.w H h' := fun {a h'} ha hs b ob e => by
  obtain ⟨_, _, hfree⟩ := ha
  refine (I.hok b ob e).stay (fun c w' hc q => (hs.2 c ?_).trans q) (fun _ q => q) fun _ _ q => q
  rintro rfl
  rcases hc with rfl | hc
  ·rw [hfree] at e; cases e
  ·rw [hfree] at hc; cases hc
 rcases hx with hk | hk
 ·refine wpAny_storeName_local hk hn (fun h' hn' hs => ?_) hcls
  obtain ⟨oL, _, _, hoL, _⟩ := id hn
  refine h _ ⟨I.ok, I.os, I.bare, ⟨fun b o e n hb hx => ?_, fun b o e n hb hx => ?_, I.base.free, fun b o e hx => ?_, I.base.tups, I.base.frzs, I.base.tbls⟩, ⟨_, hn', fun j y v' e1 e2 e3 => ?_⟩, fun y c e => ?_, I.free, I.freeC, fun p hp => ?_, tracked ⟨oL, hoL, I.free⟩ hs, by simpa using I.len⟩ ⟨_, hs, .inl rfl⟩
  ·exact (hs.2 b (Nat.ne_of_lt (Nat.lt_of_lt_of_le (Heap.lt_size e) I.ok.above))).trans (I.base.keep b o e n hb hx)
  ·obtain ⟨sl, e1⟩ := I.base.slot b o e n hb hx
   exact ⟨sl, (hs.2 b (Nat.ne_of_lt (Nat.lt_of_lt_of_le (Heap.lt_size e) I.ok.above))).trans e1⟩
  ·obtain ⟨o', e1⟩ := I.base.there b o e hx
   exact ⟨o', (hs.2 b (Nat.ne_of_lt (Nat.lt_of_lt_of_le (Heap.lt_size e) I.ok.above))).trans e1⟩
  ·by_cases hj : j = i
   ·subst hj
    rw [hi] at e1; cases e1
    rw [List.getElem?_set_self hiσ] at e2
    cases e2
    exact ⟨u, r, .inl ⟨hk, by simp⟩⟩
   ·rw [List.getElem?_set_ne (Ne.symm hj)] at e2
    obtain ⟨u', r', q⟩ := hl j y v' e1 e2 e3
    refine ⟨u', r', ?_⟩
    rcases q with ⟨k, e⟩ | ⟨k, c, e, z⟩
    ·refine .inl ⟨k, ?_⟩
     have : y ≠ x := fun e => hj (nodup_ix hN e1 (e ▸ hi))
     simp [this, e]
    ·exact .inr ⟨k, c, e, z.sameBut hs (cne y c e)⟩
  ·obtain ⟨w', z⟩ := I.cell y c e
   exact ⟨w', z.sameBut hs (cne y c e)⟩
  ·obtain ⟨e, n, ne, nf, d⟩ := I.pin p hp
   exact ⟨(hs.2 p.1 ne).trans e, n, ne, nf, d⟩
 ·have hfn : X.fn x = true := by
   rcases hf with z | z
   ·exact z
   ·rw [z] at hk; cases hk
  obtain ⟨c, hc⟩ := I.ok.has x (.inl hk)
  obtain ⟨w', z⟩ := I.cell x c hc
  refine wpAny_storeName_cell I.ok.kind hk hc z (fun h' hc' hs => ?_)
  obtain ⟨oc, hoc, hocd⟩ := id z
  refine h { s with heap := h' } ⟨I.ok, I.os, I.bare, ⟨fun b o e n hb hx => ?_, fun b o e n hb hx => ?_, I.base.free, fun b o e hx => ?_, I.base.tups, I.base.frzs, I.base.tbls⟩, ⟨m, hn.sameBut hs (Ne.symm (cne x c hc)), fun j y v' e1 e2 e3 => ?_⟩, fun y c' e => ?_, I.free, I.freeC, fun p hp => ?_, tracked ⟨oc, hoc, I.freeC x c hc⟩ hs, by simpa using I.len⟩ ⟨c, hs, .inr hc⟩
  ·exact (hs.2 b (Nat.ne_of_lt (Nat.lt_of_lt_of_le (Heap.lt_size e) (I.ok.cab x c hfn hc)))).trans (I.base.keep b o e n hb hx)
  ·obtain ⟨sl, e1⟩ := I.base.slot b o e n hb hx
   exact ⟨sl, (hs.2 b (Nat.ne_of_lt (Nat.lt_of_lt_of_le (Heap.lt_size e) (I.ok.cab x c hfn hc)))).trans e1⟩
  ·obtain ⟨o', e1⟩ := I.base.there b o e hx
   exact ⟨o', (hs.2 b (Nat.ne_of_lt (Nat.lt_of_lt_of_le (Heap.lt_size e) (I.ok.cab x c hfn hc)))).trans e1⟩
  ·by_cases hj : j = i
   ·subst hj
    rw [hi] at e1; cases e1
    rw [List.getElem?_set_self hiσ] at e2
    cases e2
    exact ⟨u, r, .inr ⟨.inl hk, c, hc, hc'⟩⟩
   ·rw [List.getElem?_set_ne (Ne.symm hj)] at e2
    obtain ⟨u', r', q⟩ := hl j y v' e1 e2 e3
    refine ⟨u', r', ?_⟩
    rcases q with q | ⟨k, c', e, z'⟩
    ·exact .inl q
    ·refine .inr ⟨k, c', e, z'.sameBut hs ?_⟩
     rintro rfl
     exact hj (nodup_ix hN e1 (I.ok.inj _ _ _ e hc ▸ hi))
  ·by_cases hcc : c' = c
   ·subst hcc; exact ⟨_, hc'⟩
   ·obtain ⟨w2, z2⟩ := I.cell y c' e
    exact ⟨w2, z2.sameBut hs hcc⟩
  ·obtain ⟨e, n, ne, nf, d⟩ := I.pin p hp
   refine ⟨(hs.2 p.1 ?_).trans e, n, ne, nf, d⟩
   intro q
   rw [q, hoc] at e
   have q' : oc = p.2 := Option.some.inj e
   exact d w' (by rw [← q']; exact hocd)
theorem store_ok {M : Model} {A : Around} {E : Value → Shared → Prop} {i : Nat} {x : Str} {v : V} {u : Value} {Q : Unit → Shared → Prop} (I : Inv X pins σ H s) (hN : X.N.Nodup) (hi : X.N[i]? = some x) (hx : Loc X.env.scope x) (r : RelV v u)
  (h : ∀ s', Inv X pins (σ.set i (some v)) H s' → Q () s') (hf : X.fn x = true ∨ X.env.scope.names.lookup x = some .local := by first | exact .inl rfl | exact .inr rfl | assumption) : wpAny M A (storeName X.env x u) Q E s :=
 store_ok2 I hN hi hx r (fun s' I' _ => h s' I') hf
theorem Inv.call' {s' : Shared} {ch : List Addr} (I : Inv X pins σ H s) (ho : s'.os = s.os) (u : Un (frs X.stack) ch H H' s.heap s'.heap) (hok : HOk X.prog X.w H' s'.heap) (hg : AllBare s'.gens)
  (hch : ∀ b ∈ ch, (b ∈ X.ex ∨ X.s₀.heap.objs.size ≤ b) ∧ b ≠ X.env.locals ∧ (∀ x c, X.env.cells.lookup x = some c → c ≠ b) ∧ ∀ p ∈ X.pn ++ pins, p.1 ≠ b) : Inv X pins σ H' s' := by
 obtain ⟨h', g', d', t', o'⟩ := s'
 have e : o' = s.os := ho
 subst e
 exact I.call (g' := g') (t' := t') (d' := d') u hok hg hch
end

noncomputable abbrev XK := Value → Option Addr → Hp → Prop
noncomputable abbrev St := List (Option V)
noncomputable abbrev VK := V → Hp → Prop
noncomputable abbrev TE := St → Hp → VK → Prop
noncomputable abbrev TT := St → Hp → (Bool → Hp → Prop) → Prop
noncomputable abbrev TA := St → Hp → (List V → Hp → Prop) → Prop
structure Ends where
 nx : St → Hp → Prop
 rt : VK
 bk : St → Hp → Prop := fun _ _ => False
 ct : St → Hp → Prop := fun _ _ => False
noncomputable abbrev TS := Ends → St → Hp → Prop

noncomputable def EP (X : Cx) (pins : List (Addr × Obj)) (σ : St) (Q : VK) (u : Value) (s' : Shared) : Prop := ∃ v H', Inv X pins σ H' s' ∧ RelV v u ∧ Q v H'
noncomputable def TP (X : Cx) (pins : List (Addr × Obj)) (σ : St) (Q : Bool → Hp → Prop) (b : Bool) (s' : Shared) : Prop := ∃ H', Inv X pins σ H' s' ∧ Q b H'
noncomputable def AP (X : Cx) (pins : List (Addr × Obj)) (σ : St) (Q : List V → Hp → Prop) (us : List Value) (s' : Shared) : Prop := ∃ vs H', Inv X pins σ H' s' ∧ Vals vs us ∧ Q vs H'
noncomputable def SP (X : Cx) (pins : List (Addr × Obj)) (D : Ends) (f : Flow) (s' : Shared) : Prop :=
 match f with
 | .next => ∃ σ' H', Inv X pins σ' H' s' ∧ D.nx σ' H'
 | .brk => ∃ σ' H', Inv X pins σ' H' s' ∧ D.bk σ' H'
 | .cont => ∃ σ' H', Inv X pins σ' H' s' ∧ D.ct σ' H'
 | .ret u => ∃ v σ' H', Inv X pins σ' H' s' ∧ RelV v u ∧ D.rt v H'

noncomputable def PE (X : Cx) (e : Expr) (t : TE) : Prop :=
 ∀ (pins : List (Addr × Obj)) (s : Shared) (σ : St) (H : Hp) (Q : VK), Inv X pins σ H s → t σ H Q → wpAny (model X.prog X.w) X.A (eval e X.env) (EP X pins σ Q) X.xe s
noncomputable def PT (X : Cx) (e : Expr) (t : TT) : Prop :=
 ∀ (pins : List (Addr × Obj)) (s : Shared) (σ : St) (H : Hp) (Q : Bool → Hp → Prop), Inv X pins σ H s → t σ H Q → wpAny (model X.prog X.w) X.A (isTrue e X.env (eval e X.env)) (TP X pins σ Q) X.xe s
noncomputable def PW (X : Cx) (e : Expr) (t : TT) : Prop :=
 ∀ (whole : Sem Value) (pins : List (Addr × Obj)) (s : Shared) (σ : St) (H : Hp) (Q : Bool → Hp → Prop), Inv X pins σ H s → t σ H Q → wpAny (model X.prog X.w) X.A (isTrue e X.env whole) (TP X pins σ Q) X.xe s
theorem PW.pt {X : Cx} {e : Expr} {t : TT} (h : PW X e t) : PT X e t := h _
noncomputable def PA (X : Cx) (es : List Expr) (t : TA) : Prop :=
 ∀ (pos : Pos) (pins : List (Addr × Obj)) (s : Shared) (σ : St) (H : Hp) (Q : List V → Hp → Prop), Inv X pins σ H s → t σ H Q → wpAny (model X.prog X.w) X.A (spliced (backTo pos (starEach es X.env))) (AP X pins σ Q) X.xe s
noncomputable def PS (X : Cx) (st : Stmt) (t : TS) : Prop :=
 ∀ (pins : List (Addr × Obj)) (s : Shared) (σ : St) (H : Hp) (D : Ends), Inv X pins σ H s → t D σ H → wpAny (model X.prog X.w) X.A (exec st X.env) (SP X pins D) X.xe s
noncomputable def PSs (X : Cx) (st : List Stmt) (t : TS) : Prop :=
 ∀ (pins : List (Addr × Obj)) (s : Shared) (σ : St) (H : Hp) (D : Ends), Inv X pins σ H s → t D σ H → wpAny (model X.prog X.w) X.A (execs st X.env) (SP X pins D) X.xe s
theorem thn {α : Type} {t : Sem α} {Q Q' : α → Shared → Prop} {M : Model} {A : Around} {E : Value → Shared → Prop} {s : Shared} (h : wpAny M A t Q E s) (hQ : ∀ a s, Q a s → Q' a s) : wpAny M A t Q' E s := wpAny_mono h hQ fun _ _ x => x
end L2

namespace L2
open PySem PySem.Spec PyProof.Rows
section
variable {X : Cx}

theorem bin {a b : Expr} {ta tb : TE} (ha : PE X a ta) (hb : PE X b tb) {pins : List (Addr × Obj)} {s : Shared} {σ : St} {H : Hp} {R : V → V → Hp → Prop} (I : Inv X pins σ H s) (h : ta σ H fun x H1 => tb σ H1 fun y H2 => R x y H2)
  {α : Type} {Q : α → Shared → Prop} {f : Value → Value → Sem α}
  (hf : ∀ v u s2 x y H2, Inv X pins σ H2 s2 → RelV x v → RelV y u → R x y H2 → wpAny (model X.prog X.w) X.A (f v u) Q X.xe s2) :
  wpAny (model X.prog X.w) X.A (eval a X.env) (fun v s₁ => wpAny (model X.prog X.w) X.A (eval b X.env) (fun u s₂ => wpAny (model X.prog X.w) X.A (f v u) Q X.xe s₂) X.xe s₁) X.xe s := by
 refine thn (ha pins s σ H _ I h) fun v s1 ⟨x, H1, I1, r1, q1⟩ => ?_
 refine thn (hb pins s1 σ H1 _ I1 q1) fun u s2 ⟨y, H2, I2, r2, q2⟩ => ?_
 exact hf v u s2 x y H2 I2 r1 r2 q2

noncomputable def tVar (i : Nat) : TE := fun σ H Q => ∃ v, σ[i]? = some (some v) ∧ Q v H
noncomputable def tC (v : V) : TE := fun _ H Q => Q v H
theorem pe_var {i : Nat} {x : Str} {pos : Pos} (hN : X.N[i]? = some x) (hv : Vis X.env.scope x) (hd : (x == ("__debug__" : Str)) = false := by decide) (hcd : (x == ("__classdict__" : Str)) = false := by decide) : PE X (.Name x pos) (tVar i) := by
 intro pins s σ H Q I h
 obtain ⟨v, e, h⟩ := h
 obtain ⟨m, hn, hl⟩ := I.loc
 obtain ⟨u, r, l⟩ := hl i x v hN e hv
 have fin : EP X pins σ Q u s := ⟨v, H, I, r, h⟩
 rcases l with ⟨hk, hm⟩ | ⟨hk, c, hc, hcell⟩
 ·exact wpAny_Name (wpAny_loadName_local I.ok.kind hk hn hm fin) hd
 ·rcases hk with hk | hk
  ·exact wpAny_Name (wpAny_loadName_cell I.ok.kind hk hc hcell fin) hd
  ·exact wpAny_Name (wpAny_loadName_free I.ok.kind hk hc hcell fin hcd) hd
theorem pe_int {i j pos} : PE X (.Constant (.int i) j pos) (tC (.int i)) := fun _ _ _ H _ I h => wpAny_Constant_int ⟨.int i, H, I.tok _, ⟨_, rfl⟩, h⟩
theorem pe_bl {b j pos} : PE X (.Constant (.bool b) j pos) (tC (.bl b)) := fun _ _ _ H _ I h => Constant_bool ⟨.bl b, H, I, rfl, h⟩
theorem pe_non {j pos} : PE X (.Constant .none j pos) (tC .non) := fun _ _ _ H _ I h => Constant_none ⟨.non, H, I, rfl, h⟩
theorem pe_str {x j pos} : PE X (.Constant (.str x) j pos) (tC (.str x)) := fun _ _ _ H _ I h => Calls.Constant_str ⟨.str x, H, I.tok _, ⟨_, rfl⟩, h⟩

noncomputable def Gl (X : Cx) (x : Str) : Prop := X.env.kindOf x = some .globalImplicit
theorem ld_glob {E : Value → Shared → Prop} {pins : List (Addr × Obj)} {s : Shared} {σ : St} {H : Hp} {x : Str} {u : Value} {pos : Pos} {Q : Value → Shared → Prop} (I : Inv X pins σ H s) (hg : Gl X x) (hm : X.mg x = some u) (h : Q u s)
  (hd : (x == ("__debug__" : Str)) = false := by decide) : wpAny (model X.prog X.w) X.A (eval (.Name x pos) X.env) Q E s :=
 Calls.Name_function_global I.ok.kind hg (Calls.loadGlobal_global (by rw [I.ok.glob]; exact I.mod.glob.keeps I.bk) hm h) hd
theorem ld_blt {E : Value → Shared → Prop} {pins : List (Addr × Obj)} {s : Shared} {σ : St} {H : Hp} {x : Str} {u : Value} {pos : Pos} {Q : Value → Shared → Prop} (I : Inv X pins σ H s) (hg : Gl X x) (hm : X.mg x = none) (hv : bootBuiltins x = some u) (h : Q u s)
  (hn : x ≠ "__name__" := by decide) (hd : (x == ("__debug__" : Str)) = false := by decide) : wpAny (model X.prog X.w) X.A (eval (.Name x pos) X.env) Q E s := by
 obtain ⟨mb, h1, h2⟩ := I.mod.blt
 exact Calls.Name_function_global I.ok.kind hg (Calls.loadGlobal_builtin (by rw [I.ok.glob]; exact I.mod.glob.keeps I.bk) hm (by rw [I.ok.blt]; exact h1.keeps I.bk) ((h2 x hn).trans hv) h) hd
theorem pe_bltn {x : Str} {v : V} {u : Value} {pos : Pos} (hg : Gl X x) (hm : X.mg x = none) (hv : bootBuiltins x = some u) (r : RelV v u) (hn : x ≠ "__name__" := by decide) (hd : (x == ("__debug__" : Str)) = false := by decide) : PE X (.Name x pos) (tC v) :=
 fun _ _ _ H _ I h => ld_blt I hg hm hv ⟨v, H, I, r, h⟩ hn hd

noncomputable def t2I (ta tb : TE) (k : Int → Int → Hp → Prop) : St → Hp → Prop := fun σ H => ta σ H fun x H1 => tb σ H1 fun y H2 => ∃ i j, x = .int i ∧ y = .int j ∧ k i j H2
variable {a b : Expr} {ta tb : TE} {pos : Pos}

noncomputable def PC (X : Cx) (op : CmpOp) (a b : Expr) (t : TE) : Prop :=
 ∀ (pins : List (Addr × Obj)) (s : Shared) (σ : St) (H : Hp) (Q : VK), Inv X pins σ H s → t σ H Q →
  wpAny (model X.prog X.w) X.A (eval a X.env) (fun v s₁ => wpAny (model X.prog X.w) X.A (eval b X.env) (fun u s₂ => wpAny (model X.prog X.w) X.A (compareOp op v u) (EP X pins σ Q) X.xe s₂) X.xe s₁) X.xe s
theorem nobehind (b : Expr) {op : CmpOp} (h : op ≠ .In) (h2 : op ≠ .NotIn) : behindInMarks op b = false := by
 have e1 : (op == CmpOp.In) = false := by cases op <;> first | rfl | exact absurd rfl h
 have e2 : (op == CmpOp.NotIn) = false := by cases op <;> first | rfl | exact absurd rfl h2
 cases b <;> simp [behindInMarks, e1, e2]
noncomputable def tCmp (p : Int → Int → Bool) (ta tb : TE) : TE := fun σ H Q => t2I ta tb (fun i j H2 => Q (.bl (p i j)) H2) σ H
noncomputable abbrev tLt : TE → TE → TE := tCmp fun i j => decide (i < j)
noncomputable abbrev tLe : TE → TE → TE := tCmp fun i j => decide (i ≤ j)
noncomputable abbrev tGt : TE → TE → TE := tCmp fun i j => decide (j < i)
noncomputable abbrev tGe : TE → TE → TE := tCmp fun i j => decide (j ≤ i)
noncomputable abbrev tEqI : TE → TE → TE := tCmp fun i j => decide (i = j)
noncomputable abbrev tNeI : TE → TE → TE := tCmp fun i j => !decide (i = j)
theorem pc_int {op : CmpOp} {p : Int → Int → Bool} (ha : PE X a ta) (hb : PE X b tb)
  (rule : ∀ (i j : Int) (t u : Tok) (Q : Value → Shared → Prop) (s : Shared), Q (.bool (p i j)) s → wpAny (model X.prog X.w) X.A (compareOp op (.int i t) (.int j u)) Q X.xe s) : PC X op a b (tCmp p ta tb) := by
 intro pins s σ H Q I h
 refine bin ha hb I h fun v u s2 x y H2 I2 rx ry q => ?_
 obtain ⟨i, j, rfl, rfl, q⟩ := q
 obtain ⟨t, rfl⟩ := rx
 obtain ⟨t', rfl⟩ := ry
 exact rule i j t t' _ s2 ⟨.bl _, H2, I2, rfl, q⟩
theorem pc_lt (ha : PE X a ta) (hb : PE X b tb) : PC X .Lt a b (tLt ta tb) := pc_int ha hb fun _ _ _ _ _ _ h => lt_int h
theorem pc_gt (ha : PE X a ta) (hb : PE X b tb) : PC X .Gt a b (tGt ta tb) := pc_int ha hb fun _ _ _ _ _ _ h => gt_int h
theorem pc_eqI (ha : PE X a ta) (hb : PE X b tb) : PC X .Eq a b (tEqI ta tb) := pc_int ha hb fun _ _ _ _ _ _ h => eq_int (by rw [Bool.beq_eq_decide_eq]; exact h)
theorem pc_neI (ha : PE X a ta) (hb : PE X b tb) : PC X .NotEq a b (tNeI ta tb) := pc_int ha hb fun _ _ _ _ _ _ h => ne_int (by rw [bne, Bool.beq_eq_decide_eq]; exact h)
noncomputable def tIsN (ta : TE) : TE := fun σ H Q => ta σ H fun x H1 => Q (.bl (decide (x = .non))) H1
theorem RelV.none_iff {x : V} {v : Value} (r : RelV x v) : (v == Value.none) = decide (x = .non) := by
 cases x with
 | non => cases r; rfl
 | bl _ => cases r; rfl
 | int _ => obtain ⟨t, rfl⟩ := r; rfl
 | str _ => obtain ⟨t, rfl⟩ := r; rfl
 | byt _ => obtain ⟨t, rfl⟩ := r; rfl
 | flt _ => obtain ⟨t, rfl⟩ := r; rfl
 | ref _ => cases r; rfl
 | ty _ => cases r; rfl
theorem pc_isN {j pos'} (ha : PE X a ta) : PC X .Is a (.Constant .none j pos') (tIsN ta) := by
 intro pins s σ H Q I h
 refine thn (ha pins s σ H _ I h) fun v s1 ⟨x, H1, I1, r1, q1⟩ => ?_
 exact Constant_none (is_none_gen ⟨.bl _, H1, I1, by rw [r1.none_iff]; rfl, q1⟩)
noncomputable def tB (t : TE) : TT := fun σ H Q => t σ H fun x H1 => ∃ c, x = .bl c ∧ Q c H1
theorem pe_cmp {op : CmpOp} {t : TE} (h : PC X op a b t) (h1 : behindInMarks op b = false := by first | exact nobehind _ (by decide) (by decide) | rfl) : PE X (.Compare a [op] [b] pos) t := fun pins s σ H Q I hw => wpAny_Compare1 (h pins s σ H Q I hw) h1
theorem pt_cmp {op : CmpOp} {t : TE} (h : PC X op a b t) (h1 : behindInMarks op b = false := by first | exact nobehind _ (by decide) (by decide) | rfl) : PT X (.Compare a [op] [b] pos) (tB t) := by
 intro pins s σ H Q I hw
 refine wpAny_isTrue_Compare1 (thn (h pins s σ H _ I hw) fun v s1 h1 => thn h1 fun u s2 h2 => thn h2 fun c s3 ⟨x, H1, I1, r1, q1⟩ => ?_) h1
 obtain ⟨d, rfl, q⟩ := q1
 cases r1
 exact wpAny_truthy_bool ⟨H1, I1, q⟩
theorem pt_val {e : Expr} {t : TE} (h : PE X e t) (he : ∀ whole, isTrue e X.env whole = (do let v ← whole; standAt e.pos; holding [v] (truthy v)) := by intro _; rfl) : PT X e (tB t) := by
 intro pins s σ H Q I hw
 refine isTrue_plain (thn (h pins s σ H _ I hw) fun v s1 ⟨x, H1, I1, r1, q1⟩ => ?_) (he _)
 obtain ⟨d, rfl, q⟩ := q1
 cases r1
 exact wpAny_truthy_bool ⟨H1, I1, q⟩

variable {tA tB' : TT} {rest : List Expr}
noncomputable def tAnd (t u : TT) : TT := fun σ H Q => t σ H fun c H1 => if c = true then u σ H1 Q else Q false H1
noncomputable def tOr (t u : TT) : TT := fun σ H Q => t σ H fun c H1 => if c = true then Q true H1 else u σ H1 Q
noncomputable def tNot (t : TT) : TT := fun σ H Q => t σ H fun c H1 => Q (!c) H1
theorem pw_and1 (ha : PT X a tA) : PW X (.BoolOp .And [a] pos) tA := by
 intro wh pins s σ H Q I h
 refine isTrue_and (thn (ha pins s σ H Q I h) fun c s1 e => ?_)
 cases c with
 | true => exact isTrue_and_nil e
 | false => exact e
theorem pw_or1 (ha : PT X a tA) : PW X (.BoolOp .Or [a] pos) tA := by
 intro wh pins s σ H Q I h
 refine isTrue_or (thn (ha pins s σ H Q I h) fun c s1 e => ?_)
 cases c with
 | false => exact isTrue_or_nil e
 | true => exact e
theorem pw_and (ha : PT X a tA) (hb : PW X (.BoolOp .And (b :: rest) pos) tB') : PW X (.BoolOp .And (a :: b :: rest) pos) (tAnd tA tB') := by
 intro wh pins s σ H Q I h
 refine isTrue_and (thn (ha pins s σ H _ I h) fun c s1 ⟨H1, I1, q1⟩ => ?_)
 cases c with
 | true => exact hb wh pins s1 σ H1 Q I1 q1
 | false => exact ⟨H1, I1, q1⟩
theorem pw_or (ha : PT X a tA) (hb : PW X (.BoolOp .Or (b :: rest) pos) tB') : PW X (.BoolOp .Or (a :: b :: rest) pos) (tOr tA tB') := by
 intro wh pins s σ H Q I h
 refine isTrue_or (thn (ha pins s σ H _ I h) fun c s1 ⟨H1, I1, q1⟩ => ?_)
 cases c with
 | true => exact ⟨H1, I1, q1⟩
 | false => exact hb wh pins s1 σ H1 Q I1 q1
theorem pt_not (ha : PT X a tA) : PT X (.UnaryOp .Not a pos) (tNot tA) := by
 intro pins s σ H Q I h
 exact isTrue_not (ha pins s σ H (fun c H1 => Q (!c) H1) I h)
noncomputable def tAndV (ta tb : TE) : TE := fun σ H Q => ta σ H fun x H1 => ∃ c, x = .bl c ∧ if c = true then tb σ H1 Q else Q (.bl false) H1
noncomputable def tNotV (ta : TE) : TE := fun σ H Q => ta σ H fun x H1 => ∃ c, x = .bl c ∧ Q (.bl (!c)) H1
theorem pe_one {op} {t : TE} (h : PE X a t) : PE X (.BoolOp op [a] pos) t := fun pins s σ H Q I hw => BoolOp_one (h pins s σ H Q I hw)
theorem pe_and (ha : PE X a ta) (hb : PE X (.BoolOp .And (b :: rest) pos) tb) : PE X (.BoolOp .And (a :: b :: rest) pos) (tAndV ta tb) := by
 intro pins s σ H Q I h
 refine BoolOp_and (thn (ha pins s σ H _ I h) fun v s1 ⟨x, H1, I1, r1, q1⟩ => ?_)
 obtain ⟨c, rfl, q1⟩ := q1
 cases r1
 refine wpAny_truthy_bool ?_
 cases c with
 | true => exact hb pins s1 σ H1 Q I1 q1
 | false => exact ⟨.bl false, H1, I1, rfl, q1⟩
theorem pe_not (ha : PE X a ta) : PE X (.UnaryOp .Not a pos) (tNotV ta) := by
 intro pins s σ H Q I h
 refine UnaryOp_ (thn (ha pins s σ H _ I h) fun v s1 ⟨x, H1, I1, r1, q1⟩ => ?_)
 obtain ⟨c, rfl, q1⟩ := q1
 cases r1
 exact not_of (wpAny_truthy_bool ⟨.bl (!c), H1, I1, rfl, q1⟩)
noncomputable def tIf (t : TT) (ta tb : TE) : TE := fun σ H Q => t σ H fun c H1 => if c = true then ta σ H1 Q else tb σ H1 Q
theorem pe_ifExp {c : Expr} (hc : PT X c tA) (ha : PE X a ta) (hb : PE X b tb) : PE X (.IfExp c a b pos) (tIf tA ta tb) := by
 intro pins s σ H Q I h
 refine wpAny_IfExp (thn (hc pins s σ H _ I h) fun d s1 ⟨H1, I1, q1⟩ => ?_)
 cases d with
 | true => exact ha pins s1 σ H1 Q I1 q1
 | false => exact hb pins s1 σ H1 Q I1 q1
end
end L2

namespace L2
open PySem PySem.Spec PyProof.Rows

noncomputable def SqL (K : PySem.W.Frag) (H : Hp) (a : Addr) (xs : List V) : Prop :=
 Rd H a (.lst xs) ∨
  ∃ (o : Obj) (its : Array Value) (n : Nat), K.lookup a = some o ∧ o.cls = .type "list" ∧ o.dict = none ∧ o.data = .seq its n ∧ its.size ≤ sizeLine ∧ Vals xs its.toList
noncomputable def SqT (K : PySem.W.Frag) (H : Hp) (a : Addr) (xs : List V) : Prop :=
 Rd H a (.tup xs) ∨
  ∃ (o : Obj) (its : Array Value) (n : Nat), K.lookup a = some o ∧ o.cls = .type "tuple" ∧ o.data = .seq its n ∧ its.size ≤ sizeLine ∧ Vals xs its.toList
noncomputable def SqX (K : PySem.W.Frag) (H : Hp) (a : Addr) (xs : List V) : Prop :=
 Rd H a (.lst xs) ∨ ∃ (its : Array Value) (n : Nat), K.lookup a = some { cls := .type "list", data := .seq its n } ∧ its.size ≤ sizeLine ∧ Vals xs its.toList
theorem SqX.sql {K : PySem.W.Frag} {H : Hp} {a : Addr} {xs : List V} (h : SqX K H a xs) : SqL K H a xs := by
 rcases h with h | ⟨its, n, hk, hz, r⟩
 ·exact .inl h
 ·exact .inr ⟨_, its, n, hk, rfl, rfl, rfl, hz, r⟩
theorem SqX.of {K : PySem.W.Frag} {H : Hp} {a : Addr} {xs : List V} (h : H a = some (.lst xs)) : SqX K H a xs := .inl (.inl h)
noncomputable def absV : Value → Option V
 | .none => some .non
 | .bool b => some (.bl b)
 | .int i _ => some (.int i)
 | .str x _ => some (.str x)
 | .bytes b _ => some (.byt b)
 | .float b _ => some (.flt b)
 | .ref a => some (.ref a)
 | .type n => some (.ty n)
 | _ => none
theorem RelV.abs {x : V} {u : Value} (r : RelV x u) : absV u = some x := by
 cases x with
 | non => cases r; rfl
 | bl _ => cases r; rfl
 | int _ => obtain ⟨t, rfl⟩ := r; rfl
 | str _ => obtain ⟨t, rfl⟩ := r; rfl
 | byt _ => obtain ⟨t, rfl⟩ := r; rfl
 | flt _ => obtain ⟨t, rfl⟩ := r; rfl
 | ref _ => cases r; rfl
 | ty _ => cases r; rfl
theorem RelV.inj {x y : V} {u : Value} (r : RelV x u) (q : RelV y u) : x = y := Option.some.inj (r.abs.symm.trans q.abs)
theorem Vals.inj : ∀ {xs ys : List V} {us : List Value}, Vals xs us → Vals ys us → xs = ys
 | _, _, _, .nil, .nil => rfl
 | _, _, _, .cons r t, .cons r' t' => by rw [r.inj r', Vals.inj t t']
section
variable {X : Cx} {pins : List (Addr × Obj)} {σ : St} {H : Hp} {s : Shared} {a : Addr} {xs ys : List V}
theorem SqT.of {K : PySem.W.Frag} (h : H a = some (.tup xs)) : SqT K H a xs := .inl (.inl h)
theorem Inv.list (I : Inv X pins σ H s) (h : SqL X.K H a xs) : ∃ its : List Value, Vals xs its ∧ PlainL s.heap a its.toArray ∧ xs.length ≤ sizeLine := by
 rcases h with h | ⟨o, its, n, hk, hc, hd, hs, hz, r⟩
 ·obtain ⟨z, its, n, r, e⟩ := h.ok I.hok
  exact ⟨its, r, ⟨_, n, e, rfl, rfl, rfl⟩, z⟩
 ·refine ⟨its.toList, r, ⟨o, n, I.kIn a o hk, hc, hd, by simpa using hs⟩, ?_⟩
  have e := r.length
  simp only [Array.length_toList] at e
  omega
theorem Inv.tuple (I : Inv X pins σ H s) (h : SqT X.K H a xs) : ∃ its : List Value, Vals xs its ∧ IsTup s.heap a its.toArray ∧ xs.length ≤ sizeLine := by
 rcases h with h | ⟨o, its, n, hk, hc, hs, hz, r⟩
 ·obtain ⟨z, its, r, p⟩ := h.ok I.hok
  exact ⟨its, r, p, z⟩
 ·refine ⟨its.toList, r, ⟨o, I.kIn a o hk, hc, n, by simpa using hs⟩, ?_⟩
  have e := r.length
  simp only [Array.length_toList] at e
  omega
theorem Inv.list_inj (I : Inv X pins σ H s) (h : SqL X.K H a xs) (h' : SqL X.K H a ys) : xs = ys := by
 obtain ⟨its, r, ⟨o, n, e, _, _, d⟩, _⟩ := I.list h
 obtain ⟨its', r', ⟨o', n', e', _, _, d'⟩, _⟩ := I.list h'
 rw [e] at e'; cases e'
 rw [d] at d'
 injection d' with d1 _
 have : its = its' := by simpa using congrArg Array.toList d1
 subst this
 exact r.inj r'
theorem Inv.tuple_inj (I : Inv X pins σ H s) (h : SqT X.K H a xs) (h' : SqT X.K H a ys) : xs = ys := by
 obtain ⟨its, r, ⟨o, e, _, n, d⟩, _⟩ := I.tuple h
 obtain ⟨its', r', ⟨o', e', _, n', d'⟩, _⟩ := I.tuple h'
 rw [e] at e'; cases e'
 rw [d] at d'
 injection d' with d1 _
 have : its = its' := by simpa using congrArg Array.toList d1
 subst this
 exact r.inj r'
end

noncomputable abbrev Cx.wish (X : Cx) (E : Value → Shared → Prop) : Cx := { X with xe := E }
noncomputable abbrev Cx.nox (X : Cx) : Cx := X.wish fun _ _ => False
section
variable {X : Cx} {pins : List (Addr × Obj)} {σ : St} {H : Hp} {s : Shared} {E : Value → Shared → Prop}
end

section
variable {X : Cx} {st : Stmt} {rest : List Stmt} {t u : TS} {e : Expr} {te : TE} {pos : Pos}
noncomputable def tNext : TS := fun D σ H => D.nx σ H
noncomputable def tSeq (t u : TS) : TS := fun D σ H => t { D with nx := u D } σ H
theorem pss_nil : PSs X [] tNext := fun _ _ σ H _ I h => wpAny_execs_nil ⟨σ, H, I, h⟩
theorem pss_cons (h1 : PS X st t) (h2 : PSs X rest u) : PSs X (st :: rest) (tSeq t u) := by
 intro pins s σ H D I h
 refine wpAny_execs_cons (thn (h1 pins s σ H { D with nx := u D } I h) fun f s1 q => ?_)
 cases f with
 | next =>
  obtain ⟨σ', H', I', q⟩ := q
  exact h2 pins s1 σ' H' D I' q
 | ret v => exact q
 | brk => exact q
 | cont => exact q
theorem pss_one (h1 : PS X st t) : PSs X [st] t := by
 intro pins s σ H D I h
 refine wpAny_execs_cons (thn (h1 pins s σ H D I h) fun f s1 q => ?_)
 cases f with
 | next => exact wpAny_execs_nil q
 | ret v => exact q
 | brk => exact q
 | cont => exact q
theorem Inv.quiet {pins : List (Addr × Obj)} {σ : St} {H : Hp} {s : Shared} (I : Inv X pins σ H s) : interactive X.env = false := by simp [interactive, I.ok.kind]
noncomputable def tDrop (te : TE) : TS := fun D σ H => te σ H fun _ H1 => D.nx σ H1
theorem ps_expr (he : PE X e te) (hs : swapsWith e none pos.line X.env = pure false := by rfl) : PS X (.Expr e pos) (tDrop te) := by
 intro pins s σ H D I h
 exact wpAny_Expr_any (thn (he pins s σ H _ I h) fun v s1 ⟨x, H1, I1, r1, q1⟩ => ⟨σ, H1, I1, q1⟩) I.quiet hs
noncomputable def tRet (te : TE) : TS := fun D σ H => te σ H D.rt
theorem ps_ret (he : PE X e te) : PS X (.Return (some e) pos) (tRet te) := by
 intro pins s σ H D I h
 exact wpAny_Return_some (thn (he pins s σ H _ I h) fun v s1 ⟨x, H1, I1, r1, q1⟩ => ⟨x, σ, H1, I1, r1, q1⟩)
noncomputable def tIfS (c : TT) (t u : TS) : TS := fun D σ H => c σ H fun b H1 => if b = true then t D σ H1 else u D σ H1
theorem ps_if {c : Expr} {a b : List Stmt} {tc : TT} (hc : PT X c tc) (ha : PSs X a t) (hb : PSs X b u) : PS X (.If c a b pos) (tIfS tc t u) := by
 intro pins s σ H D I h
 refine wpAny_If (thn (hc pins s σ H _ I h) fun d s1 ⟨H1, I1, q1⟩ => ?_)
 cases d with
 | true => exact ha pins s1 σ H1 D I1 q1
 | false => exact hb pins s1 σ H1 D I1 q1
end

noncomputable abbrev TG := V → St → Hp → (St → Hp → Prop) → Prop
noncomputable abbrev TGs := List V → St → Hp → (St → Hp → Prop) → Prop
noncomputable def PG (X : Cx) (target : Expr) (t : TG) : Prop :=
 ∀ (pins : List (Addr × Obj)) (s : Shared) (σ : St) (H : Hp) (v : V) (u : Value) (Q : St → Hp → Prop), Inv X pins σ H s → RelV v u → t v σ H Q →
  wpAny (model X.prog X.w) X.A (assign target X.env u) (fun _ s' => ∃ σ' H', Inv X pins σ' H' s' ∧ Q σ' H') X.xe s
noncomputable def PGs (X : Cx) (ts : List Expr) (t : TGs) : Prop :=
 ∀ (pins : List (Addr × Obj)) (s : Shared) (σ : St) (H : Hp) (vs : List V) (us : List Value) (Q : St → Hp → Prop), Inv X pins σ H s → Vals vs us → t vs σ H Q →
  wpAny (model X.prog X.w) X.A (assignInOrder ((assignEach ts X.env).map (·.2)) us) (fun _ s' => ∃ σ' H', Inv X pins σ' H' s' ∧ Q σ' H') X.xe s
noncomputable abbrev TSet := V → V → V → Hp → (Hp → Prop) → Prop
noncomputable def PSet (X : Cx) (t : TSet) : Prop :=
 ∀ (pins : List (Addr × Obj)) (s : Shared) (σ : St) (H : Hp) (o i v : V) (ov iv u : Value) (Q : Hp → Prop), Inv X pins σ H s → RelV o ov → RelV i iv → RelV v u → t o i v H Q →
  wpAny (model X.prog X.w) X.A (setItem ov iv u) (fun _ s' => ∃ H', Inv X pins σ H' s' ∧ Q H') X.xe s
noncomputable abbrev TIp := V → V → Hp → VK → Prop
section
variable {X : Cx} {pos : Pos}
noncomputable def gName (i : Nat) : TG := fun v σ H Q => Q (σ.set i (some v)) H
theorem pg_name {i : Nat} {x : Str} (hN : X.N.Nodup) (hi : X.N[i]? = some x) (hx : Loc X.env.scope x) (hf : X.fn x = true ∨ X.env.scope.names.lookup x = some .local := by first | exact .inl rfl | exact .inr rfl | assumption) : PG X (.Name x pos) (gName i) := by
 intro pins s σ H v u Q I r h
 exact wpAny_assign_Name (store_ok I hN hi hx r (fun s' I' => ⟨_, H, I', h⟩) hf)
noncomputable def gNil : TGs := fun vs σ H Q => vs = [] ∧ Q σ H
noncomputable def gCons (t : TG) (u : TGs) : TGs := fun vs σ H Q => ∃ v r, vs = v :: r ∧ t v σ H fun σ' H' => u r σ' H' Q
theorem pgs_nil : PGs X [] gNil := by
 intro pins s σ H vs us Q I r h
 obtain ⟨e, h⟩ := h
 subst e
 cases r
 exact assignInOrder_nil ⟨σ, H, I, h⟩
theorem pgs_cons {e : Expr} {es : List Expr} {t : TG} {u : TGs} (h1 : PG X e t) (h2 : PGs X es u)
  (hs : (assignEach (e :: es) X.env).map (·.2) = assign e X.env :: (assignEach es X.env).map (·.2) := by rfl) : PGs X (e :: es) (gCons t u) := by
 intro pins s σ H vs us Q I r h
 obtain ⟨v, vr, e1, h⟩ := h
 subst e1
 cases r with
 | cons r rr =>
  rw [hs]
  refine assignInOrder_cons (thn (h1 pins s σ H _ _ _ I r h) fun _ s1 ⟨σ1, H1, I1, q1⟩ => ?_)
  exact h2 pins s1 σ1 H1 _ _ Q I1 rr q1
noncomputable def gTup (K : PySem.W.Frag) (n : Nat) (t : TGs) : TG := fun v σ H Q => ∃ a xs, v = .ref a ∧ SqT K H a xs ∧ xs.length = n ∧ t xs σ H Q
theorem pg_tup {es : List Expr} {k : Nat} {t : TGs} {n : Nat} (hc : X.calm = true) (h : PGs X es t)
  (hn : (assignEach es X.env).length = n := by rfl) (hst : (assignEach es X.env).findIdx? (·.1) = none := by rfl) : PG X (.Tuple es k pos) (gTup X.K n t) := by
 intro pins s σ H v u Q I r hw
 obtain ⟨a, xs, e1, hq, hl, hw⟩ := hw
 subst e1
 cases r
 obtain ⟨its, rv, ht, hz⟩ := I.tuple hq
 refine assign_Tuple_tuple (I.ok.hd hc) ht (by simp [hn, ← hl, rv.length]) hst fun h' hx => ?_
 have I1 : Inv X pins σ H { s with heap := h' } := I.kept (t' := s.toks) fun b o e => hx b o (Nat.ne_of_lt (Heap.lt_size e)) e
 exact h pins _ σ H xs _ Q I1 (by simpa using rv) hw
noncomputable def gSub (to ti : TE) (t : TSet) : TG := fun v σ H Q => to σ H fun o H1 => ti σ H1 fun i H2 => t o i v H2 fun H3 => Q σ H3
theorem pg_sub {o i : Expr} {to ti : TE} {t : TSet} (ho : PE X o to) (hi : PE X i ti) (hs : PSet X t)
  (ha : ∀ v, assign (.Subscript o i pos) X.env v = (do
   let ov ← holding [v] (eval o X.env)
   let iv ← holding [v, ov] (eval i X.env)
   standAt pos
   holding [v, ov, iv] (setItem ov iv v)
   release [v, ov, iv] []) := by intro _; rfl) : PG X (.Subscript o i pos) (gSub to ti t) := by
 intro pins s σ H v u Q I r h
 rw [ha]
 refine wpAny_bind (wpAny_holding (thn (ho pins s σ H _ I h) fun ov s1 ⟨x, H1, I1, r1, q1⟩ => ?_))
 refine wpAny_bind (wpAny_holding (thn (hi pins s1 σ H1 _ I1 q1) fun iv s2 ⟨y, H2, I2, r2, q2⟩ => ?_))
 refine wpAny_bind (wpAny_standAt (wpAny_bind (wpAny_holding (thn (hs pins s2 σ H2 x y v ov iv u _ I2 r1 r2 r q2) fun _ s3 ⟨H3, I3, q3⟩ => ?_))))
 exact wpAny_release ⟨σ, H3, I3, q3⟩
noncomputable def tAsg (te : TE) (g : TG) : TS := fun D σ H => te σ H fun x H1 => g x σ H1 D.nx
theorem ps_asg {tg e : Expr} {te : TE} {g : TG} (he : PE X e te) (hg : PG X tg g) (hs : swapsWithSole [tg] e pos.line X.env = pure false := by rfl) (hw : swappedStores [tg] e X.env = pure none := by rfl)
  (h1 : (assignEach [tg] X.env).map (·.2) = [assign tg X.env] := by rfl) : PS X (.Assign [tg] e pos) (tAsg te g) := by
 intro pins s σ H D I h
 refine wpAny_Assign_stores (thn (he pins s σ H _ I h) fun v s1 ⟨x, H1, I1, r1, q1⟩ => ?_) hs hw
 rw [h1]
 exact thn (hg pins s1 σ H1 x v _ I1 r1 q1) fun _ s2 q => q
theorem ps_set {i : Nat} {x : Str} {e : Expr} {te : TE} {pos' : Pos} (hN : X.N.Nodup) (hi : X.N[i]? = some x) (hx : Loc X.env.scope x) (he : PE X e te) (hs : swapsWith e (some (.Name x pos')) pos.line X.env = pure false := by rfl) (hf : X.fn x = true ∨ X.env.scope.names.lookup x = some .local := by first | exact .inl rfl | exact .inr rfl | assumption) :
  PS X (.Assign [.Name x pos'] e pos) (tAsg te (gName i)) := by
 intro pins s σ H D I h
 refine wpAny_Assign_Name (thn (he pins s σ H _ I h) fun v s1 ⟨y, H1, I1, r1, q1⟩ => ?_) hs
 exact store_ok I1 hN hi hx r1 (fun s2 I2 => ⟨_, H1, I2, q1⟩) hf
end

section
variable {X : Cx} {pos : Pos}
noncomputable def tWhile (c : TT) (tb : TS) : TS := fun D σ H => ∃ W : Nat → St → Hp → Prop, (∃ m, W m σ H) ∧ ∀ m σ H, W m σ H →
 c σ H fun b H1 => if b = true then ∃ N : St → Hp → Prop, (∀ σ' H', N σ' H' → ∃ m', m' < m ∧ W m' σ' H') ∧ tb { D with nx := N, ct := N, bk := D.nx } σ H1 else D.nx σ H1
theorem ps_while {c : Expr} {body : List Stmt} {tc : TT} {tb : TS} (hp : PassesOwn (model X.prog X.w) X.A X.env X.xe) (hc : PT X c tc) (hb : PSs X body tb) : PS X (.While c body [] pos) (tWhile tc tb) := by
 intro pins s σ H D I h
 obtain ⟨W, ⟨m0, w0⟩, turn⟩ := h
 refine wpAny_While (codeAny_whileLoop (fun n s' => ∃ σ' H', Inv X pins σ' H' s' ∧ W n σ' H') ?_ m0 ⟨σ, H, I, w0⟩)
 rintro n s1 ⟨σ1, H1, I1, w1⟩
 refine wpAny_passesOwn hp (thn (hc pins s1 σ1 H1 _ I1 (turn n σ1 H1 w1)) fun b s2 ⟨H2, I2, q2⟩ => ?_)
 cases b with
 | true =>
  obtain ⟨N, hN, q2⟩ := q2
  rw [if_pos rfl]
  refine wpAny_passesOwn hp (thn (hb pins s2 σ1 H2 _ I2 q2) fun f s3 q3 => ?_)
  cases f with
  | next =>
   obtain ⟨σ3, H3, I3, n3⟩ := q3
   obtain ⟨m', hm, w3⟩ := hN σ3 H3 n3
   exact ⟨m', hm, σ3, H3, I3, w3⟩
  | cont =>
   obtain ⟨σ3, H3, I3, n3⟩ := q3
   obtain ⟨m', hm, w3⟩ := hN σ3 H3 n3
   exact ⟨m', hm, σ3, H3, I3, w3⟩
  | brk => exact q3
  | ret v => exact q3
 | false =>
  rw [if_neg Bool.false_ne_true]
  exact wpAny_execs_nil ⟨σ1, H2, I2, q2⟩
end

structure It where
 go : Nat → Hp → Prop
 yld : Nat → Hp → V → Hp → Prop
 stop : Nat → Hp → Prop
noncomputable def FpOk (X : Cx) (pins : List (Addr × Obj)) (H : Hp) (b : Addr) : Prop :=
 H b = none ∧ b ≠ X.env.locals ∧ b ∉ X.fs ∧ (b ∈ X.ex ∨ X.s₀.heap.objs.size ≤ b) ∧ (∀ x c, X.env.cells.lookup x = some c → c ≠ b) ∧ ∀ p ∈ X.pn ++ pins, p.1 ≠ b
theorem Inv.fpOk {X : Cx} {pins : List (Addr × Obj)} {σ : St} {H H' : Hp} {s : Shared} {b : Addr} (I : Inv X pins σ H s) (hb : s.heap.objs.size ≤ b) (hn : H' b = none) : FpOk X pins H' b := by
 refine ⟨hn, Nat.ne_of_gt (Nat.lt_of_lt_of_le I.lt hb), I.nofs hb, .inr (Nat.le_trans I.sz hb), fun x c e z => ?_, fun p hp z => ?_⟩
 ·obtain ⟨v, q⟩ := I.cell x c e
  exact absurd (Nat.lt_of_lt_of_le q.lt (by rw [z]; exact hb)) (Nat.lt_irrefl _)
 ·exact absurd (Nat.lt_of_lt_of_le (Heap.lt_size (I.pin p hp).1) (by rw [z]; exact hb)) (Nat.lt_irrefl _)
structure Turn (P : Program) (w : World) (K : PySem.W.Frag) (tg : Expr) (J : It) (fp : List Addr) (it : Addr) (tn : Nat → Heap → Prop) : Prop where
 mem : it ∈ fp
 obj : ∀ i h, tn i h → ∀ b ∈ fp, ∃ o, h.get? b = some o ∧ ∀ v, o.data ≠ .cell v
 keep : ∀ i h h', tn i h → (∀ b ∈ fp, ∀ o, h.get? b = some o → h'.get? b = some o) → tn i h'
 item : ∀ (X : Cx), X.prog = P → X.w = w → X.K = K → X.calm = true → ∀ (i : Nat) (pins : List (Addr × Obj)) (s : Shared) (σ : St) (H : Hp) (E : Value → Shared → Prop), Inv X pins σ H s → (∀ b ∈ fp, FpOk X pins H b) → tn i s.heap → J.go i H →
  wpAny (model P w) X.A (pyNext (.ref it)) (fun r s1 => ∃ u, r = some u ∧
   wpAny (model P w) X.A (letOwnedTupleGo tg (.ref it) u) (fun _ s2 => ∃ x H', Inv X pins σ H' s2 ∧ RelV x u ∧ J.yld i H x H' ∧ tn (i + 1) s2.heap ∧ ∀ b ∈ fp, H' b = none) E s1) E s
 done : ∀ (X : Cx), X.prog = P → X.w = w → X.K = K → X.calm = true → ∀ (i : Nat) (pins : List (Addr × Obj)) (s : Shared) (σ : St) (H : Hp) (E : Value → Shared → Prop), Inv X pins σ H s → (∀ b ∈ fp, FpOk X pins H b) → tn i s.heap → J.stop i H →
  wpAny (model P w) X.A (pyNext (.ref it)) (fun r s1 => r = none ∧ Inv X pins σ H s1) E s
 self : ∀ (A : Around) (i : Nat) (s : Shared) (Q : Value → Shared → Prop) (E : Value → Shared → Prop), tn i s.heap → Q (.ref it) s → wpAny (model P w) A (pyIter (.ref it)) Q E s
noncomputable abbrev TI := St → Hp → (It → Hp → Prop) → Prop
noncomputable def PIE (X : Cx) (pins : List (Addr × Obj)) (σ : St) (tg : Expr) (R : It → Hp → Prop) (itv : Value) (s2 : Shared) : Prop :=
 ∃ (it : Addr) (fp : List Addr) (tn : Nat → Heap → Prop) (J : It) (H' : Hp), itv = .ref it ∧ Inv X pins σ H' s2 ∧ Turn X.prog X.w X.K tg J fp it tn ∧ tn 0 s2.heap ∧ (∀ b ∈ fp, FpOk X pins H' b) ∧ R J H'
noncomputable def PI (X : Cx) (tg iter : Expr) (wi : TI) : Prop :=
 ∀ (pins : List (Addr × Obj)) (s : Shared) (σ : St) (H : Hp) (R : It → Hp → Prop), Inv X pins σ H s → wi σ H R →
  wpAny (model X.prog X.w) X.A (eval iter X.env) (fun v s1 => wpAny (model X.prog X.w) X.A (pyIter v) (PIE X pins σ tg R) X.xe s1) X.xe s

theorem go_of {M : Model} {A : Around} {E : Value → Shared → Prop} {s : Shared} {tg : Expr} {it : Addr} {u : Value} {o : Obj} {n : String} {vs : Array Value} {Q : Unit → Shared → Prop} (ho : s.heap.get? it = some o) (hc : o.cls = .type n) (hd : o.data = .fields vs)
    (hn : ["enumerate", "zip", "dict_itemiterator", "dict_reverseitemiterator", "odict_iterator", "itertools.zip_longest", "itertools.pairwise"].contains n = false) (hQ : Q () s) : wpAny M A (letOwnedTupleGo tg (.ref it) u) Q E s := by
  unfold letOwnedTupleGo
  cases tg <;> first
    | exact wpAny_pure hQ
    | (cases u <;> first
        | exact wpAny_pure hQ
        | (refine wpAny_bind (wpAny_load ho ?_)
           rw [hc, hd]
           show wpAny M A (if (["enumerate", "zip", "dict_itemiterator", "dict_reverseitemiterator", "odict_iterator", "itertools.zip_longest", "itertools.pairwise"].contains n && vs[0]? == some (rawInt _)) = true then _ else _) Q E s
           rw [if_neg (by intro h; rw [hn, Bool.false_and] at h; cases h)]
           exact wpAny_pure hQ))

noncomputable def Itl (K : PySem.W.Frag) (a : Addr) : It :=
 ⟨fun i H => ∃ xs x, SqL K H a xs ∧ xs[i]? = some x, fun i H x H' => H' = H ∧ ∀ xs, SqL K H a xs → xs[i]? = some x, fun i H => ∃ xs, SqL K H a xs ∧ xs.length ≤ i⟩
noncomputable def Itt (K : PySem.W.Frag) (a : Addr) : It :=
 ⟨fun i H => ∃ xs x, SqT K H a xs ∧ xs[i]? = some x, fun i H x H' => H' = H ∧ ∀ xs, SqT K H a xs → xs[i]? = some x, fun i H => ∃ xs, SqT K H a xs ∧ xs.length ≤ i⟩
noncomputable def Itr (lo : Int) (n : Nat) : It := ⟨fun i _ => i < n, fun i H x H' => H' = H ∧ x = .int (lo + i), fun i _ => n ≤ i⟩
theorem turn_list {P : Program} {w : World} {K : PySem.W.Frag} {tg : Expr} (a it : Addr) : Turn P w K tg (Itl K a) [it] it (fun i h => h.IsListIter it a i) where
 mem := by simp
 obj := fun i h st b hb => by
  have e : b = it := by simpa using hb
  subst e
  obtain ⟨o, e, c, d⟩ := st
  exact ⟨o, e, fun v z => by rw [d] at z; cases z⟩
 keep := fun i h h' st k => st.at fun o e => k it (by simp) o e
 item := by
  intro X hP hw hK hc i pins s σ H E I hf st hg
  subst hP hw hK
  obtain ⟨xs, x, hq, hx⟩ := hg
  obtain ⟨its, rv, p, hz⟩ := I.list hq
  obtain ⟨u, hu, ru⟩ := rv.get hx
  obtain ⟨f0, f1, f2, f3, f4, f5⟩ := hf it (by simp)
  refine wpAny_pyNext_list_item st p.isList (x := u) (by simpa using hu) fun h' st' sb => ?_
  have I1 : Inv X pins σ H { s with heap := h' } := I.turned (t' := s.toks) (fun b o hb e => (sb.2 b hb).trans e) f0 f1 f3 f4 f5
  obtain ⟨o, e, c, d⟩ := id st'
  exact ⟨u, rfl, go_of (s := { s with heap := h' }) e c d (by decide) ⟨x, H, I1, ru, ⟨rfl, fun ys hy => by rw [I.list_inj hy hq]; exact hx⟩, st', fun b hb => (hf b hb).1⟩⟩
 done := by
  intro X hP hw hK hc i pins s σ H E I hf st hg
  subst hP hw hK
  obtain ⟨xs, hq, hx⟩ := hg
  obtain ⟨its, rv, p, hz⟩ := I.list hq
  obtain ⟨f0, f1, f2, f3, f4, f5⟩ := hf it (by simp)
  have hl := rv.length
  exact wpAny_pyNext_list_end (I.ok.hd hc) st p.isList (by simp; omega) fun h' eb => ⟨rfl, I.turned (t' := s.toks) (fun b o hb e => eb b o hb e) f0 f1 f3 f4 f5⟩
 self := fun _ _ _ _ _ st h => wpAny_pyIter_listiter st h
theorem turn_tuple {P : Program} {w : World} {K : PySem.W.Frag} {tg : Expr} (a it : Addr) : Turn P w K tg (Itt K a) [it] it (fun i h => h.IsTupleIter it a i) where
 mem := by simp
 obj := fun i h st b hb => by
  have e : b = it := by simpa using hb
  subst e
  obtain ⟨o, e, c, d⟩ := st
  exact ⟨o, e, fun v z => by rw [d] at z; cases z⟩
 keep := fun i h h' st k => st.at fun o e => k it (by simp) o e
 item := by
  intro X hP hw hK hc i pins s σ H E I hf st hg
  subst hP hw hK
  obtain ⟨xs, x, hq, hx⟩ := hg
  obtain ⟨its, rv, p, hz⟩ := I.tuple hq
  obtain ⟨u, hu, ru⟩ := rv.get hx
  obtain ⟨f0, f1, f2, f3, f4, f5⟩ := hf it (by simp)
  refine wpAny_pyNext_tuple_item st (show s.heap.IsTuple a its.toArray from p) (x := u) (by simpa using hu) fun h' st' sb => ?_
  have I1 : Inv X pins σ H { s with heap := h' } := I.turned (t' := s.toks) (fun b o hb e => (sb.2 b hb).trans e) f0 f1 f3 f4 f5
  obtain ⟨o, e, c, d⟩ := id st'
  exact ⟨u, rfl, go_of (s := { s with heap := h' }) e c d (by decide) ⟨x, H, I1, ru, ⟨rfl, fun ys hy => by rw [I.tuple_inj hy hq]; exact hx⟩, st', fun b hb => (hf b hb).1⟩⟩
 done := by
  intro X hP hw hK hc i pins s σ H E I hf st hg
  subst hP hw hK
  obtain ⟨xs, hq, hx⟩ := hg
  obtain ⟨its, rv, p, hz⟩ := I.tuple hq
  obtain ⟨f0, f1, f2, f3, f4, f5⟩ := hf it (by simp)
  have hl := rv.length
  exact wpAny_pyNext_tuple_end (I.ok.hd hc) st (show s.heap.IsTuple a its.toArray from p) (by simp; omega) fun h' eb => ⟨rfl, I.turned (t' := s.toks) (fun b o hb e => eb b o hb e) f0 f1 f3 f4 f5⟩
 self := fun _ _ _ _ _ st h => wpAny_pyIter_tupleiter st h
theorem turn_range {P : Program} {w : World} {K : PySem.W.Frag} {tg : Expr} (it : Addr) (lo : Int) (n : Nat) : Turn P w K tg (Itr lo n) [it] it (fun i h => IsRangeIter h it (lo + (i : Nat) * 1) ((n : Int) - (i : Nat)) 1) where
 mem := by simp
 obj := fun i h st b hb => by
  have e : b = it := by simpa using hb
  subst e
  exact ⟨_, st, fun v z => by
   have z' : Data.fields _ = Data.cell v := z
   cases z'⟩
 keep := fun i h h' st k => k it (by simp) _ st
 item := by
  intro X hP hw hK hc i pins s σ H E I hf st hg
  subst hP hw hK
  obtain ⟨f0, f1, f2, f3, f4, f5⟩ := hf it (by simp)
  have W := Walks.range (prog := X.prog) (w := X.w) (I.ok.hd hc) it lo 1 n
  refine W.item i s _ _ hg st fun v h' tk hv st' kk => ?_
  obtain ⟨t, rfl⟩ := hv
  have I1 : Inv X pins σ H { s with heap := h', toks := tk } := I.turned (fun b o hb e => kk b o (by simpa using hb) e) f0 f1 f3 f4 f5
  refine ⟨_, rfl, go_of (s := { s with heap := h', toks := tk }) (n := "range_iterator") st' rfl rfl (by decide) ⟨.int (lo + i), H, I1, ⟨t, ?_⟩, ⟨rfl, rfl⟩, st', fun b hb => (hf b hb).1⟩⟩
  rw [Int.mul_one]
 done := by
  intro X hP hw hK hc i pins s σ H E I hf st hg
  subst hP hw hK
  obtain ⟨f0, f1, f2, f3, f4, f5⟩ := hf it (by simp)
  exact wpAny_pyNext_range_end (I.ok.hd hc) st (by have : n ≤ i := hg; omega) fun h' eb => ⟨rfl, I.turned (t' := s.toks) (fun b o hb e => eb b o hb e) f0 f1 f3 f4 f5⟩
 self := fun _ _ _ _ _ st h => wpAny_pyIter_rangeiter st h
end L2

namespace L2
open PySem PySem.Spec PyProof.Rows
section
variable {X : Cx} {tg : Expr}
noncomputable def iList (K : PySem.W.Frag) (tl : TE) : TI := fun σ H R => tl σ H fun x H1 => ∃ a, x = .ref a ∧ (∃ xs, SqL K H1 a xs) ∧ R (Itl K a) H1
noncomputable def iTup (K : PySem.W.Frag) (tl : TE) : TI := fun σ H R => tl σ H fun x H1 => ∃ a, x = .ref a ∧ (∃ xs, SqT K H1 a xs) ∧ R (Itt K a) H1
theorem pi_list {l : Expr} {tl : TE} (hl : PE X l tl) : PI X tg l (iList X.K tl) := by
 intro pins s σ H R I h
 refine thn (hl pins s σ H _ I h) fun v s1 ⟨x, H1, I1, r1, q1⟩ => ?_
 obtain ⟨a, e, ⟨xs, hq⟩, q⟩ := q1
 subst e
 cases r1
 obtain ⟨its, rv, p, hz⟩ := I1.list hq
 refine wpAny_pyIter_list p.isList ?_
 refine ⟨s1.heap.objs.size, [s1.heap.objs.size], _, _, H1, rfl, I1.kept (t' := s1.toks) fun b o e => Heap.get?_push_of_some _ e, turn_list a _, ⟨_, Heap.get?_push_size _ rfl, rfl, rfl⟩, fun b hb => ?_, q⟩
 have e : b = s1.heap.objs.size := by simpa using hb
 subst e
 exact I1.fpOk (Nat.le_refl _) (I1.hok.fresh (Nat.le_refl _))
theorem pi_tup {l : Expr} {tl : TE} (hl : PE X l tl) : PI X tg l (iTup X.K tl) := by
 intro pins s σ H R I h
 refine thn (hl pins s σ H _ I h) fun v s1 ⟨x, H1, I1, r1, q1⟩ => ?_
 obtain ⟨a, e, ⟨xs, hq⟩, q⟩ := q1
 subst e
 cases r1
 obtain ⟨its, rv, p, hz⟩ := I1.tuple hq
 refine wpAny_pyIter_tuple (show s1.heap.IsTuple a its.toArray from p) ?_
 refine ⟨s1.heap.objs.size, [s1.heap.objs.size], _, _, H1, rfl, I1.kept (t' := s1.toks) fun b o e => Heap.get?_push_of_some _ e, turn_tuple a _, ⟨_, Heap.get?_push_size _ rfl, rfl, rfl⟩, fun b hb => ?_, q⟩
 have e : b = s1.heap.objs.size := by simpa using hb
 subst e
 exact I1.fpOk (Nat.le_refl _) (I1.hok.fresh (Nat.le_refl _))
theorem range_it {pins : List (Addr × Obj)} {σ : St} {H : Hp} {s : Shared} {R : It → Hp → Prop} {E : Value → Shared → Prop} {lo hi : Int} {t u v : Tok} {tk : Nat} (I : Inv X pins σ H s) (h1 : -(2 ^ 62) ≤ lo) (h2 : lo < 2 ^ 62) (h3 : -(2 ^ 62) ≤ hi) (h4 : hi < 2 ^ 62)
  (q : R (Itr lo (hi - lo).toNat) H) : wpAny (model X.prog X.w) X.A (pyIter (.ref s.heap.objs.size)) (PIE X pins σ tg R) E { s with heap := s.heap.push { cls := .type "range", data := .fields #[.int lo t, .int hi u, .int 1 v] }, toks := tk } := by
 refine wpAny_pyIter_range (IsRange.new ..) (small_one h1 h2 h3 h4) ?_
 have I1 : Inv X pins σ H { s with heap := s.heap.push { cls := .type "range", data := .fields #[.int lo t, .int hi u, .int 1 v] }, toks := tk } := I.kept fun b o e => Heap.get?_push_of_some _ e
 refine ⟨(s.heap.push { cls := .type "range", data := .fields #[.int lo t, .int hi u, .int 1 v] }).objs.size, [(s.heap.push { cls := .type "range", data := .fields #[.int lo t, .int hi u, .int 1 v] }).objs.size], _, _, H, rfl,
  I1.kept (t' := tk) fun b o e => Heap.get?_push_of_some _ e, turn_range _ lo (hi - lo).toNat, ?_, fun b hb => ?_, q⟩
 ·have e1 : lo + ((0 : Nat) : Int) * 1 = lo := by simp
  have e2 : (((hi - lo).toNat : Nat) : Int) - ((0 : Nat) : Int) = Builtin.Range.rangeSize lo hi 1 := by rw [rangeSize_one]; split <;> omega
  show IsRangeIter _ _ (lo + ((0 : Nat) : Int) * 1) ((((hi - lo).toNat : Nat) : Int) - ((0 : Nat) : Int)) 1
  rw [e1, e2]
  exact Heap.get?_push_size _ rfl
 ·have e : b = (s.heap.push { cls := .type "range", data := .fields #[.int lo t, .int hi u, .int 1 v] }).objs.size := by simpa using hb
  subst e
  exact I1.fpOk (Nat.le_refl _) (I1.hok.fresh (Nat.le_refl _))
noncomputable def iRng1 (ta : TA) : TI := fun σ H R => ta σ H fun vs H1 => ∃ j : Int, vs = [.int j] ∧ -(2 ^ 62) ≤ j ∧ j < 2 ^ 62 ∧ R (Itr 0 j.toNat) H1
theorem pi_range1 {a : Expr} {ta : TA} {p pos : Pos} (hg : Gl X "range") (hm : X.mg "range" = none) (ha : PA X [a] ta) (hs : starEach [a] X.env = [(false, eval a X.env)] := by rfl) : PI X tg (.Call (.Name "range" p) [a] [] pos) (iRng1 ta) := by
 intro pins s σ H R I h
 refine Call_ (ld_blt I hg hm boot_range (PyProof.Rows.callWith_type1 (thn (ha pos pins s σ H _ I h) fun us s1 ⟨vs, H1, I1, r1, q1⟩ => ?_) hs rfl))
 obtain ⟨j, e, q1, q2, q⟩ := q1
 subst e
 cases r1 with
 | cons r rr =>
  cases rr
  obtain ⟨t, rfl⟩ := r
  exact call_range_1 (range_it I1 (by omega) (by omega) q1 q2 (by simpa using q))

noncomputable def tFor (wi : TI) (g : TG) (tb : TS) : TS := fun D σ H => wi σ H fun J H1 => ∃ W : Nat → Nat → St → Hp → Prop, (∃ m, W 0 m σ H1) ∧ ∀ i m σ H, W i m σ H →
 (J.stop i H ∧ D.nx σ H) ∨ (J.go i H ∧ ∃ N : St → Hp → Prop, (∀ σ' H', N σ' H' → ∃ m', m' < m ∧ W (i + 1) m' σ' H') ∧ ∀ x H', J.yld i H x H' → g x σ H' fun σ2 H2 => tb { D with nx := N, ct := N, bk := D.nx } σ2 H2)
noncomputable def pinsAt (fp : List Addr) (h : Heap) : List (Addr × Obj) := fp.filterMap fun b => (h.get? b).map fun o => (b, o)
theorem mem_pinsAt {fp : List Addr} {h : Heap} {b : Addr} {o : Obj} (hb : b ∈ fp) (e : h.get? b = some o) : (b, o) ∈ pinsAt fp h := List.mem_filterMap.mpr ⟨b, hb, by rw [e]; rfl⟩
theorem of_pinsAt {fp : List Addr} {h : Heap} {p : Addr × Obj} (hp : p ∈ pinsAt fp h) : p.1 ∈ fp ∧ h.get? p.1 = some p.2 := by
 obtain ⟨b, hb, e⟩ := List.mem_filterMap.mp hp
 cases q : h.get? b with
 | none => rw [q] at e; cases e
 | some o =>
  rw [q] at e
  have e' : (b, o) = p := Option.some.inj e
  subst e'
  exact ⟨hb, q⟩
theorem Inv.pinned {pins : List (Addr × Obj)} {σ : St} {H : Hp} {s : Shared} {fp : List Addr} (I : Inv X pins σ H s) (hf : ∀ b ∈ fp, FpOk X pins H b) (ho : ∀ b ∈ fp, ∃ o, s.heap.get? b = some o ∧ ∀ v, o.data ≠ .cell v) : Inv X (pins ++ pinsAt fp s.heap) σ H s :=
 I.pins_of fun p hp => (List.mem_append.mp hp).elim (fun z => I.pin p (List.mem_append_right _ z)) fun z => by
  obtain ⟨hb, e⟩ := of_pinsAt z
  obtain ⟨f0, f1, f2, _⟩ := hf p.1 hb
  obtain ⟨o, e', d⟩ := ho p.1 hb
  rw [e] at e'; cases e'
  exact ⟨e, f0, f1, f2, d⟩
theorem Inv.unpinned {pins pl : List (Addr × Obj)} {σ : St} {H : Hp} {s : Shared} (I : Inv X (pins ++ pl) σ H s) : Inv X pins σ H s := I.pins_of fun p hp => I.pin p (List.mem_append_right _ (List.mem_append_left _ hp))
theorem ps_for {iter : Expr} {body : List Stmt} {wi : TI} {g : TG} {tb : TS} {pos : Pos} (hp : PassesOwn (model X.prog X.w) X.A X.env X.xe) (hc : X.calm = true) (hi : PI X tg iter wi) (hg : PG X tg g) (hb : PSs X body tb)
  (hs : ∀ x, foldedSetIterable iter X.env x = pure x := by intro _; rfl) : PS X (.For tg iter body [] pos) (tFor wi g tb) := by
 intro pins s σ H D I h
 refine wpAny_For (thn (hi pins s σ H _ I h) fun v s1 h1 => thn h1 fun itv s2 h2 => ?_) hs
 obtain ⟨it, fp, tn, J, H2, e, I2, T, st2, f2, W, ⟨m0, w0⟩, turn⟩ := h2
 subst e
 have stat : ∀ {H' : Hp}, (∀ b ∈ fp, H' b = none) → ∀ b ∈ fp, FpOk X pins H' b := fun hn b hb => ⟨hn b hb, (f2 b hb).2⟩
 refine codeAny_forLoop_any (fun n s' => ∃ i σ' H', Inv X pins σ' H' s' ∧ tn i s'.heap ∧ (∀ b ∈ fp, H' b = none) ∧ W i n σ' H') ?_ m0 ⟨0, σ, H2, I2, st2, fun b hb => (f2 b hb).1, w0⟩
 rintro n s3 ⟨i, σ3, H3, I3, st3, fr3, w3⟩
 rcases turn i n σ3 H3 w3 with ⟨stop, qn⟩ | ⟨go, N, hN, step⟩
 ·refine wpAny_passesOwn hp (thn (T.done X rfl rfl rfl hc i pins s3 σ3 H3 X.xe I3 (stat fr3) st3 stop) fun r s4 ⟨hr, I4⟩ => ?_)
  subst hr
  exact wpAny_execs_nil ⟨σ3, H3, I4, qn⟩
 ·refine wpAny_passesOwn hp (thn (T.item X rfl rfl rfl hc i pins s3 σ3 H3 X.xe I3 (stat fr3) st3 go) fun r s4 ⟨u, hr, h4⟩ => ?_)
  subst hr
  refine wpAny_passesOwn hp (thn h4 fun _ s5 ⟨x, H5, I5, r5, y5, st5, fr5⟩ => ?_)
  have I5' := I5.pinned (stat fr5) (T.obj _ _ st5)
  refine wpAny_passesOwn hp (thn (hg _ s5 σ3 H5 x u _ I5' r5 (step x H5 y5)) fun _ s6 ⟨σ6, H6, I6, q6⟩ => ?_)
  refine wpAny_passesOwn hp (thn (hb _ s6 σ6 H6 _ I6 q6) fun f s7 q7 => ?_)
  have again : ∀ {σ7 : St} {H7 : Hp}, Inv X (pins ++ pinsAt fp s5.heap) σ7 H7 s7 → N σ7 H7 → ∃ m, m < n ∧ ∃ i σ' H', Inv X pins σ' H' s7 ∧ tn i s7.heap ∧ (∀ b ∈ fp, H' b = none) ∧ W i m σ' H' := fun {σ7 H7} I7 n7 => by
   obtain ⟨m', hm, w7⟩ := hN σ7 H7 n7
   refine ⟨m', hm, i + 1, σ7, H7, I7.unpinned, T.keep _ _ _ st5 fun b hb o e => (I7.pin (b, o) (List.mem_append_right _ (List.mem_append_right _ (mem_pinsAt hb e)))).1, fun b hb => ?_, w7⟩
   obtain ⟨o, e, d⟩ := T.obj _ _ st5 b hb
   exact (I7.pin (b, o) (List.mem_append_right _ (List.mem_append_right _ (mem_pinsAt hb e)))).2.1
  cases f with
  | next => obtain ⟨σ7, H7, I7, n7⟩ := q7; exact again I7 n7
  | cont => obtain ⟨σ7, H7, I7, n7⟩ := q7; exact again I7 n7
  | brk => obtain ⟨σ7, H7, I7, q7⟩ := q7; exact ⟨σ7, H7, I7.unpinned, q7⟩
  | ret v => obtain ⟨x7, σ7, H7, I7, r7, q7⟩ := q7; exact ⟨x7, σ7, H7, I7.unpinned, r7, q7⟩
end

end L2

namespace L2
open PySem PySem.Spec PyProof.Rows

noncomputable abbrev R2 := V → V → Hp → VK → Prop
noncomputable def OpR (X : Cx) (f : Value → Value → Sem Value) (r : R2) : Prop :=
 ∀ (pins : List (Addr × Obj)) (s : Shared) (σ : St) (H : Hp) (x y : V) (v u : Value) (Q : VK), Inv X pins σ H s → RelV x v → RelV y u → r x y H Q →
  wpAny (model X.prog X.w) X.A (f v u) (EP X pins σ Q) X.xe s
noncomputable def UnR (X : Cx) (f : Value → Sem Value) (r : V → Hp → VK → Prop) : Prop :=
 ∀ (pins : List (Addr × Obj)) (s : Shared) (σ : St) (H : Hp) (x : V) (v : Value) (Q : VK), Inv X pins σ H s → RelV x v → r x H Q →
  wpAny (model X.prog X.w) X.A (f v) (EP X pins σ Q) X.xe s
noncomputable def CallR (X : Cx) (f : Value) (r : List V → Hp → VK → Prop) : Prop :=
 ∀ (pins : List (Addr × Obj)) (s : Shared) (σ : St) (H : Hp) (xs : List V) (us : List Value) (Q : VK), Inv X pins σ H s → Vals xs us → r xs H Q →
  wpAny (model X.prog X.w) X.A (call f us) (EP X pins σ Q) X.xe s

noncomputable def tOp (r : R2) (ta tb : TE) : TE := fun σ H Q => ta σ H fun x H1 => tb σ H1 fun y H2 => r x y H2 Q
noncomputable def tUn (r : V → Hp → VK → Prop) (ta : TE) : TE := fun σ H Q => ta σ H fun x H1 => r x H1 Q
noncomputable def rI (C : Int → Int → Prop) (g : Int → Int → V) : R2 := fun x y H Q => ∃ i j, x = .int i ∧ y = .int j ∧ C i j ∧ Q (g i j) H
noncomputable def rI0 (g : Int → Int → V) : R2 := fun x y H Q => ∃ i j, x = .int i ∧ y = .int j ∧ Q (g i j) H
noncomputable def rU (g : Int → V) : V → Hp → VK → Prop := fun x H Q => ∃ i, x = .int i ∧ Q (g i) H

section
variable {X : Cx} {a b c : Expr} {ta tb tc : TE} {pos : Pos}

theorem binT (ha : PE X a ta) (hb : PE X b tb) {pins : List (Addr × Obj)} {s : Shared} {σ : St} {H : Hp} {R : V → V → Hp → Prop} (I : Inv X pins σ H s)
  (h : ta σ H fun x H1 => tb σ H1 fun y H2 => R x y H2) {Q : Value → Shared → Prop} {f : Value → Value → Sem Value}
  (hf : ∀ v u s2 x y H2, Inv X pins σ H2 s2 → RelV x v → RelV y u → R x y H2 → wpAny (model X.prog X.w) X.A (f v u) Q X.xe s2) :
  wpAny (model X.prog X.w) X.A (eval a X.env) (fun v s₁ => wpAny (model X.prog X.w) X.A (eval b X.env) (fun u s₂ => wpAny (model X.prog X.w) X.A (f v u) Q X.xe s₂) X.xe s₁) X.xe s := by
 refine thn (ha pins s σ H _ I h) fun v s1 ⟨x, H1, I1, r1, q1⟩ => ?_
 refine thn (hb pins s1 σ H1 _ I1 q1) fun u s2 ⟨y, H2, I2, r2, q2⟩ => ?_
 exact hf v u s2 x y H2 I2 r1 r2 q2

theorem pe_op {op : Operator} {r : R2} (ho : OpR X (binaryOp op) r) (ha : PE X a ta) (hb : PE X b tb) : PE X (.BinOp a op b pos) (tOp r ta tb) := by
 intro pins s σ H Q I h
 exact wpAny_BinOp (binT ha hb I h fun v u s2 x y H2 I2 rx ry q => ho pins s2 σ H2 x y v u Q I2 rx ry q)
theorem pe_un {op : UnaryOp} {r : V → Hp → VK → Prop} (ho : UnR X (unaryOp op) r) (ha : PE X a ta) : PE X (.UnaryOp op a pos) (tUn r ta) := by
 intro pins s σ H Q I h
 exact UnaryOp_ (thn (ha pins s σ H _ I h) fun v s1 ⟨x, H1, I1, r1, q1⟩ => ho pins s1 σ H1 x v Q I1 r1 q1)

theorem opI {f : Value → Value → Sem Value} {C : Int → Int → Prop} {g : Int → Int → Int}
  (rule : ∀ (i j : Int) (t u : Tok) (s : Shared) (Q : Value → Shared → Prop) (E : Value → Shared → Prop), C i j → Q (.int (g i j) s.toks) { s with toks := s.toks + 1 } → wpAny (model X.prog X.w) X.A (f (.int i t) (.int j u)) Q E s) :
  OpR X f (rI C fun i j => .int (g i j)) := by
 intro pins s σ H x y v u Q I rx ry h
 obtain ⟨i, j, rfl, rfl, hc, q⟩ := h
 obtain ⟨t, rfl⟩ := rx
 obtain ⟨t', rfl⟩ := ry
 exact rule i j t t' s _ _ hc ⟨.int (g i j), H, I.tok _, ⟨_, rfl⟩, q⟩
theorem opI0 {f : Value → Value → Sem Value} {g : Int → Int → Int}
  (rule : ∀ (i j : Int) (t u : Tok) (s : Shared) (Q : Value → Shared → Prop) (E : Value → Shared → Prop), Q (.int (g i j) s.toks) { s with toks := s.toks + 1 } → wpAny (model X.prog X.w) X.A (f (.int i t) (.int j u)) Q E s) :
  OpR X f (rI0 fun i j => .int (g i j)) := by
 intro pins s σ H x y v u Q I rx ry h
 obtain ⟨i, j, rfl, rfl, q⟩ := h
 obtain ⟨t, rfl⟩ := rx
 obtain ⟨t', rfl⟩ := ry
 exact rule i j t t' s _ _ ⟨.int (g i j), H, I.tok _, ⟨_, rfl⟩, q⟩

noncomputable def CDiv (i j : Int) : Prop := 0 < j ∧ j < 1073741824
noncomputable def CPow (i j : Int) : Prop := 0 ≤ j ∧ j ≤ 1000000 ∧ i.natAbs < 2 ^ 64
noncomputable def CMul (i j : Int) : Prop := (-(2 ^ 64) < i ∧ i < 2 ^ 64) ∨ (-(2 ^ 64) < j ∧ j < 2 ^ 64)
theorem CMul.ok {i j : Int} (h : CMul i j) : IntMulOk i j := by
 rcases h with ⟨h1, h2⟩ | ⟨h1, h2⟩
 ·exact .of_left (intBits_le_64 h1 h2)
 ·exact .of_right (intBits_le_64 h1 h2)

theorem op_add : OpR X (binaryOp .Add) (rI0 fun i j => .int (i + j)) := opI0 fun _ _ _ _ _ _ _ q => add_int q
theorem op_sub : OpR X (binaryOp .Sub) (rI0 fun i j => .int (i - j)) := opI0 fun _ _ _ _ _ _ _ q => sub_int q
theorem op_mul : OpR X (binaryOp .Mult) (rI CMul fun i j => .int (i * j)) := opI fun _ _ _ _ _ _ _ hc q => mul_int q hc.ok
theorem op_fdiv : OpR X (binaryOp .FloorDiv) (rI CDiv fun i j => .int (i / j)) := opI fun i j _ _ _ _ _ hc q => by
 have h1 : (0 : Int) < j := hc.1
 have h2 : j < 1073741824 := hc.2
 exact floordiv_int (by omega) (by rw [Int.fdiv_eq_ediv_of_nonneg i (by omega)]; exact q) (.inl (PyProof.noPylong_small (by omega)))
theorem op_mod : OpR X (binaryOp .Mod) (rI (fun _ j => 0 < j) fun i j => .int (i % j)) := opI fun i j _ _ _ _ _ hc q => by
 have h1 : (0 : Int) < j := hc
 exact mod_int' (by omega) (by rw [Int.fmod_eq_emod_of_nonneg i (by omega)]; exact q)
theorem op_pow : OpR X (binaryOp .Pow) (rI CPow fun i j => .int (i ^ j.toNat)) := opI fun _ _ _ _ _ _ _ hc q => pow_int_small hc.1 hc.2.1 hc.2.2 q


theorem unI {f : Value → Sem Value} {g : Int → Int}
  (rule : ∀ (i : Int) (t : Tok) (s : Shared) (Q : Value → Shared → Prop) (E : Value → Shared → Prop), Q (.int (g i) s.toks) { s with toks := s.toks + 1 } → wpAny (model X.prog X.w) X.A (f (.int i t)) Q E s) :
  UnR X f (rU fun i => .int (g i)) := by
 intro pins s σ H x v Q I rx h
 obtain ⟨i, rfl, q⟩ := h
 obtain ⟨t, rfl⟩ := rx
 exact rule i t s _ _ ⟨.int (g i), H, I.tok _, ⟨_, rfl⟩, q⟩
theorem un_neg : UnR X (unaryOp .USub) (rU fun i => .int (-i)) := unI fun _ _ _ _ _ q => neg_int q

end

noncomputable def scal : V → V → Bool
 | .non, .non => true | .non, .int _ => true | .int _, .non => true | .non, .bl _ => true | .bl _, .non => true | .non, .str _ => true | .str _, .non => true
 | .int _, .int _ => true | .bl _, .bl _ => true | .str _, .str _ => true | .byt _, .byt _ => true
 | .int _, .str _ => true | .str _, .int _ => true | .bl _, .str _ => true | .str _, .bl _ => true
 | _, _ => false
noncomputable def rEq : R2 := fun x y H Q => scal x y = true ∧ Q (.bl (decide (x = y))) H
noncomputable def rNe : R2 := fun x y H Q => scal x y = true ∧ Q (.bl (!decide (x = y))) H

theorem dec_int {i j : Int} : decide (V.int i = V.int j) = (i == j) := by
 rw [Bool.eq_iff_iff]
 simp
theorem dec_bl {i j : Bool} : decide (V.bl i = V.bl j) = (i == j) := by
 rw [Bool.eq_iff_iff]
 simp
theorem dec_str {i j : Str} : decide (V.str i = V.str j) = (i == j) := by
 rw [Bool.eq_iff_iff]
 simp
theorem dec_byt {i j : Array UInt8} : decide (V.byt i = V.byt j) = (i.toList == j.toList) := by
 rw [Bool.eq_iff_iff]
 cases i
 cases j
 simp

section
variable {X : Cx} {a b c : Expr} {ta tb tc : TE} {pos : Pos}
theorem fin_bl {pins : List (Addr × Obj)} {σ : St} {H : Hp} {s : Shared} {Q : VK} {k k' : Bool} (I : Inv X pins σ H s) (q : Q (.bl k) H) (e : k = k') : EP X pins σ Q (.bool k') s := by
 subst e
 exact ⟨.bl k, H, I, rfl, q⟩
theorem op_eq : OpR X (compareOp .Eq) rEq := by
 intro pins s σ H x y v u Q I rx ry h
 obtain ⟨hs, q⟩ := h
 cases x with
 | non =>
  cases rx
  cases y with
  | non => cases ry; exact PySem.EqNone.eq_none_none (fin_bl I q (by simp))
  | bl j => cases ry; exact PySem.EqNone.eq_none_bool (fin_bl I q (by simp))
  | int j => obtain ⟨t', rfl⟩ := ry; exact PySem.EqNone.eq_none_int (fin_bl I q (by simp))
  | str j => obtain ⟨t', rfl⟩ := ry; exact PySem.EqNone.eq_none_str (fin_bl I q (by simp))
  | _ => exact absurd (show false = true from hs) Bool.false_ne_true
 | bl i =>
  cases rx
  cases y with
  | non => cases ry; exact PySem.EqNone.eq_bool_none (fin_bl I q (by simp))
  | bl j => cases ry; exact eq_bool (fin_bl I q dec_bl)
  | str j => obtain ⟨t', rfl⟩ := ry; exact PySem.EqMixed.eq_bool_str (fin_bl I q (by simp))
  | _ => exact absurd (show false = true from hs) Bool.false_ne_true
 | int i =>
  obtain ⟨t, rfl⟩ := rx
  cases y with
  | non => cases ry; exact PySem.EqNone.eq_int_none (fin_bl I q (by simp))
  | int j => obtain ⟨t', rfl⟩ := ry; exact eq_int (fin_bl I q dec_int)
  | str j => obtain ⟨t', rfl⟩ := ry; exact PySem.EqMixed.eq_int_str (fin_bl I q (by simp))
  | _ => exact absurd (show false = true from hs) Bool.false_ne_true
 | str i =>
  obtain ⟨t, rfl⟩ := rx
  cases y with
  | non => cases ry; exact PySem.EqNone.eq_str_none (fin_bl I q (by simp))
  | bl j => cases ry; exact PySem.EqMixed.eq_str_bool (fin_bl I q (by simp))
  | int j => obtain ⟨t', rfl⟩ := ry; exact PySem.EqMixed.eq_str_int (fin_bl I q (by simp))
  | str j => obtain ⟨t', rfl⟩ := ry; exact eq_str (fin_bl I q dec_str)
  | _ => exact absurd (show false = true from hs) Bool.false_ne_true
 | byt i =>
  obtain ⟨t, rfl⟩ := rx
  cases y with
  | byt j => obtain ⟨t', rfl⟩ := ry; exact PySem.W.eq_bytes (fin_bl I q dec_byt)
  | _ => exact absurd (show false = true from hs) Bool.false_ne_true
 | _ => cases y <;> exact absurd (show false = true from hs) Bool.false_ne_true
theorem op_ne : OpR X (compareOp .NotEq) rNe := by
 intro pins s σ H x y v u Q I rx ry h
 obtain ⟨hs, q⟩ := h
 cases x with
 | non =>
  cases rx
  cases y with
  | non => cases ry; exact PySem.EqNone.ne_none_none (fin_bl I q (by simp))
  | bl j => cases ry; exact PySem.EqNone.ne_none_bool (fin_bl I q (by simp))
  | int j => obtain ⟨t', rfl⟩ := ry; exact PySem.EqNone.ne_none_int (fin_bl I q (by simp))
  | str j => obtain ⟨t', rfl⟩ := ry; exact PySem.EqNone.ne_none_str (fin_bl I q (by simp))
  | _ => exact absurd (show false = true from hs) Bool.false_ne_true
 | bl i =>
  cases rx
  cases y with
  | non => cases ry; exact PySem.EqNone.ne_bool_none (fin_bl I q (by simp))
  | bl j => cases ry; exact ne_bool (fin_bl I q (congrArg not dec_bl))
  | str j => obtain ⟨t', rfl⟩ := ry; exact PySem.EqMixed.ne_bool_str (fin_bl I q (by simp))
  | _ => exact absurd (show false = true from hs) Bool.false_ne_true
 | int i =>
  obtain ⟨t, rfl⟩ := rx
  cases y with
  | non => cases ry; exact PySem.EqNone.ne_int_none (fin_bl I q (by simp))
  | int j => obtain ⟨t', rfl⟩ := ry; exact ne_int (fin_bl I q (congrArg not dec_int))
  | str j => obtain ⟨t', rfl⟩ := ry; exact PySem.EqMixed.ne_int_str (fin_bl I q (by simp))
  | _ => exact absurd (show false = true from hs) Bool.false_ne_true
 | str i =>
  obtain ⟨t, rfl⟩ := rx
  cases y with
  | non => cases ry; exact PySem.EqNone.ne_str_none (fin_bl I q (by simp))
  | bl j => cases ry; exact PySem.EqMixed.ne_str_bool (fin_bl I q (by simp))
  | int j => obtain ⟨t', rfl⟩ := ry; exact PySem.EqMixed.ne_str_int (fin_bl I q (by simp))
  | str j => obtain ⟨t', rfl⟩ := ry; exact ne_str (fin_bl I q (congrArg not dec_str))
  | _ => exact absurd (show false = true from hs) Bool.false_ne_true
 | byt i =>
  obtain ⟨t, rfl⟩ := rx
  cases y with
  | byt j => obtain ⟨t', rfl⟩ := ry; exact PySem.W.ne_bytes (fin_bl I q (congrArg not dec_byt))
  | _ => exact absurd (show false = true from hs) Bool.false_ne_true
 | _ => cases y <;> exact absurd (show false = true from hs) Bool.false_ne_true





theorem pe_cmpR {op : CmpOp} {r : R2} (ho : OpR X (compareOp op) r) (ha : PE X a ta) (hb : PE X b tb) (hm : behindInMarks op b = false) : PE X (.Compare a [op] [b] pos) (tOp r ta tb) := by
 intro pins s σ H Q I h
 exact wpAny_Compare1 (binT ha hb I h fun v u s2 x y H2 I2 rx ry q => ho pins s2 σ H2 x y v u Q I2 rx ry q) hm
noncomputable def tTest (t : TE) : TT := fun σ H Q => t σ H fun x H' => ∃ k, x = .bl k ∧ Q k H'
theorem pt_cmpR {op : CmpOp} {r : R2} (ho : OpR X (compareOp op) r) (ha : PE X a ta) (hb : PE X b tb) (hm : behindInMarks op b = false) : PT X (.Compare a [op] [b] pos) (tTest (tOp r ta tb)) := by
 intro pins s σ H Q I h
 refine wpAny_isTrue_Compare1 (thn (ha pins s σ H _ I h) fun v s1 ⟨x, H1, I1, r1, q1⟩ => thn (hb pins s1 σ H1 _ I1 q1) fun u s2 ⟨y, H2, I2, r2, q2⟩ =>
  thn (ho pins s2 σ H2 x y v u _ I2 r1 r2 q2) fun c s3 ⟨z, H3, I3, r3, k, e, q3⟩ => ?_) hm
 subst e
 cases r3
 exact wpAny_truthy_bool ⟨H3, I3, q3⟩

theorem line63 : (sizeLine : Nat) < 2 ^ 63 := by rw [sizeLine_eq]; decide

theorem op_add_str : OpR X (binaryOp .Add) (fun x y H Q => ∃ i j, x = .str i ∧ y = .str j ∧ i.length + j.length ≤ sizeLine ∧ Q (.str (i ++ j)) H) := by
 intro pins s σ H x y v u Q I rx ry h
 obtain ⟨i, j, rfl, rfl, hz, q⟩ := h
 obtain ⟨t, rfl⟩ := rx
 obtain ⟨t', rfl⟩ := ry
 exact add_str (fun t' tk => ⟨.str (i ++ j), H, I.tok _, ⟨_, rfl⟩, q⟩) hz


theorem vals1 {x : V} {us : List Value} (r : Vals [x] us) : ∃ u, us = [u] ∧ RelV x u := by
 cases r with
 | cons r1 r2 => cases r2; exact ⟨_, rfl, r1⟩
theorem vals2 {x y : V} {us : List Value} (r : Vals [x, y] us) : ∃ u w', us = [u, w'] ∧ RelV x u ∧ RelV y w' := by
 cases r with
 | cons r1 r2 =>
  cases r2 with
  | cons r3 r4 => cases r4; exact ⟨_, _, rfl, r1, r3⟩
theorem call_abs : CallR X (.builtin "abs") (fun xs H Q => ∃ i, xs = [.int i] ∧ Q (.int (if i < 0 then -i else i)) H) := by
 intro pins s σ H xs us Q I r h
 obtain ⟨i, rfl, q⟩ := h
 obtain ⟨u, rfl, t, rfl⟩ := vals1 r
 exact call_abs_int fun u tk => ⟨.int (if i < 0 then -i else i), H, I.tok _, ⟨_, rfl⟩, q⟩
theorem call_min2 (hc : X.calm = true) : CallR X (.builtin "min") (fun xs H Q => ∃ i j, xs = [.int i, .int j] ∧ Q (.int (if j < i then j else i)) H) := by
 intro pins s σ H xs us Q I r h
 obtain ⟨i, j, rfl, q⟩ := h
 obtain ⟨u, w', rfl, ⟨t, rfl⟩, ⟨t', rfl⟩⟩ := vals2 r
 refine min_two_ints (I.ok.hd hc) fun h' tk k => ⟨_, H, I.kept k, ?_, q⟩
 by_cases hj : j < i
 ·rw [if_pos hj, if_pos hj]; exact ⟨_, rfl⟩
 ·rw [if_neg hj, if_neg hj]; exact ⟨_, rfl⟩
end
end L2

namespace L2
open PySem PySem.Spec PyProof.Rows

structure ObjM (h : Heap) (x dx C : Addr) (mA : Str → Option Value) : Prop where
 obj : h.get? x = some (PySem.W.instObj C dx)
 ns : h.Ns1 dx mA
 ne : dx ≠ x

theorem lookIn_ns {h : Heap} {dx : Addr} {mA : Str → Option Value} (n : h.Ns1 dx mA) : ∃ od, h.get? dx = some od ∧ ∀ name, PySem.W.lookIn name od = some (mA name) := by
 obtain ⟨o, es, ep, ho, hd, hk, _, hm⟩ := n
 refine ⟨o, ho, fun name => ?_⟩
 have e := hm name
 unfold nsFind findBy at e
 rw [← Array.find?_toList] at e
 unfold PySem.W.lookIn
 rw [hd]
 dsimp only
 split
 ·rename_i y q
  rw [q] at e
  exact congrArg some e
 ·rename_i q
  rw [q] at e
  have a : es.toList.any (·.refKey) = false := by
   rw [List.any_eq_false]
   intro y hy
   obtain ⟨z, t, hkey⟩ := hk y (Array.mem_toList_iff.mp hy)
   simp [DictEntry.refKey, hkey]
  have a' : ¬ es.toList.any (·.refKey) = true := by rw [a]; exact Bool.false_ne_true
  rw [if_neg a']
  exact congrArg some e

theorem ObjM.look {h : Heap} {x dx C : Addr} {mA : Str → Option Value} (I : ObjM h x dx C mA) : ∃ od, PySem.W.InstAt h x (PySem.W.instObj C dx) C (some od) ∧ ∀ name, PySem.W.lookIn name od = some (mA name) :=
 let ⟨od, ho, hl⟩ := lookIn_ns I.ns
 ⟨od, ⟨I.obj, rfl, rfl, ho⟩, hl⟩

section
variable {prog : Program} {w : World} {A : Around} {E : Value → Shared → Prop} {s : Shared} {K : PySem.W.Frag} {x dx C f : Addr} {mA : Str → Option Value} {name : Str} {v : Value}

theorem get_map {expr : Bool} {Q : Value → Shared → Prop} (X : K.In s.heap) (I : ObjM s.heap x dx C mA) (hg : PySem.W.plainGet K C name = true) (hh : PySem.W.hasDictIn K C = true)
  (ha : PySem.W.findIn K (.ref C) name = some none) (hv : mA name = some v) (hv' : PySem.W.handedIn v = true) (h : Q v { s with toks := s.toks + 1 }) :
  wpAny (model prog w) A (getAttr (.ref x) name expr) Q E s := by
 obtain ⟨od, J, hl⟩ := I.look
 exact PySem.W.get_value X J (PySem.W.plainGet_of hg).1 (PySem.W.findObj_own hh ha rfl (by rw [hl, hv])) hv' h


theorem get_meth {pl : Sem Bool} {Q : Value × List Value → Shared → Prop} (X : K.In s.heap) (I : ObjM s.heap x dx C mA) (hg : PySem.W.plainGet K C name = true)
  (hf : PySem.W.findIn K (.ref C) name = some (some (.ref f))) (ht : PySem.W.isFn K (.ref f) = true) (hv : mA name = none) (h : Q (.ref f, [.ref x]) s) :
  wpAny (model prog w) A (getMethod (.ref x) name pl) Q E s := by
 obtain ⟨od, J, hl⟩ := I.look
 exact PySem.W.method_fn X J (PySem.W.plainGet_of hg).1 (PySem.W.plainGet_of hg).2 hf (beq_iff_eq.mp ht) (by show (PySem.W.lookIn name od).map (·.isSome) = some false; rw [hl, hv]; rfl) h

theorem set_map {ns : List Str} {Q : Unit → Shared → Prop} (X : K.In s.heap) (I : ObjM s.heap x dx C mA)
  (hs : PySem.W.findIn K (.ref C) "__setattr__" = some (some (.builtin "object.__setattr__"))) (hp : PySem.W.plainOver K C = true) (ht : PySem.W.takerIn K C name = some none) (hh : PySem.W.hasDictIn K C = true)
  (hw : PySem.Within mA ns) (hsz : ns.length ≤ sizeLine)
  (h : ∀ h', ObjM h' x dx C (fun y => if y = name then some v else mA y) → Heap.SameBut dx s.heap h' → Q () { s with heap := h', toks := s.toks + 2 }) :
  wpAny (model prog w) A (setAttr (.ref x) name v) Q E s := by
 obtain ⟨od, J, hl⟩ := I.look
 refine PySem.W.set_plain X J hs (PySem.W.osa_open (s := { s with toks := s.toks + 1 }) (r := none) X J hp ht fun b => ?_)
 obtain ⟨cd, hc, hd'⟩ := PySem.W.any_some hh
 have hx : s.heap.get? x = some ⟨.ref C, some dx, .plain, #[]⟩ := I.obj
 refine wpAny_bind (wpAny_pure (wpAny_bind (wpAny_bind (wpAny_loadPart hx (wpAny_bind (PySem.W.Looks.here (s := { s with toks := s.toks + 1 }) (PySem.W.looks_clsIn X hc) ?_))))))
 rw [hd']
 refine wpAny_pure (a := some dx) (wpAny_bind (wpAny_pure (wpAny_bind ?_)))
 refine wpAny_nsSet1 (s := { s with toks := s.toks + 1 }) I.ns fun h' hn2 hs2 => ?_
 obtain ⟨oD, esD, epD, hoD, hdD, hcD⟩ := hn2.count (PySem.Within.cons name v hw)
 refine wpAny_bind (wpAny_lookBehind hoD (by rw [hdD]; exact pastItsLine_dict (Nat.le_trans hcD (by rw [List.length_cons]; omega))) ?_)
 exact wpAny_pure (h _ ⟨(hs2.2 _ (Ne.symm I.ne)).trans I.obj, hn2, I.ne⟩ hs2)

theorem make_map {R : Result → Shared → Prop} {vs : List Value} {kw : List (Str × Value)} (X : K.In s.heap) (hm : PySem.W.makesIn K C = true)
  (hi : PySem.W.findIn K (.ref C) "__init__" = some (some (.ref f))) (hf : PySem.W.typeIn K (.ref f) = some (.type "function"))
  (h : codeAny (model prog w) (A.under (.builtin "type.__call__" ⟨.ref C :: vs, kw⟩)) (.call (.ref f) ⟨.ref (s.heap.objs.size + 1) :: vs, kw⟩) (PySem.W.InitBack (s.heap.objs.size + 1) R)
   { s with heap := (s.heap.push PySem.W.emptyDict).push (PySem.W.instObj C s.heap.objs.size) }) :
  codeAny (model prog w) A (.call (.ref C) ⟨vs, kw⟩) R s := by
 obtain ⟨hh, g, d, t, os⟩ := s
 exact PySem.W.make_core (PySem.W.makes_of X hm) (PySem.W.looks_findIn X hi) (fun self => PySem.W.bind_fn X self hf) (.inl rfl) h
end

noncomputable def putF (f : Str) (v : V) : List (Str × V) → List (Str × V)
 | [] => [(f, v)]
 | (g, x) :: r => if g = f then (g, v) :: r else (g, x) :: putF f v r
theorem lookup_putF (f g : Str) (v : V) : ∀ fs : List (Str × V), (putF f v fs).lookup g = if g = f then some v else fs.lookup g
 | [] => by
  show List.lookup g [(f, v)] = _
  by_cases h : g = f
  ·have hb : (g == f) = true := beq_iff_eq.mpr h
   simp only [List.lookup, hb, if_pos h]
  ·have hb : (g == f) = false := beq_eq_false_iff_ne.mpr h
   simp only [List.lookup, hb, if_neg h]
 | (k, x) :: r => by
  have ih := lookup_putF f g v r
  rw [show putF f v ((k, x) :: r) = (if k = f then (k, v) :: r else (k, x) :: putF f v r) from rfl]
  by_cases hk : k = f
  ·rw [if_pos hk]
   by_cases h : g = k
   ·have hb : (g == k) = true := beq_iff_eq.mpr h
    simp only [List.lookup, hb, if_pos (h.trans hk)]
   ·have hb : (g == k) = false := beq_eq_false_iff_ne.mpr h
    simp only [List.lookup, hb, if_neg (fun e : g = f => h (e.trans hk.symm))]
  ·rw [if_neg hk]
   by_cases h : g = k
   ·have hb : (g == k) = true := beq_iff_eq.mpr h
    simp only [List.lookup, hb, if_neg (fun e : g = f => hk (h.symm.trans e))]
   ·have hb : (g == k) = false := beq_eq_false_iff_ne.mpr h
    simp only [List.lookup, hb]
    exact ih
theorem keys_putF (f : Str) (v : V) : ∀ fs : List (Str × V), f ∈ (putF f v fs).map (·.1) ∧ ∀ g, g ∈ fs.map (·.1) → g ∈ (putF f v fs).map (·.1)
 | [] => ⟨by simp [putF], fun g h => by simp at h⟩
 | (k, x) :: r => by
  obtain ⟨i1, i2⟩ := keys_putF f v r
  rw [show putF f v ((k, x) :: r) = (if k = f then (k, v) :: r else (k, x) :: putF f v r) from rfl]
  by_cases hk : k = f
  ·rw [if_pos hk]
   subst hk
   exact ⟨by simp, fun g h => by simpa using h⟩
  ·rw [if_neg hk]
   refine ⟨?_, fun g h => ?_⟩
   ·rw [List.map_cons]
    exact List.mem_cons_of_mem _ i1
   ·rw [List.map_cons] at h ⊢
    rcases List.mem_cons.mp h with e | e
    ·exact List.mem_cons.mpr (.inl e)
    ·exact List.mem_cons_of_mem _ (i2 g e)
theorem length_putF (f : Str) (v : V) : ∀ fs : List (Str × V), (putF f v fs).length ≤ fs.length + 1
 | [] => by simp [putF]
 | (k, x) :: r => by
  have ih := length_putF f v r
  rw [show putF f v ((k, x) :: r) = (if k = f then (k, v) :: r else (k, x) :: putF f v r) from rfl]
  by_cases hk : k = f
  ·rw [if_pos hk, List.length_cons, List.length_cons]; omega
  ·rw [if_neg hk, List.length_cons, List.length_cons]; omega

theorem RelO.some_of {v : V} {o : Option Value} (r : RelO (some v) o) : ∃ u, o = some u ∧ RelV v u := by
 cases o with
 | none => exact (show False from r).elim
 | some u => exact ⟨u, rfl, r⟩
theorem RelO.none_of {o : Option Value} (r : RelO none o) : o = none := by
 cases o with
 | none => rfl
 | some u => exact (show False from r).elim
theorem handed_of {v : V} {u : Value} (r : RelV v u) : PySem.W.handedIn u = true := by
 cases v with
 | non => cases (show u = Value.none from r); rfl
 | bl b => cases (show u = Value.bool b from r); rfl
 | int i => obtain ⟨t, e⟩ := (show ∃ t, u = Value.int i t from r); cases e; rfl
 | str x => obtain ⟨t, e⟩ := (show ∃ t, u = Value.str x t from r); cases e; rfl
 | byt b => obtain ⟨t, e⟩ := (show ∃ t, u = Value.bytes b t from r); cases e; rfl
 | flt b => obtain ⟨t, e⟩ := (show ∃ t, u = Value.float b t from r); cases e; rfl
 | ref a => cases (show u = Value.ref a from r); rfl
 | ty n => cases (show u = Value.type n from r); rfl

section
variable {P : Program} {w : World} {H H' : Hp} {h h' : Heap} {a C dx : Addr} {fs fs' : List (Str × V)}
theorem ins_get (hok : HOk P w H h) (e : H a = some (.ins C dx fs)) : ∃ mA, ObjM h a dx C mA ∧ (∀ f, RelO (fs.lookup f) (mA f)) ∧ PySem.Within mA (fs.map (·.1)) ∧ fs.length ≤ 1000 ∧ H dx = some (.own a) := by
 obtain ⟨d, z, ne, ob, mA, n, r, q⟩ := (show ObjOk P w H h a (.ins C dx fs) from hok a _ e)
 exact ⟨mA, ⟨ob, n, ne⟩, r, q, z, d⟩
end

structure Cls (K : PySem.W.Frag) (C : Addr) : Prop where
 pg : PySem.W.plainGet K C Str.empty = true
 hd : PySem.W.hasDictIn K C = true
 po : PySem.W.plainOver K C = true
 sa : PySem.W.findIn K (.ref C) "__setattr__" = some (some (.builtin "object.__setattr__"))
theorem Cls.get {K : PySem.W.Frag} {C : Addr} (c : Cls K C) (f : Str) : PySem.W.plainGet K C f = true := c.pg
noncomputable def NoAttr (K : PySem.W.Frag) (C : Addr) (f : Str) : Prop := PySem.W.findIn K (.ref C) f = some none
theorem NoAttr.taker {K : PySem.W.Frag} {C : Addr} {f : Str} (n : NoAttr K C f) : PySem.W.takerIn K C f = some none := by
 unfold PySem.W.takerIn
 rw [show PySem.W.findIn K (.ref C) f = some none from n]
 rfl
structure Con (K : PySem.W.Frag) (C : Addr) (f : Str) (v : V) (u : Value) : Prop where
 at_ : PySem.W.findIn K (.ref C) f = some (some u)
 rel : RelV v u
 get : PySem.W.specialIn K u "__get__" = some none
 cp : PySem.W.copiedNames.contains f = false
structure Meth (K : PySem.W.Frag) (C : Addr) (m : Str) (f : Addr) : Prop where
 at_ : PySem.W.findIn K (.ref C) m = some (some (.ref f))
 fn : PySem.W.isFn K (.ref f) = true
 kp : PySem.W.keepIn K (.ref f) = true

section
variable {X : Cx} {pins : List (Addr × Obj)} {σ : St} {H : Hp} {s : Shared} {a C dx : Addr} {fs : List (Str × V)} {f : Str} {v : V} {A : Around} {E : Value → Shared → Prop}

theorem getattr_ok {b : Bool} {Q : Value → Shared → Prop} (I : Inv X pins σ H s) (e : H a = some (.ins C dx fs)) (c : Cls X.K C) (n : NoAttr X.K C f) (l : fs.lookup f = some v)
  (h : ∀ u s', Inv X pins σ H s' → RelV v u → Q u s') : wpAny (model X.prog X.w) A (getAttr (.ref a) f b) Q E s := by
 obtain ⟨mA, O, r, _, _, _⟩ := ins_get I.hok e
 obtain ⟨u, hu, ru⟩ := RelO.some_of (v := v) (o := mA f) (by rw [← l]; exact r f)
 exact get_map I.kIn O (c.get f) c.hd n hu (handed_of ru) (h u _ (I.tok _) ru)


theorem getmeth_ok {m : Str} {g : Addr} {pl : Sem Bool} {Q : Value × List Value → Shared → Prop} (I : Inv X pins σ H s) (e : H a = some (.ins C dx fs)) (c : Cls X.K C) (k : Meth X.K C m g) (l : fs.lookup m = none)
  (h : Q (.ref g, [.ref a]) s) : wpAny (model X.prog X.w) A (getMethod (.ref a) m pl) Q E s := by
 obtain ⟨mA, O, r, _, _, _⟩ := ins_get I.hok e
 have hn : mA m = none := RelO.none_of (by rw [← l]; exact r m)
 exact get_meth I.kIn O (c.get m) k.at_ k.fn hn h

theorem setattr_ok {y : V} {u : Value} {Q : Unit → Shared → Prop} (I : Inv X pins σ H s) (e : H a = some (.ins C dx fs)) (c : Cls X.K C) (n : NoAttr X.K C f) (hl : fs.length < 1000) (ry : RelV y u)
  (h : ∀ s', Inv X pins σ (upd H a (.ins C dx (putF f y fs))) s' → Q () s') : wpAny (model X.prog X.w) A (setAttr (.ref a) f u) Q E s := by
 obtain ⟨mA, O, r, wi, _, ho⟩ := ins_get I.hok e
 have hz : (fs.map (·.1)).length ≤ sizeLine := by rw [List.length_map, sizeLine_eq]; omega
 refine set_map I.kIn O c.sa c.po n.taker c.hd wi hz fun h' O' sb => h _ ?_
 have hd : ∃ o, h'.get? dx = some o := let ⟨o, _, _, e', _⟩ := O'.ns; ⟨o, e'⟩
 refine I.write (x := a) (e := dx) (by rw [e]; exact True.intro) (.inr ho) (fun b q hb z => (sb.2 b hb).trans z) hd ?_
 refine ⟨by rw [upd_ne O.ne]; exact ho, ?_, O.ne, O'.obj, _, O'.ns, fun g => ?_, fun g hg => ?_⟩
 ·have := length_putF f y fs; omega
 ·show RelO ((putF f y fs).lookup g) (if g = f then some u else mA g)
  rw [lookup_putF]
  by_cases q : g = f
  ·rw [if_pos q, if_pos q]; exact ry
  ·rw [if_neg q, if_neg q]; exact r g
 ·by_cases q : g = f
  ·rw [q]; exact (keys_putF f y fs).1
  ·refine (keys_putF f y fs).2 g (wi g fun z => hg ?_)
   show (if g = f then some u else mA g) = none
   rw [if_neg q]; exact z

theorem Inv.made (I : Inv X pins σ H s) : Inv X pins σ (upd (upd H s.heap.objs.size (.own (s.heap.objs.size + 1))) (s.heap.objs.size + 1) (.ins C s.heap.objs.size []))
  { s with heap := (s.heap.push PySem.W.emptyDict).push (PySem.W.instObj C s.heap.objs.size) } := by
 have e1 : (s.heap.push PySem.W.emptyDict).get? s.heap.objs.size = some PySem.W.emptyDict := Heap.get?_push_size s.heap rfl
 have e2 : ((s.heap.push PySem.W.emptyDict).push (PySem.W.instObj C s.heap.objs.size)).get? (s.heap.objs.size + 1) = some (PySem.W.instObj C s.heap.objs.size) := by
  have := Heap.get?_push_size (s.heap.push PySem.W.emptyDict) (o := PySem.W.instObj C s.heap.objs.size) rfl
  rwa [Heap.size_push] at this
 have e3 : (s.heap.push PySem.W.emptyDict).Ns s.heap.objs.size (fun _ => none) := ⟨PySem.W.emptyDict, #[], _, e1, rfl, (fun e he => absurd he (by simp)), fun _ => rfl⟩
 have I1 := I.laid (a := s.heap.objs.size) (o := .own (s.heap.objs.size + 1)) (h' := s.heap.push PySem.W.emptyDict) (t' := s.toks) (fun b u q => Heap.get?_push_of_some _ q) (Nat.le_refl _) ⟨_, e1⟩
 refine I1.laid (a := s.heap.objs.size + 1) (o := .ins C s.heap.objs.size []) (t' := s.toks) (fun b u q => Heap.get?_push_of_some _ q) (Nat.le_of_eq (Heap.size_push _ _)) ?_
 have ne : s.heap.objs.size ≠ s.heap.objs.size + 1 := Nat.ne_of_lt (Nat.lt_succ_self _)
 refine ⟨by rw [upd_ne ne, upd_same], Nat.zero_le _, ne, e2, fun _ => none, (Heap.Ns1.of_empty e3).at fun o q => Heap.get?_push_of_some _ q, fun _ => True.intro, fun y hy => absurd rfl hy⟩

theorem attr_of {prog : Program} {w : World} {env : Env} {e : Expr} {f : Str} {pos : Pos} {s : Shared} {Q : Value → Shared → Prop} (hb : attributeBase e f env (eval e env) = eval e env)
  (h : wpAny (model prog w) A (eval e env) (fun o s₁ => wpAny (model prog w) A (getAttr o f true) Q E s₁) E s) : wpAny (model prog w) A (eval (.Attribute e f pos) env) Q E s :=
 Attribute_any_ h (by rw [arm_eval_Attribute, hb])
end

noncomputable def tFld (K : PySem.W.Frag) (ta : TE) (f : Str) : TE := fun σ H Q => ta σ H fun x H1 => ∃ a C dx fs v, x = .ref a ∧ H1 a = some (.ins C dx fs) ∧ Cls K C ∧ NoAttr K C f ∧ fs.lookup f = some v ∧ Q v H1
noncomputable def sFld (K : PySem.W.Frag) (ta tv : TE) (f : Str) : TS := fun D σ H => tv σ H fun y H1 => ta σ H1 fun x H2 => ∃ a C dx fs, x = .ref a ∧ H2 a = some (.ins C dx fs) ∧ Cls K C ∧ NoAttr K C f ∧ fs.length < 1000 ∧
 D.nx σ (upd H2 a (.ins C dx (putF f y fs)))

section
variable {X : Cx} {o e value : Expr} {f : Str} {pos pos' tpos : Pos} {ta tv : TE}
theorem pe_fld (he : PE X e ta) (hb : attributeBase e f X.env (eval e X.env) = eval e X.env) : PE X (.Attribute e f pos) (tFld X.K ta f) := by
 intro pins s σ H Q I h
 refine attr_of hb (thn (he pins s σ H _ I h) fun u s1 ⟨x, H1, I1, rx, a, C, dx, fs, v, ex, ea, c, n, l, q⟩ => ?_)
 subst ex
 obtain rfl : u = Value.ref a := rx
 exact getattr_ok I1 ea c n l fun u' s2 I2 ru => ⟨v, H1, I2, ru, q⟩
theorem ps_fld (ha : PE X o ta) (hv : PE X value tv) (hs : swapsWith value (some (.Attribute o f pos')) pos.line X.env = pure false) : PS X (.Assign [.Attribute o f pos'] value pos) (sFld X.K ta tv f) := by
 intro pins s σ H D I h
 refine plainObj_wpAny_Assign_Attribute (thn (hv pins s σ H _ I h) fun u s1 ⟨y, H1, I1, ry, q⟩ => thn (ha pins s1 σ H1 _ I1 q) fun ov s2 ⟨x, H2, I2, rx, a, C, dx, fs, ex, ea, c, n, l, q2⟩ => ?_) hs
 subst ex
 obtain rfl : ov = Value.ref a := rx
 exact setattr_ok I2 ea c n l ry fun s3 I3 => ⟨σ, _, I3, q2⟩

end

section
variable {X : Cx} {pins : List (Addr × Obj)} {σ : St} {H : Hp} {s : Shared} {A : Around} {E : Value → Shared → Prop} {Q : Value → Shared → Prop} {c : Value} {b : Bool}
inductive TyOf (K : PySem.W.Frag) (H : Hp) : V → Value → Prop where
 | non : TyOf K H .non (.type "NoneType")
 | bl (x : Bool) : TyOf K H (.bl x) (.type "bool")
 | int (i : Int) : TyOf K H (.int i) (.type "int")
 | str (x : Str) : TyOf K H (.str x) (.type "str")
 | flt (x : UInt64) : TyOf K H (.flt x) (.type "float")
 | lst {a : Addr} {xs : List V} (e : H a = some (.lst xs)) : TyOf K H (.ref a) (.type "list")
 | frz {a : Addr} {o : Obj} {xs : List V} (e : H a = some (.frz o (.lst xs))) : TyOf K H (.ref a) (.type "list")
 | tup {a : Addr} {xs : List V} (e : H a = some (.tup xs)) : TyOf K H (.ref a) (.type "tuple")
 | dK {a : Addr} {kvs : List (Key × V)} (e : H a = some (.dK kvs)) : TyOf K H (.ref a) (.type "dict")
 | dT {a : Addr} {kvs : List (List Key × V)} (e : H a = some (.dT kvs)) : TyOf K H (.ref a) (.type "dict")
 | ins {a C dx : Addr} {fs : List (Str × V)} (e : H a = some (.ins C dx fs)) (cl : Cls K C) (ha : PySem.W.findIn K (.ref C) "__class__" = some (some (.builtin "object.__class__")))
   (hn : PySem.W.specialIn K (.builtin "object.__class__") "__get__" = some (some (.builtin "getset_descriptor.__get__"))) (htk : PySem.W.takesIn K (.builtin "object.__class__") = some true)
   (hm : PySem.W.mroIn K C (.type "object") = some true) : TyOf K H (.ref a) (.ref C)
end
end L2

namespace L2
open PySem PySem.Spec PyProof.Rows

structure Room (k : Nat) (A : Around) : Prop where
 hd : A.handled = none
 dp : A.depth + 3 * k + 5 < recursionLimit
 un : A.units + 16 * k + 200 < cLine
 gd : A.guards = some []
theorem Room.mono {j k : Nat} {A : Around} (r : Room k A) (h : j ≤ k) : Room j A := ⟨r.hd, by have := r.dp; omega, by have := r.un; omega, r.gd⟩
theorem Room.deeper {k : Nat} {A : Around} (r : Room (k + 1) A) (env : Env) : Room k (A.deeper env) :=
 ⟨r.hd, by have := r.dp; show A.depth + 1 + 3 * k + 5 < _; omega, by have := r.un; show A.units + 3 + 16 * k + 200 < _; omega, r.gd⟩
theorem make_depth {A : Around} {C : Addr} {us : List Value} {kw : List (Str × Value)} : (A.under (.builtin "type.__call__" ⟨.ref C :: us, kw⟩)).depth = A.depth + 1 := by
 first | rfl | simp [Around.under, Code.weight, Code.isCreation, Code.isGuard, Code.isCaller, Code.frames, Code.isFrame, guardIds]
theorem make_units {A : Around} {C : Addr} {us : List Value} {kw : List (Str × Value)} : (A.under (.builtin "type.__call__" ⟨.ref C :: us, kw⟩)).units = A.units + 1 := by
 first | rfl | simp [Around.under, Code.cUnits, Code.frames, Code.isFrame]
theorem Room.make {k : Nat} {A : Around} (r : Room (k + 1) A) (C : Addr) (us : List Value) (kw : List (Str × Value)) : Room k (A.under (.builtin "type.__call__" ⟨.ref C :: us, kw⟩)) :=
 ⟨r.hd, by have := r.dp; rw [make_depth]; omega, by have := r.un; rw [make_units]; omega, r.gd⟩
theorem Room.depth {k : Nat} {A : Around} (r : Room k A) : A.depth < recursionLimit := by have := r.dp; omega
theorem Room.units {k : Nat} {A : Around} (r : Room k A) : A.units + 64 < cLine := by have := r.un; omega

noncomputable def tNil : TA := fun _ H Q => Q [] H
noncomputable def tCons (ta : TE) (tr : TA) : TA := fun σ H Q => ta σ H fun x H1 => tr σ H1 fun xs H2 => Q (x :: xs) H2
section
variable {X : Cx} {e : Expr} {es : List Expr} {te : TE} {t : TA} {pos : Pos}
theorem pa_nil : PA X [] tNil := fun _ _ _ _ H Q I h => Calls.spliced_nil ⟨[], H, I, .nil, h⟩
theorem pa_cons (ha : PE X e te) (hr : PA X es t) (hs : starEach (e :: es) X.env = (false, eval e X.env) :: starEach es X.env := by rfl) : PA X (e :: es) (tCons te t) := by
 intro pos pins s σ H Q I h
 rw [hs]
 show wpAny _ _ (spliced ((false, eval e X.env) :: backTo pos (starEach es X.env))) _ _ s
 refine Calls.spliced_cons (thn (ha pins s σ H _ I h) fun u s1 ⟨x, H1, I1, r1, q1⟩ => ?_)
 exact thn (hr pos pins s1 σ H1 _ I1 q1) fun us s2 ⟨xs, H2, I2, r2, q2⟩ => ⟨x :: xs, H2, I2, .cons r1 r2, q2⟩

noncomputable def tTup (t : TA) : TE := fun σ H Q => t σ H fun xs H1 => xs.length ≤ sizeLine ∧ ∀ p, H1 p = none → Q (.ref p) (upd H1 p (.tup xs))
noncomputable def tLst (t : TA) : TE := fun σ H Q => t σ H fun xs H1 => xs.length ≤ sizeLine ∧ ∀ p, H1 p = none → Q (.ref p) (upd H1 p (.lst xs))
theorem pe_tup {x1} (h : PA X es t) : PE X (.Tuple es x1 pos) (tTup t) := by
 intro pins s σ H Q I hq
 refine wpAny_Tuple_spliced (thn (h pos pins s σ H _ I hq) fun us s1 ⟨xs, H1, I1, r, z, q⟩ => ⟨by rw [← r.length]; exact z, ?_⟩)
 have hf : H1 s1.heap.objs.size = none := I1.hok.fresh (Nat.le_refl _)
 refine ⟨.ref s1.heap.objs.size, upd H1 s1.heap.objs.size (.tup xs), I1.laid (t' := s1.toks) (fun b u e => Heap.get?_push_of_some _ e) (Nat.le_refl _) ?_, rfl, q _ hf⟩
 exact ⟨z, us, r, ⟨_, Heap.get?_push_size _ rfl, rfl, _, rfl⟩⟩
theorem pe_lst (h : PA X es t) : PE X (.List es pos) (tLst t) := by
 intro pins s σ H Q I hq
 refine wpAny_List_spliced (thn (h pos pins s σ H _ I hq) fun us s1 ⟨xs, H1, I1, r, z, q⟩ => ⟨by rw [← r.length]; exact z, ?_⟩)
 have hf : H1 s1.heap.objs.size = none := I1.hok.fresh (Nat.le_refl _)
 refine ⟨.ref s1.heap.objs.size, upd H1 s1.heap.objs.size (.lst xs), I1.laid (t' := s1.toks) (fun b u e => Heap.get?_push_of_some _ e) (Nat.le_refl _) ?_, rfl, q _ hf⟩
 exact ⟨z, us, 0, r, Heap.get?_push_size _ rfl⟩
end

noncomputable abbrev Sp := List V → Hp → VK → XK → Prop
noncomputable abbrev CXT := List Env → Hp → Shared → XK → Value → Shared → Prop

structure Env0 (P : Program) (w : World) (K : PySem.W.Frag) (mg : Str → Option Value) (base : Heap) (A : Around) (outer : List Env) (s : Shared) (H : Hp) : Prop where
 frames : A.frames = some outer
 mod : Mod K mg base
 bs : ∀ b o, base.get? b = some o → s.heap.get? b = some o ∧ H b = none
 bsz : base.objs.size ≤ s.heap.objs.size
 funs : s.heap.FunFrames base outer
 frf : ∀ b ∈ frs outer, H b = none
 hok : HOk P w H s.heap
 bare : AllBare s.gens
noncomputable def CE (outer : List Env) (P : Program) (w : World) (H : Hp) (s : Shared) (Q : VK) (u : Value) (s' : Shared) : Prop :=
 ∃ v H', s'.os = s.os ∧ AllBare s'.gens ∧ Un (frs outer) [] H H' s.heap s'.heap ∧ HOk P w H' s'.heap ∧ RelV v u ∧ Q v H'
noncomputable def CR (CX : CXT) (outer : List Env) (P : Program) (w : World) (H : Hp) (s : Shared) (Q : VK) (E : XK) (r : Result) (s' : Shared) : Prop :=
 match r with
 | .ok (.ret u) => CE outer P w H s Q u s'
 | .ok _ => False
 | .error e => CX outer H s E e s'
structure FnOk (P : Program) (w : World) (K : PySem.W.Frag) (mg : Str → Option Value) (base : Heap) (CX : CXT) (k : Nat) (f : Addr) (fd : FuncData) (ps : List Str) (sp : Sp) : Prop where
 len : ∀ vs H Q E, sp vs H Q E → vs.length = ps.length
 run : ∀ (A : Around) (outer : List Env) (s : Shared) (H : Hp) (args : Args) (us : List Value) (vs : List V) (Q : VK) (E : XK), Room k A → Env0 P w K mg base A outer s H → BindsTo s fd args (ps.zip us) → Vals vs us → sp vs H Q E →
  codeAny (model P w) A (.call (.ref f) args) (CR CX outer P w H s Q E) s
theorem FnOk.imp {P : Program} {w : World} {K : PySem.W.Frag} {mg : Str → Option Value} {base : Heap} {CX : CXT} {k : Nat} {f : Addr} {fd : FuncData} {ps : List Str} {sp sp' : Sp} (F : FnOk P w K mg base CX k f fd ps sp)
  (h : ∀ vs H Q E, sp' vs H Q E → sp vs H Q E) : FnOk P w K mg base CX k f fd ps sp' :=
 ⟨fun vs H Q E q => F.len vs H Q E (h _ _ _ _ q), fun A outer s H args us vs Q E hr he hb hv hs => F.run A outer s H args us vs Q E hr he hb hv (h _ _ _ _ hs)⟩

theorem Env0.make {P : Program} {w : World} {K : PySem.W.Frag} {mg : Str → Option Value} {base : Heap} {A : Around} {outer : List Env} {s : Shared} {H : Hp} (e : Env0 P w K mg base A outer s H) (C : Addr) (us : List Value) (kw : List (Str × Value)) :
  Env0 P w K mg base (A.under (.builtin "type.__call__" ⟨.ref C :: us, kw⟩)) outer s H := ⟨by first | exact e.frames | (simpa [Around.under, Code.envs, Code.isFrame, pushEnvs] using e.frames), e.mod, e.bs, e.bsz, e.funs, e.frf, e.hok, e.bare⟩

section
variable {X : Cx} {pins : List (Addr × Obj)} {σ : St} {H : Hp} {s s' : Shared}
theorem Inv.env0 (I : Inv X pins σ H s) : Env0 X.prog X.w X.K X.mg X.base X.A X.stack s H :=
 ⟨I.ok.frames, I.ok.mod, I.bs, Nat.le_trans I.ok.bsz I.sz, I.stack, I.stkFree, I.hok, I.bare⟩
theorem Inv.after {Q : VK} {u : Value} (I : Inv X pins σ H s) (h : CE X.stack X.prog X.w H s Q u s') : EP X pins σ Q u s' := by
 obtain ⟨v, H', os, bare, un, hok, r, q⟩ := h
 obtain ⟨hh, g, d, t, os'⟩ := s'
 obtain rfl : os' = s.os := os
 exact ⟨v, H', I.call (h' := hh) (g' := g) (d' := d) (t' := t) (ch := []) un hok bare (fun b z => absurd z (by simp)), r, q⟩
end

noncomputable def tCall (sp : Sp) (dvs : List V) (E : XK) (t : TA) : TE := fun σ H Q => t σ H fun vs H1 => sp (vs ++ dvs) H1 Q E
noncomputable def tMeth (C : Addr) (m : Str) (sp : Sp) (dvs : List V) (E : XK) (ta : TE) (t : TA) : TE := fun σ H Q => ta σ H fun x H1 => ∃ a dx fs, x = .ref a ∧ H1 a = some (.ins C dx fs) ∧ fs.lookup m = none ∧
 t σ H1 fun vs H2 => sp (x :: (vs ++ dvs)) H2 Q E
noncomputable def tMake (C : Addr) (sp : Sp) (dvs : List V) (E : XK) (t : TA) : TE := fun σ H Q => t σ H fun vs H1 => ∀ x dx, H1 x = none → H1 dx = none → dx ≠ x →
 sp (.ref x :: (vs ++ dvs)) (upd (upd H1 dx (.own x)) x (.ins C dx [])) (fun v H2 => v = .non ∧ Q (.ref x) H2) E

noncomputable def Binds (K : PySem.W.Frag) (fd : FuncData) (ps : List Str) (ds : List Value) : Prop :=
 ∀ (s : Shared) (us : List Value), K.In s.heap → (us ++ ds).length = ps.length → BindsTo s fd ⟨us, []⟩ (ps.zip (us ++ ds))
theorem Binds.all {K : PySem.W.Frag} {fd : FuncData} {ps : List Str} (h : ∀ us : List Value, us.length = ps.length → bindArgs fd ⟨us, []⟩ = pure (ps.zip us)) : Binds K fd ps [] := fun s us _ hl => by
 rw [List.append_nil] at hl ⊢
 exact .of_eq (h us hl)

noncomputable def Passes (CX : CXT) (X : Cx) (E : XK) : Prop := ∀ (pins : List (Addr × Obj)) (σ : St) (H : Hp) (s : Shared) (e : Value) (s' : Shared), Inv X pins σ H s → CX X.stack H s E e s' → X.xe e s'

section
variable {X : Cx} {CX : CXT} {k : Nat} {f C : Addr} {fd : FuncData} {ps : List Str} {sp : Sp} {dvs : List V} {ds : List Value} {E : XK} {x m : Str} {p pos apos : Pos} {e o : Expr} {es : List Expr} {ta : TE} {t : TA}

theorem run_fn {pins : List (Addr × Obj)} {σ : St} {H : Hp} {s : Shared} {Q : VK} {us : List Value} {vs : List V} (F : FnOk X.prog X.w X.K X.mg X.base CX k f fd ps sp) (hr : Room k X.A) (hb : Binds X.K fd ps ds) (hd : Vals dvs ds) (hx : Passes CX X E)
  (I : Inv X pins σ H s) (r : Vals vs us) (h : sp (vs ++ dvs) H Q E) : wpAny (model X.prog X.w) X.A (call (.ref f) us) (EP X pins σ Q) X.xe s := by
 have r2 : Vals (vs ++ dvs) (us ++ ds) := r.append hd
 have hl : (us ++ ds).length = ps.length := by rw [← r2.length]; exact F.len _ _ _ _ h
 refine wpAny_call (codeAny_mono (F.run X.A X.stack s H ⟨us, []⟩ (us ++ ds) (vs ++ dvs) Q E hr I.env0 (hb s us I.kIn hl) r2 h) fun r s' hq => ?_)
 cases r with
 | error e => exact hx pins σ H s e s' I hq
 | ok fl =>
  cases fl with
  | ret u => exact I.after hq
  | next => exact False.elim hq
  | brk => exact False.elim hq
  | cont => exact False.elim hq

theorem pe_call (F : FnOk X.prog X.w X.K X.mg X.base CX k f fd ps sp) (hr : Room k X.A) (hg : Gl X x) (hm : X.mg x = some (.ref f)) (hk : PySem.W.keepIn X.K (.ref f) = true) (hb : Binds X.K fd ps ds) (hd : Vals dvs ds) (hx : Passes CX X E)
  (ha : PA X (e :: es) t) (hdb : (x == ("__debug__" : Str)) = false := by decide) (he : starEach (e :: es) X.env = (false, eval e X.env) :: starEach es X.env := by rfl) (hpl : (backTo pos (starEach es X.env)).any (·.1) = false := by rfl) :
  PE X (.Call (.Name x p) (e :: es) [] pos) (tCall sp dvs E t) := by
 intro pins s σ H Q I h
 refine wpAny_Call_Name_kw (ld_glob I hg hm ?_ hdb)
 refine PySem.W.callWith_K (h₀ := X.base) I.ok.mod.kin hk (thn (ha pos pins s σ H _ I h) fun us s1 ⟨vs, H1, I1, r, q⟩ => ⟨I1.kIn, ?_⟩) he hpl
 exact run_fn F hr hb hd hx I1 r q

theorem pe_meth {pl : Sem Bool} (he : PE X o ta) (c : Cls X.K C) (hm : Meth X.K C m f) (F : FnOk X.prog X.w X.K X.mg X.base CX k f fd ps sp) (hr : Room k X.A) (hb : Binds X.K fd ps ds) (hd : Vals dvs ds) (hx : Passes CX X E) (ha : PA X (e :: es) t)
  (hst : starEach (e :: es) X.env = (false, eval e X.env) :: starEach es X.env := by rfl) (hpl : (backTo pos (starEach es X.env)).any (·.1) = false := by rfl)
  (ht : eval (.Call (.Attribute o m apos) (e :: es) [] pos) X.env = (do
   let ov ← eval o X.env
   standAt apos.atName
   let (f, first) ← holding [ov] (getMethod ov m pl)
   callWith pos f first (backTo pos (starEach (e :: es) X.env)) (backToKw pos (keywordEach [] X.env))) := by rfl) :
  PE X (.Call (.Attribute o m apos) (e :: es) [] pos) (tMeth C m sp dvs E ta t) := by
 intro pins s σ H Q I h
 refine PySem.W.methodCall_KW (pl := pl) (thn (he pins s σ H _ I h) fun u s1 ⟨x, H1, I1, rx, a, dx, fs, ex, ea, l, q⟩ => ?_) ht
 subst ex
 obtain rfl : u = Value.ref a := rx
 refine getmeth_ok I1 ea c hm l ?_
 refine PySem.W.callWith_K (first := [.ref a]) (h₀ := X.base) I.ok.mod.kin hm.kp (thn (ha pos pins s1 σ H1 _ I1 q) fun us s2 ⟨vs, H2, I2, r, q2⟩ => ⟨I2.kIn, ?_⟩) hst hpl
 exact run_fn (us := .ref a :: us) (vs := .ref a :: vs) F hr hb hd hx I2 (.cons rfl r) q2

structure Mk (K : PySem.W.Frag) (C f : Addr) : Prop where
 makes : PySem.W.makesIn K C = true
 init : PySem.W.findIn K (.ref C) "__init__" = some (some (.ref f))
 fn : PySem.W.isFn K (.ref f) = true
 kp : PySem.W.keepIn K (.ref C) = true

theorem run_make {pins : List (Addr × Obj)} {σ : St} {H : Hp} {s : Shared} {Q : VK} {us : List Value} {vs : List V} (M : Mk X.K C f) (F : FnOk X.prog X.w X.K X.mg X.base CX k f fd ps sp) (hr : Room (k + 1) X.A) (hb : Binds X.K fd ps ds) (hd : Vals dvs ds)
  (hx : Passes CX X E) (I : Inv X pins σ H s) (r : Vals vs us)
  (h : ∀ x dx, H x = none → H dx = none → dx ≠ x → sp (.ref x :: (vs ++ dvs)) (upd (upd H dx (.own x)) x (.ins C dx [])) (fun v H2 => v = .non ∧ Q (.ref x) H2) E) :
  wpAny (model X.prog X.w) X.A (call (.ref C) us) (EP X pins σ Q) X.xe s := by
 have hq := h (s.heap.objs.size + 1) s.heap.objs.size (I.hok.fresh (Nat.le_succ _)) (I.hok.fresh (Nat.le_refl _)) (Nat.ne_of_lt (Nat.lt_succ_self _))
 have I2 := Inv.made (C := C) I
 have r2 : Vals (V.ref (s.heap.objs.size + 1) :: (vs ++ dvs)) (Value.ref (s.heap.objs.size + 1) :: (us ++ ds)) := .cons rfl (r.append hd)
 have hl : (Value.ref (s.heap.objs.size + 1) :: us ++ ds).length = ps.length := by
  have e := r2.length
  rw [F.len _ _ _ _ hq] at e
  exact e.symm
 refine wpAny_call (make_map (f := f) I.kIn M.makes M.init (beq_iff_eq.mp M.fn) (codeAny_mono (F.run _ X.stack _ _ ⟨Value.ref (s.heap.objs.size + 1) :: us, []⟩ (Value.ref (s.heap.objs.size + 1) :: (us ++ ds)) _ _ E (hr.make C us [])
  (I2.env0.make C us []) (hb _ (Value.ref (s.heap.objs.size + 1) :: us) I2.kIn hl) r2 hq) fun r s' hq' => ?_))
 cases r with
 | error e => exact hx pins σ _ _ e s' I2 hq'
 | ok fl =>
  cases fl with
  | ret u =>
   obtain ⟨v, H', I3, rv, ev, q3⟩ := I2.after hq'
   subst ev
   exact ⟨rv, ⟨V.ref (s.heap.objs.size + 1), H', I3, rfl, q3⟩⟩
  | next => exact False.elim hq'
  | brk => exact False.elim hq'
  | cont => exact False.elim hq'
theorem pe_make (M : Mk X.K C f) (F : FnOk X.prog X.w X.K X.mg X.base CX k f fd ps sp) (hr : Room (k + 1) X.A) (hg : Gl X x) (hm : X.mg x = some (.ref C)) (hb : Binds X.K fd ps ds) (hd : Vals dvs ds) (hx : Passes CX X E)
  (ha : PA X (e :: es) t) (hdb : (x == ("__debug__" : Str)) = false := by decide) (he : starEach (e :: es) X.env = (false, eval e X.env) :: starEach es X.env := by rfl) (hpl : (backTo pos (starEach es X.env)).any (·.1) = false := by rfl) :
  PE X (.Call (.Name x p) (e :: es) [] pos) (tMake C sp dvs E t) := by
 intro pins s σ H Q I h
 refine wpAny_Call_Name_kw (ld_glob I hg hm ?_ hdb)
 refine PySem.W.callWith_K (h₀ := X.base) I.ok.mod.kin M.kp (thn (ha pos pins s σ H _ I h) fun us s1 ⟨vs, H1, I1, r, q⟩ => ⟨I1.kIn, ?_⟩) he hpl
 exact run_make M F hr hb hd hx I1 r q
end

section
variable {X : Cx} {CX : CXT} {k : Nat} {f C : Addr} {fd : FuncData} {ps ks : List Str} {sp : Sp} {E : XK} {x m : Str} {p pos apos kpos : Pos} {e o : Expr} {es : List Expr} {kws : List Keyword} {te ta : TE} {t tk : TA} {nm : Option Str}

structure KBinds (K : PySem.W.Frag) (fd : FuncData) (ps ks : List Str) (g : List Value → List Value → List Value) (gV : List V → List V → List V) : Prop where
 to : ∀ (s : Shared) (us ws : List Value), K.In s.heap → (g us ws).length = ps.length → BindsTo s fd ⟨us, ks.zip ws⟩ (ps.zip (g us ws))
 rel : ∀ {vs : List V} {us : List Value} {zs : List V} {ws : List Value}, Vals vs us → Vals zs ws → Vals (gV vs zs) (g us ws)
variable {g : List Value → List Value → List Value} {gV : List V → List V → List V}
end

structure FnScope (N P : List Str) (sc : Scope) : Prop where
 kind : sc.kind = .function
 co : sc.isCoroutine = false
 gen : sc.isGenerator = false
 nd : N.Nodup
 pre : N.take P.length = P
 par : ∀ x ∈ P, sc.names.lookup x = some .local ∨ sc.names.lookup x = some .cell
 nofree : ∀ y ∈ sc.names, y.2 ≠ .free

theorem bindL_out {kindOf : Str → Option NameKind} {x : Str} : ∀ {binds : List (Str × Value)} {m : Str → Option Value}, (∀ v, (x, v) ∉ binds) → bindL kindOf binds m x = m x
 | [], _, _ => rfl
 | (n, v) :: r, m, h => by
  unfold bindL
  rw [bindL_out fun w hw => h w (List.mem_cons_of_mem _ hw)]
  split
  ·have : x ≠ n := by rintro rfl; exact h v List.mem_cons_self
   simp [this]
  ·rfl
theorem bindC_out {kindOf : Str → Option NameKind} {x : Str} : ∀ {binds : List (Str × Value)} {m : Str → Option Value}, (∀ v, (x, v) ∉ binds) → bindC kindOf binds m x = m x
 | [], _, _ => rfl
 | (n, v) :: r, m, h => by
  unfold bindC
  rw [bindC_out fun w hw => h w (List.mem_cons_of_mem _ hw)]
  split
  ·rfl
  ·have : x ≠ n := by rintro rfl; exact h v List.mem_cons_self
   simp [this]
theorem bindL_get {kindOf : Str → Option NameKind} {x : Str} {v : Value} : ∀ {P : List Str} {vs : List Value} {i : Nat} {m : Str → Option Value}, P.Nodup → P[i]? = some x → vs[i]? = some v → kindOf x = some .local →
  bindL kindOf (P.zip vs) m x = some v
 | [], _, _, _, _, h, _, _ => by simp at h
 | _ :: _, [], _, _, _, _, h, _ => by simp at h
 | p :: P, w :: vs, 0, m, nd, h1, h2, hk => by
  simp at h1 h2; subst h1; subst h2
  show bindL kindOf ((p, w) :: P.zip vs) m p = _
  unfold bindL
  rw [bindL_out fun v hv => (List.nodup_cons.mp nd).1 (List.of_mem_zip hv).1, if_pos hk]
  simp
 | p :: P, w :: vs, i + 1, m, nd, h1, h2, hk => by
  show bindL kindOf ((p, w) :: P.zip vs) m x = _
  unfold bindL
  exact bindL_get (i := i) (List.nodup_cons.mp nd).2 (by simpa using h1) (by simpa using h2) hk
theorem bindC_get {kindOf : Str → Option NameKind} {x : Str} {v : Value} : ∀ {P : List Str} {vs : List Value} {i : Nat} {m : Str → Option Value}, P.Nodup → P[i]? = some x → vs[i]? = some v → kindOf x ≠ some .local →
  bindC kindOf (P.zip vs) m x = some v
 | [], _, _, _, _, h, _, _ => by simp at h
 | _ :: _, [], _, _, _, _, h, _ => by simp at h
 | p :: P, w :: vs, 0, m, nd, h1, h2, hk => by
  simp at h1 h2; subst h1; subst h2
  show bindC kindOf ((p, w) :: P.zip vs) m p = _
  unfold bindC
  rw [bindC_out fun v hv => (List.nodup_cons.mp nd).1 (List.of_mem_zip hv).1, if_neg hk]
  simp
 | p :: P, w :: vs, i + 1, m, nd, h1, h2, hk => by
  show bindC kindOf ((p, w) :: P.zip vs) m x = _
  unfold bindC
  exact bindC_get (i := i) (List.nodup_cons.mp nd).2 (by simpa using h1) (by simpa using h2) hk

noncomputable def start (N : List Str) (vs : List V) : St := vs.map some ++ List.replicate (N.length - vs.length) none

noncomputable def cxOf (CX : CXT) (P : Program) (w : World) (K : PySem.W.Frag) (mg : Str → Option Value) (base : Heap) (N : List Str) (qual : Str) (scope : Scope) (f : Addr) (cd : Value) (A : Around) (outer : List Env) (s : Shared) (H : Hp) (E : XK) : Cx where
 prog := P
 w := w
 K := K
 mg := mg
 base := base
 A := A.deeper (envOfC qual scope s.heap.objs.size f cd)
 N := N
 s₀ := s
 H₀ := H
 env := envOfC qual scope s.heap.objs.size f cd
 outer := outer
 stack := envOfC qual scope s.heap.objs.size f cd :: outer
 ex := []
 calm := true
 fn := fun _ => true
 pn := []
 xe := fun e s' => wpAny (model P w) (A.deeper (envOfC qual scope s.heap.objs.size f cd)) (leaving (envOfC qual scope s.heap.objs.size f cd) e) (fun _ s'' => CX outer H s E e s'') (fun e' s'' => CX outer H s E e' s'') s'

theorem cell_has {sc : Scope} {n : Nat} {x : Str} (h : sc.names.lookup x = some .cell) : ∃ c, (cellsFrom n sc.names []).lookup x = some c := by
 have q := PySem.W.cellsFrom_some sc.names n [] (.inl h)
 exact Option.isSome_iff_exists.mp q

theorem inv_start {CX : CXT} {P : Program} {w : World} {K : PySem.W.Frag} {mg : Str → Option Value} {base : Heap} {N ps : List Str} {qual : Str} {scope : Scope} {f : Addr} {cd : Value} {A : Around} {outer : List Env} {s s1 : Shared} {H : Hp} {E : XK} {us : List Value} {vs : List V}
  (S : FnScope N ps scope) (hd : A.handled = none) (e0 : Env0 P w K mg base A outer s H) (hl : vs.length = ps.length) (r : Vals vs us)
  (x : InCallC s s.heap.objs.size (bindL (envOfC qual scope s.heap.objs.size f cd).kindOf (ps.zip us) fun _ => none) (cellsFrom (s.heap.objs.size + 1) scope.names []) (bindC (envOfC qual scope s.heap.objs.size f cd).kindOf (ps.zip us) fun _ => none) s1) :
  Inv (cxOf CX P w K mg base N qual scope f cd A outer s H E) [] (start N vs) H s1 := by
 have hpl : ps.length ≤ N.length := by have := congrArg List.length S.pre; rw [List.length_take] at this; omega
 obtain ⟨h1, tk, rfl, hk⟩ := x.done
 have noA : ∀ b : Addr, b ∉ (cxOf CX P w K mg base N qual scope f cd A outer s H E).ex := fun b z => absurd (show b ∈ ([] : List Addr) from z) (by simp)
 refine ⟨⟨e0.mod, S.kind, rfl, rfl, Nat.le_refl _, fun y z c h1 h2 => ?_, fun y hy => ?_, fun y c _ h => ?_, fun _ => hd, Around.frames_deeper e0.frames, .inr ⟨rfl, rfl⟩, fun b z => absurd z (noA b), e0.bs, e0.bsz, fun b _ _ => noA b, fun b z => absurd z (noA b), e0.funs, e0.frf⟩,
  rfl, e0.bare, Un.kept hk, ⟨_, x.toInCall.ns, fun i y v h1 h2 h3 => ?_⟩, fun y c h => ⟨_, x.cell y c h⟩, e0.hok.fresh (Nat.le_refl _), fun y c h => ?_, fun p hp => absurd (show p ∈ ([] : List (Addr × Obj)) from hp) (by simp), e0.hok.kept hk, ?_⟩
 ·exact name_of_addr x.apart (PySem.mem_of_lookup h1) (PySem.mem_of_lookup h2)
 ·have hy : scope.names.lookup y = some .cell ∨ scope.names.lookup y = some .free := hy
  rcases hy with hy | hy
  ·exact cell_has hy
  ·exact absurd rfl (S.nofree _ (PySem.mem_of_lookup hy))
 ·exact Nat.le_of_lt (x.above y c (PySem.mem_of_lookup h))
 ·have hi : i < vs.length := by
   unfold start at h2
   by_cases hi : i < vs.length
   ·exact hi
   ·rw [List.getElem?_append_right (by simpa using hi)] at h2
    rw [List.getElem?_replicate] at h2
    split at h2 <;> cases h2
  have ha : vs[i]? = some v := by
   unfold start at h2
   rw [List.getElem?_append_left (by simpa using hi), List.getElem?_map] at h2
   cases e : vs[i]? with
   | none => rw [e] at h2; cases h2
   | some a => rw [e] at h2; cases h2; rfl
  obtain ⟨u, hu, rv⟩ := r.get ha
  have hp : ps[i]? = some y := by
   rw [← S.pre, List.getElem?_take_of_lt (by omega)]; exact h1
  have ndP : ps.Nodup := by rw [← S.pre]; exact S.nd.sublist (List.take_sublist _ _)
  refine ⟨u, rv, ?_⟩
  rcases S.par y (List.mem_of_getElem? hp) with k | k
  ·exact .inl ⟨k, bindL_get ndP hp hu k⟩
  ·obtain ⟨c, e⟩ := cell_has (n := s.heap.objs.size + 1) k
   refine .inr ⟨.inl k, c, e, ?_⟩
   have q := x.cell y c e
   rw [bindC_get ndP hp hu (by show scope.names.lookup y ≠ _; rw [k]; decide)] at q
   exact q
 ·exact e0.hok.fresh (Nat.le_of_lt (x.above y c (PySem.mem_of_lookup h)))
 ·unfold start
  show _ = N.length
  rw [List.length_append, List.length_map, List.length_replicate]
  omega

theorem fn_of {CX : CXT} {P : Program} {w : World} {K : PySem.W.Frag} {mg : Str → Option Value} {base : Heap} {k : Nat} {f : Addr} {name qual : Str} {params : Arguments} {body : List Stmt} {scope : Scope} {dV kV doc pm cdv ct oc : Value} {an od : Option Addr}
  {osl : Array (Option Value)} {N ps : List Str} {sp : Sp} (lk : K.lookup f = some ⟨oc, od, .func (PySem.W.fnOf name qual params body scope dV kV doc pm an cdv ct), osl⟩) (hcd : PySem.W.codeIn K cdv qual = true) (S : FnScope N ps scope)
  (len : ∀ vs H Q E, sp vs H Q E → vs.length = ps.length)
  (hbody : ∀ (A : Around) (outer : List Env) (s : Shared) (H : Hp) (vs : List V) (Q : VK) (E : XK), Room k (A.deeper (envOfC qual scope s.heap.objs.size f cdv)) → sp vs H Q E →
   ∃ t, PSs (cxOf CX P w K mg base N qual scope f cdv A outer s H E) body t ∧ t { nx := fun _ H' => Q .non H', rt := Q } (start N vs) H) :
  FnOk P w K mg base CX (k + 1) f (PySem.W.fnOf name qual params body scope dV kV doc pm an cdv ct) ps sp := by
 refine ⟨len, fun A outer s H args us vs Q E hr e0 hb r hsp => ?_⟩
 have hl := len _ _ _ _ hsp
 have KX : K.In s.heap := e0.mod.kin.keeps fun b o e => (e0.bs b o e).1
 have lim : s.heap.NoLimit := e0.mod.nolimit.keeps fun b o e => (e0.bs b o e).1
 have hkind : ∀ y ∈ ps.zip us, scope.names.lookup y.1 = some .local ∨ (scope.names.lookup y.1 = some .cell ∧ ((cellsFrom (s.heap.objs.size + 1) scope.names []).lookup y.1).isSome = true) := fun ⟨n, v⟩ hy => by
  rcases S.par n (List.of_mem_zip hy).1 with q | q
  ·exact .inl q
  ·exact .inr ⟨q, PySem.W.cellsFrom_some _ _ _ (.inl q)⟩
 refine codeAny_call_function hr.depth (KX _ _ lk) rfl S.co S.gen rfl (PySem.W.codeRec_of KX hcd) (hb _ _ _ _ ?_)
 refine wpAny_newFunctionEnv_cells S.kind hkind fun env he s1 x => ?_
 subst he
 refine ⟨lim.keeps x.toInCall.keep, codeAny_func ?_⟩
 obtain ⟨t, ht, hq⟩ := hbody A outer s H vs Q E (hr.deeper _) hsp
 have I : Inv (cxOf CX P w K mg base N qual scope f cdv A outer s H E) [] (start N vs) H s1 := inv_start S hr.hd e0 hl r x
 refine wpAny_mono (ht [] s1 (start N vs) H _ I hq) (fun fl s' hs => ?_) fun e s' hs => hs
 have fin : ∀ {σ' : St} {H' : Hp} {v : V} {u : Value}, Inv (cxOf CX P w K mg base N qual scope f cdv A outer s H E) [] σ' H' s' → RelV v u → Q v H' → CE outer P w H s Q u s' :=
  fun {σ' H' v u} J rv q => ⟨v, H', J.os, J.bare, J.base, J.hok, rv, q⟩
 cases fl with
 | ret u =>
  obtain ⟨v, σ', H', J, rv, q⟩ := hs
  exact fin J rv q
 | next =>
  obtain ⟨σ', H', J, q⟩ := hs
  exact fin (v := V.non) (u := Value.none) J rfl q
 | brk =>
  obtain ⟨_, _, _, q⟩ := hs
  exact False.elim q
 | cont =>
  obtain ⟨_, _, _, q⟩ := hs
  exact False.elim q
end L2

namespace L2
open PySem PySem.Spec PyProof.Rows
section
variable {X : Cx} {x : Str} {p pos : Pos} {e : Expr} {es : List Expr} {t : TA} {id T : String} {r : List V → Hp → VK → Prop}

noncomputable def tCB (r : List V → Hp → VK → Prop) (t : TA) : TE := fun σ H Q => t σ H fun vs H1 => r vs H1 Q
theorem pe_callB (hc : CallR X (.builtin id) r) (hg : Gl X x) (hm : X.mg x = none) (hv : bootBuiltins x = some (.builtin id)) (ha : PA X (e :: es) t) (hn : x ≠ "__name__" := by decide) (hdb : (x == ("__debug__" : Str)) = false := by decide)
  (he : starEach (e :: es) X.env = (false, eval e X.env) :: starEach es X.env := by rfl) (hpl : (backTo pos (starEach es X.env)).any (·.1) = false := by rfl) : PE X (.Call (.Name x p) (e :: es) [] pos) (tCB r t) := by
 intro pins s σ H Q I h
 refine wpAny_Call_Name_kw (ld_blt I hg hm hv ?_ hn hdb)
 exact PyProof.Rows.callWith_builtin1 (thn (ha pos pins s σ H _ I h) fun us s1 ⟨vs, H1, I1, r1, q1⟩ => hc pins s1 σ H1 vs us Q I1 r1 q1) he hpl
theorem pe_callTy (hc : CallR X (.type T) r) (hg : Gl X x) (hm : X.mg x = none) (hv : bootBuiltins x = some (.type T)) (ha : PA X (e :: es) t) (hn : x ≠ "__name__" := by decide) (hdb : (x == ("__debug__" : Str)) = false := by decide)
  (he : starEach (e :: es) X.env = (false, eval e X.env) :: starEach es X.env := by rfl) (hpl : (backTo pos (starEach es X.env)).any (·.1) = false := by rfl) : PE X (.Call (.Name x p) (e :: es) [] pos) (tCB r t) := by
 intro pins s σ H Q I h
 refine wpAny_Call_Name_kw (ld_blt I hg hm hv ?_ hn hdb)
 exact PyProof.Rows.callWith_type1 (thn (ha pos pins s σ H _ I h) fun us s1 ⟨vs, H1, I1, r1, q1⟩ => hc pins s1 σ H1 vs us Q I1 r1 q1) he hpl
end
end L2
namespace HT
open PySem PyProof.Rows



section
open PySem.SeqAt
open PySem.AutoSeq1 (wpAny_loadPart')
open PySem.MeetsSeq PySem.MeetsSeq2 PySem.MeetsSeq3

end

section
variable {prog : Program} {w : World} {A : Around} {E : Value → Shared → Prop} {s : Shared}


theorem cat_tup {t b : Addr} {vs ws : List Value} {Q : Value → Shared → Prop} (ht : IsTup s.heap t vs.toArray) (hb : IsTup s.heap b ws.toArray) (hv : vs ≠ [])
  (h1 : ws = [] → Q (.ref t) s) (h2 : ws ≠ [] → Q (.ref s.heap.objs.size) { s with heap := s.heap.push { cls := .type "tuple", data := .seq (vs ++ ws).toArray } })
  (hsz : vs.length + ws.length ≤ sizeLine) : wpAny (model prog w) A (binaryOp .Add (.ref t) (.ref b)) Q E s := by
 obtain ⟨⟨cls, dd, data, sl⟩, ho, hc, n, hd⟩ := id ht
 obtain ⟨⟨cls2, dd2, data2, sl2⟩, ho2, hc2, n2, hd2⟩ := id hb
 simp only at hc hd hc2 hd2
 subst hc hd hc2 hd2
 have e : vs.toArray ++ ws.toArray = (vs ++ ws).toArray := by simp
 by_cases hw : ws = []
 ·exact concat_meets ⟨_, ho, rfl⟩ ⟨_, ho2, rfl⟩ noFill_tuple_add seq_tuple_add PySem.F.slot_tuple_add PySem.F.entry_tuple_add (PySem.F.args_tuple_add_2 _ _)
   (tuple_addW1 t b vs.toArray ws.toArray n n2 dd dd2 sl sl2 (by simpa using hv) (by simp [hw])) ⟨ho, ho2, h1 hw⟩
 ·refine concat_meets ⟨_, ho, rfl⟩ ⟨_, ho2, rfl⟩ noFill_tuple_add seq_tuple_add PySem.F.slot_tuple_add PySem.F.entry_tuple_add (PySem.F.args_tuple_add_2 _ _)
   (tuple_addW2 t b vs.toArray ws.toArray n n2 dd dd2 sl sl2 (by simpa using hv) (by simpa using hw) (by rw [List.size_toArray, List.size_toArray]; exact hsz)) ⟨ho, ho2, ?_⟩
  rw [e]
  exact h2 hw

noncomputable def sIx (n d : Nat) : Option Int → Nat
 | none => d
 | some v => if v < 0 then (v + (n : Int)).toNat else min v.toNat n

end
end HT

namespace L2
open PySem PySem.Spec PyProof.Rows

noncomputable abbrev TO := St → Hp → (Option Int → Hp → Prop) → Prop
noncomputable def PO (X : Cx) (e : Option Expr) (t : TO) : Prop :=
 ∀ (pins : List (Addr × Obj)) (s : Shared) (σ : St) (H : Hp) (Q : Option Int → Hp → Prop), Inv X pins σ H s → t σ H Q →
  wpAny (model X.prog X.w) X.A (evalPart e X.env) (fun u s' => ∃ o H', Inv X pins σ H' s' ∧ IsPart u o ∧ Q o H') X.xe s
noncomputable def tNoPart : TO := fun _ H Q => Q none H
noncomputable def tPart (t : TE) : TO := fun σ H Q => t σ H fun x H1 => ∃ i, x = .int i ∧ Q (some i) H1


section
variable {X : Cx} {e : Expr} {te : TE} {lo hi : Option Expr} {tl th : TO} {pos p2 : Pos}

theorem po_none : PO X none tNoPart := by
 intro pins s σ H Q I h
 rw [evalPart_none]
 exact wpAny_pure ⟨none, H, I, .none, h⟩
theorem po_some (h : PE X e te) : PO X (some e) (tPart te) := by
 intro pins s σ H Q I hw
 rw [evalPart_some]
 refine thn (h pins s σ H _ I hw) fun u s1 ⟨x, H1, I1, r1, q1⟩ => ?_
 obtain ⟨i, rfl, q⟩ := q1
 obtain ⟨t, rfl⟩ := r1
 exact ⟨some i, H1, I1, .int i t, q⟩

noncomputable def SlR (X : Cx) (r : V → Option Int → Option Int → Hp → VK → Prop) : Prop :=
 ∀ (pins : List (Addr × Obj)) (s : Shared) (σ : St) (H : Hp) (x : V) (v vl vu : Value) (lo hi : Option Int) (sl : Addr) (Q : VK), Inv X pins σ H s → RelV x v → s.heap.IsSliceOf sl vl vu .none → IsPart vl lo → IsPart vu hi → r x lo hi H Q →
  ∃ T id, typeLookup (.type T) "__getitem__" = pure (some (.builtin id)) ∧ s.TypeIs v T ∧ wpAny (model X.prog X.w) X.A (getItem v (.ref sl)) (EP X pins σ Q) X.xe s
noncomputable def tSl (r : V → Option Int → Option Int → Hp → VK → Prop) (te : TE) (tl th : TO) : TE := fun σ H Q => te σ H fun x H1 => tl σ H1 fun l H2 => th σ H2 fun u H3 => r x l u H3 Q
theorem pe_slice {r : V → Option Int → Option Int → Hp → VK → Prop} (hr : SlR X r) (he : PE X e te) (hl : PO X lo tl) (hu : PO X hi th) : PE X (.Subscript e (.Slice lo hi none p2) pos) (tSl r te tl th) := by
 intro pins s σ H Q I h
 refine Subscript_ (thn (he pins s σ H _ I h) fun v s1 ⟨x, H1, I1, r1, q1⟩ => ?_)
 refine wpAny_Slice (thn (hl pins s1 σ H1 _ I1 q1) fun vl s2 ⟨l, H2, I2, pl, q2⟩ => thn (hu pins s2 σ H2 _ I2 q2) fun vu s3 ⟨u, H3, I3, pu, q3⟩ => ?_)
 rw [evalPart_none]
 refine wpAny_pure ?_
 have I4 : Inv X pins σ H3 { s3 with heap := s3.heap.push { cls := .type "slice", data := .fields #[vl, vu, .none] } } := I3.kept (t' := s3.toks) fun b ob q => Heap.get?_push_of_some _ q
 obtain ⟨T, id, hT, ht, hg⟩ := hr pins { s3 with heap := s3.heap.push { cls := .type "slice", data := .fields #[vl, vu, .none] } } σ H3 x v vl vu l u s3.heap.objs.size Q I4 r1 (Heap.IsSliceOf.new ..) pl pu q3
 show wpAny (model X.prog X.w) X.A (subscriptTail e (.Slice lo hi none p2) v (.ref s3.heap.objs.size)) (EP X pins σ Q) X.xe { s3 with heap := s3.heap.push { cls := .type "slice", data := .fields #[vl, vu, .none] } }
 exact tail_any (ops := [.ref s3.heap.objs.size, v]) ht hT hg (by with_unfolding_all rfl)

noncomputable def cutV (xs : List V) (lo hi : Option Int) : List V := (xs.drop (HT.sIx xs.length 0 lo)).take (HT.sIx xs.length xs.length hi - HT.sIx xs.length 0 lo)
theorem cutV_length (xs : List V) (lo hi : Option Int) : (cutV xs lo hi).length ≤ xs.length := by
 unfold cutV
 rw [List.length_take, List.length_drop]
 omega

noncomputable def rCatT (K : PySem.W.Frag) : R2 := fun x y H Q => ∃ a b xs ys, x = .ref a ∧ y = .ref b ∧ SqT K H a xs ∧ SqT K H b ys ∧ xs ≠ [] ∧ xs.length + ys.length ≤ sizeLine ∧
 (ys = [] → Q (.ref a) H) ∧ (ys ≠ [] → ∀ p, H p = none → Q (.ref p) (upd H p (.tup (xs ++ ys))))
theorem Vals.nil_iff {xs : List V} {us : List Value} (r : Vals xs us) : us = [] ↔ xs = [] := by
 cases r with
 | nil => simp
 | cons _ _ => simp
theorem op_catT : OpR X (binaryOp .Add) (rCatT X.K) := by
 intro pins s σ H x y v u Q I rx ry h
 obtain ⟨a, b, xs, ys, rfl, rfl, ha, hb, hx, hz, q1, q2⟩ := h
 cases rx
 cases ry
 obtain ⟨its, r1, p1, _⟩ := I.tuple ha
 obtain ⟨its2, r2, p2, _⟩ := I.tuple hb
 refine HT.cat_tup p1 p2 (fun z => hx (r1.nil_iff.mp z)) (fun z => ⟨.ref a, H, I, rfl, q1 (r2.nil_iff.mp z)⟩) (fun z => ?_) (by rw [← r1.length, ← r2.length]; exact hz)
 refine ⟨.ref s.heap.objs.size, _, I.laid (t' := s.toks) (o := .tup (xs ++ ys)) (fun b ob q => Heap.get?_push_of_some _ q) (Nat.le_refl _) ?_, rfl, q2 (fun w => z (r2.nil_iff.mpr w)) _ (I.hok.fresh (Nat.le_refl _))⟩
 exact ⟨by rw [List.length_append]; exact hz, _, r1.append r2, IsTup.new _ _⟩
end
end L2

namespace L2
open PySem PySem.Spec PyProof.Rows

noncomputable def ixN (n : Nat) (i : Int) : Option Nat := if 0 ≤ i then (if i < n then some i.toNat else none) else if -(n : Int) ≤ i then some (i + n).toNat else none
noncomputable def atI {α : Type} (xs : List α) (i : Int) : Option α := (ixN xs.length i).bind fun j => xs[j]?
theorem ixN_seq {n : Nat} {i : Int} {j : Nat} (h : ixN n i = some j) : seqIndex? i n = some j ∧ j < n ∧ -(n : Int) ≤ i ∧ i < n := by
 unfold ixN at h
 by_cases h0 : 0 ≤ i
 ·rw [if_pos h0] at h
  by_cases h1 : i < n
  ·rw [if_pos h1] at h
   have e : i.toNat = j := Option.some.inj h
   exact ⟨by rw [seqIndex_of h0 h1, e], by omega, by omega, h1⟩
  ·rw [if_neg h1] at h; cases h
 ·rw [if_neg h0] at h
  by_cases h1 : -(n : Int) ≤ i
  ·rw [if_pos h1] at h
   have e : (i + n).toNat = j := Option.some.inj h
   exact ⟨by rw [seqIndex_neg (by omega) h1, e], by omega, h1, by omega⟩
  ·rw [if_neg h1] at h; cases h
theorem atI_get {α : Type} {xs : List α} {i : Int} {v : α} (h : atI xs i = some v) : ∃ j, seqIndex? i xs.length = some j ∧ xs[j]? = some v ∧ j < xs.length ∧ -(xs.length : Int) ≤ i ∧ i < xs.length := by
 unfold atI at h
 cases e : ixN xs.length i with
 | none => rw [e] at h; cases h
 | some j =>
  rw [e] at h
  obtain ⟨h1, h2, h3, h4⟩ := ixN_seq e
  exact ⟨j, h1, h, h2, h3, h4⟩

noncomputable def PlainIx (b : Expr) : Prop := ∀ o i, subscripted b false o i = operate [o, i] (getItem o i)
noncomputable def IxR (X : Cx) (r : R2) : Prop :=
 ∀ (value slice : Expr) (pins : List (Addr × Obj)) (s : Shared) (σ : St) (H : Hp) (x y : V) (v u : Value) (Q : VK), Inv X pins σ H s → RelV x v → RelV y u → r x y H Q →
  subscripted slice false v u = operate [v, u] (getItem v u) → wpAny (model X.prog X.w) X.A (subscriptTail value slice v u) (EP X pins σ Q) X.xe s
noncomputable def MtR (X : Cx) (id : String) (r : V → List V → Hp → VK → Prop) : Prop :=
 ∀ (pins : List (Addr × Obj)) (s : Shared) (σ : St) (H : Hp) (x : V) (xs : List V) (v : Value) (us : List Value) (Q : VK), Inv X pins σ H s → RelV x v → Vals xs us → r x xs H Q →
  wpAny (model X.prog X.w) X.A (call (.builtin id) (v :: us)) (EP X pins σ Q) X.xe s
section
variable {X : Cx} {a b : Expr} {ta tb : TE} {pos : Pos}
theorem IxR.or {r r' : R2} (h : IxR X r) (h' : IxR X r') : IxR X (fun x y H Q => r x y H Q ∨ r' x y H Q) := by
 intro value slice pins s σ H x y v u Q I rx ry q hs
 rcases q with q | q
 ·exact h value slice pins s σ H x y v u Q I rx ry q hs
 ·exact h' value slice pins s σ H x y v u Q I rx ry q hs
theorem pe_ix {r : R2} (hr : IxR X r) (ha : PE X a ta) (hb : PE X b tb) (hs : PlainIx b) : PE X (.Subscript a b pos) (tOp r ta tb) := by
 intro pins s σ H Q I h
 exact Subscript_ (binT ha hb I h fun v u s2 x y H2 I2 rx ry q => hr a b pins s2 σ H2 x y v u Q I2 rx ry q (hs _ _))

noncomputable def rIxL (K : PySem.W.Frag) : R2 := fun x y H Q => ∃ p xs i v, x = .ref p ∧ y = .int i ∧ SqL K H p xs ∧ atI xs i = some v ∧ Q v H
noncomputable def rIxT (K : PySem.W.Frag) : R2 := fun x y H Q => ∃ p xs i v, x = .ref p ∧ y = .int i ∧ SqT K H p xs ∧ atI xs i = some v ∧ Q v H
noncomputable def rIxS : R2 := fun x y H Q => ∃ z i c, x = .str z ∧ y = .int i ∧ z.length ≤ sizeLine ∧ atI z.cps.toList i = some c ∧ Q (.str ⟨#[c]⟩) H
theorem ix_list : IxR X (rIxL X.K) := by
 intro value slice pins s σ H x y v u Q I rx ry h hs
 obtain ⟨p, xs, i, z, rfl, rfl, hq, he, q⟩ := h
 cases rx
 obtain ⟨t, rfl⟩ := ry
 obtain ⟨its, r, pl, hz⟩ := I.list hq
 obtain ⟨j, h1, h2, h3, h4, h5⟩ := atI_get he
 obtain ⟨w, ew, rw'⟩ := r.get h2
 have hl := r.length
 have hn := line63
 have fin : EP X pins σ Q w s := ⟨z, H, I, rw', q⟩
 by_cases h0 : 0 ≤ i
 ·have hj : i.toNat = j := by
   rw [seqIndex_of h0 h5] at h1
   exact Option.some.inj h1
  exact item_listR pl.isList h0 (by omega) (by rw [hj]; simpa using ew) fin hs
 ·have hj : (i + (its.toArray.size : Int)).toNat = j := by
   rw [seqIndex_neg (by omega) h4] at h1
   rw [List.size_toArray, ← hl]
   exact Option.some.inj h1
  exact subscriptTail_builtinR (x := w) pl.isList.typeIs slot_list_getitem.lookup
   (wpAny_getItem_list_neg (Q := fun r s' => r = w ∧ EP X pins σ Q r s') pl.isList (by omega) (by rw [List.size_toArray] <;> omega) (by omega) (by rw [hj]; simpa using ew) ⟨rfl, fin⟩) hs
theorem ix_tup : IxR X (rIxT X.K) := by
 intro value slice pins s σ H x y v u Q I rx ry h hs
 obtain ⟨p, xs, i, z, rfl, rfl, hq, he, q⟩ := h
 cases rx
 obtain ⟨t, rfl⟩ := ry
 obtain ⟨its, r, pl, hz⟩ := I.tuple hq
 obtain ⟨j, h1, h2, h3, h4, h5⟩ := atI_get he
 obtain ⟨w, ew, rw'⟩ := r.get h2
 have hl := r.length
 have hn := line63
 have fin : EP X pins σ Q w s := ⟨z, H, I, rw', q⟩
 exact subscriptTail_builtinR (x := w) pl.typeIs slot_tuple_getitem.lookup
  (getItem_tuple (j := j) (Q := fun r s' => r = w ∧ EP X pins σ Q r s') pl (by omega) (by omega) (by rw [List.size_toArray, ← hl]; exact h1) (by simpa using ew) ⟨rfl, fin⟩) hs
theorem ix_str : IxR X rIxS := by
 intro value slice pins s σ H x y v u Q I rx ry h hs
 obtain ⟨z, i, c, rfl, rfl, hz, he, q⟩ := h
 obtain ⟨t, rfl⟩ := rx
 obtain ⟨t', rfl⟩ := ry
 obtain ⟨j, h1, h2, h3, h4, h5⟩ := atI_get he
 have hl : z.cps.toList.length = z.length := by simp [Str.length]
 rw [hl] at h1 h4 h5
 have hn := line63
 exact tail_any (typeIs_str s z t) slot_str_getitem.lookup (getItem_str (c := c) (by
  have e1 : decide (i < -(2 ^ 63 : Int)) = false := decide_eq_false (by omega)
  have e2 : decide (i ≥ 2 ^ 63) = false := decide_eq_false (by omega)
  rw [e1, e2, Bool.or_false]) (by rw [h1]; simpa using h2) ⟨.str ⟨#[c]⟩, H, I.tok _, ⟨_, rfl⟩, q⟩) hs
noncomputable def rIx (K : PySem.W.Frag) : R2 := fun x y H Q => rIxL K x y H Q ∨ rIxT K x y H Q ∨ rIxS x y H Q
theorem ix_seq : IxR X (rIx X.K) := ix_list.or (ix_tup.or ix_str)

theorem mapSeq_set (its : List Value) (n j : Nat) (u : Value) : Obj.mapSeq (·.setIfInBounds j u) { cls := .type "list", data := .seq its.toArray n } = { cls := .type "list", data := .seq (its.set j u).toArray n } := by
 simp [Obj.mapSeq]
theorem Inv.lst {pins : List (Addr × Obj)} {σ : St} {H : Hp} {s : Shared} {p : Addr} {xs : List V} (I : Inv X pins σ H s) (h : H p = some (.lst xs)) :
  ∃ (its : List Value) (n : Nat), Vals xs its ∧ s.heap.get? p = some { cls := .type "list", data := .seq its.toArray n } ∧ xs.length ≤ sizeLine := by
 obtain ⟨z, its, n, r, e⟩ := I.hok p _ h
 exact ⟨its, n, r, e, z⟩
theorem Inv.lstUpd {pins : List (Addr × Obj)} {σ : St} {H : Hp} {s : Shared} {p : Addr} {xs ys : List V} {its its' : List Value} {n n' : Nat} {f : Obj → Obj} (I : Inv X pins σ H s) (h : H p = some (.lst xs))
  (ho : s.heap.get? p = some { cls := .type "list", data := .seq its.toArray n }) (hf : f { cls := .type "list", data := .seq its.toArray n } = { cls := .type "list", data := .seq its'.toArray n' }) (r : Vals ys its') (hz : ys.length ≤ sizeLine) (t : Nat) :
  Inv X pins σ (upd H p (.lst ys)) { s with heap := s.heap.update p f, toks := t } := by
 have e : (s.heap.update p f).get? p = some { cls := .type "list", data := .seq its'.toArray n' } := by
  rw [Heap.get?_update_self f ho (by rw [hf] <;> rfl), hf]
 refine I.write (x := p) (e := p) (by rw [h]; trivial) (.inl rfl) (fun b u hb q => (Heap.get?_update_other _ _ (Ne.symm hb)).trans q) ⟨_, e⟩ ?_
 exact ⟨hz, its', n', r, e⟩
noncomputable def rSetL : V → V → V → Hp → (Hp → Prop) → Prop := fun o i v H Q => ∃ p xs k j, o = .ref p ∧ i = .int k ∧ H p = some (.lst xs) ∧ ixN xs.length k = some j ∧ Q (upd H p (.lst (xs.set j v)))
theorem set_list : PSet X rSetL := by
 intro pins s σ H o i v ov iv u Q I ro ri rv h
 obtain ⟨p, xs, k, j, rfl, rfl, hp, hj, q⟩ := h
 cases ro
 obtain ⟨t, rfl⟩ := ri
 obtain ⟨its, n, r, ho, hz⟩ := I.lst hp
 obtain ⟨h1, h2, h3, h4⟩ := ixN_seq hj
 have hl := r.length
 have hn := line63
 have I' : Inv X pins σ (upd H p (.lst (xs.set j v))) { s with heap := s.heap.update p (Obj.mapSeq (·.setIfInBounds j u)) } :=
  I.lstUpd hp ho (mapSeq_set its n j u) (r.set rv j) (by rw [List.length_set]; exact hz) s.toks
 by_cases h0 : 0 ≤ k
 ·have hk : k.toNat = j := by
   rw [seqIndex_of h0 h4] at h1
   exact Option.some.inj h1
  exact PySem.W.ki_setAt ho h0 (by omega) (by rw [List.size_toArray, ← hl]; exact h4) (by rw [hk]; exact ⟨_, I', q⟩)
 ·have hk : (k + (its.toArray.size : Int)).toNat = j := by
   rw [seqIndex_neg (by omega) h3] at h1
   rw [List.size_toArray, ← hl]
   exact Option.some.inj h1
  exact PySem.W.ki_setBack ho (by omega) (by rw [List.size_toArray, ← hl]; exact h3) (by omega) (by rw [hk]; exact ⟨_, I', q⟩)

theorem slice_bounds (lo hi : Option Int) (n : Nat) : (sliceBounds lo hi none n).1 = ((HT.sIx n 0 lo : Nat) : Int) ∧ (sliceBounds lo hi none n).2.1 = ((HT.sIx n n hi : Nat) : Int) ∧ (sliceBounds lo hi none n).2.2 = 1 := by
 refine ⟨?_, ?_, rfl⟩
 ·cases lo with
  | none => simp [sliceBounds, HT.sIx]
  | some i =>
   simp only [sliceBounds, HT.sIx, Option.getD_none, show (1 : Int) > 0 by decide, if_true]
   by_cases h : i < 0
   ·simp only [h, if_true] <;> omega
   ·simp only [h, if_false] <;> omega
 ·cases hi with
  | none => simp [sliceBounds, HT.sIx]
  | some i =>
   simp only [sliceBounds, HT.sIx, Option.getD_none, show (1 : Int) > 0 by decide, if_true]
   by_cases h : i < 0
   ·simp only [h, if_true] <;> omega
   ·simp only [h, if_false] <;> omega
theorem slicePick_cut (its : List Value) (lo hi : Option Int) : slicePick its.toArray lo hi none = ((its.drop (HT.sIx its.length 0 lo)).take (HT.sIx its.length its.length hi - HT.sIx its.length 0 lo)).toArray := by
 obtain ⟨h1, h2, h3⟩ := slice_bounds lo hi its.toArray.size
 unfold slicePick
 rw [h1, h2, h3]
 simp only [sliceRange_one, pick_run, List.size_toArray] <;> rfl
noncomputable def rSlL (K : PySem.W.Frag) : V → Option Int → Option Int → Hp → VK → Prop := fun x lo hi H Q => ∃ a xs, x = .ref a ∧ SqL K H a xs ∧ ∀ p, H p = none → Q (.ref p) (upd H p (.lst (cutV xs lo hi)))
theorem sl_list : SlR X (rSlL X.K) := by
 intro pins s σ H x v vl vu lo hi sl Q I rx hs pl pu h
 obtain ⟨a, xs, rfl, hx, q⟩ := h
 cases rx
 obtain ⟨its, r, ht, hz⟩ := I.list hx
 have hlen := r.length
 refine ⟨"list", _, slot_list_getitem.lookup, ht.isList.typeIs, ?_⟩
 refine wpAny_getItem_list_slice ht.isList hs pl pu .none (by simp) ?_ (by rw [List.size_toArray] <;> omega)
 rw [slicePick_cut, ← hlen]
 refine ⟨.ref s.heap.objs.size, _, I.laid (t' := s.toks) (o := .lst (cutV xs lo hi)) (fun b ob q => Heap.get?_push_of_some _ q) (Nat.le_refl _) ?_, rfl, q _ (I.hok.fresh (Nat.le_refl _))⟩
 exact ⟨Nat.le_trans (cutV_length xs lo hi) hz, _, 0, (r.drop (HT.sIx xs.length 0 lo)).take (HT.sIx xs.length xs.length hi - HT.sIx xs.length 0 lo), Heap.get?_push_size _ rfl⟩


theorem call_len_seq : CallR X (.builtin "len") (fun xs H Q => ∃ p ys, xs = [.ref p] ∧ (SqL X.K H p ys ∨ SqT X.K H p ys) ∧ Q (.int ys.length) H) := by
 intro pins s σ H xs us Q I r h
 obtain ⟨p, ys, rfl, hq, q⟩ := h
 obtain ⟨u, rfl, rx⟩ := vals1 r
 cases rx
 have hn := line63
 rcases hq with hq | hq
 ·obtain ⟨its, r', pl, hz⟩ := I.list hq
  have hlen := r'.length
  exact Calls.call_len_list pl.isList (by simp only [List.size_toArray] <;> omega) ⟨.int ys.length, H, I.tok _, ⟨s.toks + 1, by rw [List.size_toArray, hlen]⟩, q⟩
 ·obtain ⟨its, r', pl, hz⟩ := I.tuple hq
  have hlen := r'.length
  exact len_tuple pl (by simp only [List.size_toArray] <;> omega) ⟨.int ys.length, H, I.tok _, ⟨s.toks + 1, by rw [List.size_toArray, hlen]⟩, q⟩
theorem call_list_of : CallR X (.type "list") (fun xs H Q => ∃ p ys, xs = [.ref p] ∧ (SqL X.K H p ys ∨ SqT X.K H p ys) ∧ ∀ l, H l = none → Q (.ref l) (upd H l (.lst ys))) := by
 intro pins s σ H xs us Q I r h
 obtain ⟨p, ys, rfl, hq, q⟩ := h
 obtain ⟨u, rfl, rx⟩ := vals1 r
 cases rx
 have fin : ∀ (its : List Value), Vals ys its → ys.length ≤ sizeLine → ∀ (h' : Heap) (c' : Nat), (∀ b o', s.heap.get? b = some o' → h'.get? b = some o') →
   h'.get? s.heap.objs.size = some { cls := .type "list", dict := none, data := .seq its.toArray c', slots := #[] } → EP X pins σ Q (.ref s.heap.objs.size) { s with heap := h' } := fun its r' hz h' c' kp e =>
  ⟨.ref s.heap.objs.size, _, I.laid (t' := s.toks) kp (Nat.le_refl _) (show ObjOk X.prog X.w _ h' _ (.lst ys) from ⟨hz, its, c', r', e⟩), rfl, q _ (I.hok.fresh (Nat.le_refl _))⟩
 rcases hq with hq | hq
 ·obtain ⟨its, r', pl, hz⟩ := I.list hq
  have hlen := r'.length
  obtain ⟨o, ho, hc, n, hd⟩ := pl.isList
  exact call_list_seq p (.inl rfl) ho hc hd (fun h' c' kp e => fin its r' hz h' c' kp e) (by simp only [List.size_toArray] <;> omega)
 ·obtain ⟨its, r', pl, hz⟩ := I.tuple hq
  have hlen := r'.length
  obtain ⟨o, ho, hc, n, hd⟩ := pl
  exact call_list_seq p (.inr rfl) ho hc hd (fun h' c' kp e => fin its r' hz h' c' kp e) (by simp only [List.size_toArray] <;> omega)
theorem call_tuple_of : CallR X (.type "tuple") (fun xs H Q => ∃ p ys, xs = [.ref p] ∧ ((SqL X.K H p ys ∧ ∀ l, H l = none → Q (.ref l) (upd H l (.tup ys))) ∨ (SqT X.K H p ys ∧ Q (.ref p) H))) := by
 intro pins s σ H xs us Q I r h
 obtain ⟨p, ys, rfl, h⟩ := h
 obtain ⟨u, rfl, rx⟩ := vals1 r
 cases rx
 rcases h with ⟨hq, q⟩ | ⟨hq, q⟩
 ·obtain ⟨its, r', pl, hz⟩ := I.list hq
  have hlen := r'.length
  refine call_tuple_list pl.isList (fun h' kp => ?_) (by simp only [List.size_toArray] <;> omega)
  have I1 : Inv X pins σ H { s with heap := h' } := I.kept (t' := s.toks) kp
  have I2 : Inv X pins σ (upd H h'.objs.size (.tup ys)) { s with heap := h'.push { cls := .type "tuple", data := .seq its.toArray } } :=
   I1.laid (t' := s.toks) (fun b o e => Heap.get?_push_of_some _ e) (Nat.le_refl _) (show ObjOk X.prog X.w _ _ _ (.tup ys) from ⟨hz, its, r', IsTup.new _ _⟩)
  exact ⟨.ref h'.objs.size, _, I2, rfl, q _ (I1.hok.fresh (Nat.le_refl _))⟩
 ·obtain ⟨its, r', pl, hz⟩ := I.tuple hq
  exact call_tuple_same pl ⟨.ref p, H, I, rfl, q⟩

noncomputable def tyV (K : PySem.W.Frag) (T : String) (x : V) (H : Hp) : Prop := match x with
 | .str _ => T = "str"
 | .int _ => T = "int"
 | .ref p => (T = "list" ∧ ∃ xs, SqL K H p xs) ∨ (T = "tuple" ∧ ∃ o, K.lookup p = some o ∧ o.cls = .type "tuple" ∧ o.dict = none) ∨
   (T = "dict" ∧ ((∃ kvs, H p = some (.dK kvs)) ∨ ∃ kvs, H p = some (.dT kvs))) ∨ (T = "set" ∧ ∃ S n, H p = some (.set S n))
 | _ => False
theorem tyV_is {pins : List (Addr × Obj)} {σ : St} {H : Hp} {s : Shared} {T : String} {x : V} {v : Value} (I : Inv X pins σ H s) (r : RelV x v) (ty : tyV X.K T x H) :
  s.TypeIs v T ∧ ∀ a, v = .ref a → ∃ ob, s.heap.get? a = some ob ∧ ob.dict = none := by
 cases x with
 | str z =>
  obtain ⟨t, rfl⟩ := r
  cases (show T = "str" from ty)
  exact ⟨typeIs_str s z t, fun _ e => nomatch e⟩
 | int i =>
  obtain ⟨t, rfl⟩ := r
  cases (show T = "int" from ty)
  exact ⟨typeIs_int s i t, fun _ e => nomatch e⟩
 | ref p =>
  cases r
  rcases ty with ⟨rfl, xs, hq⟩ | ⟨rfl, o, hk, hc, hd⟩ | ⟨rfl, hk⟩ | ⟨rfl, S, n, hk⟩
  ·obtain ⟨its, _, pl, _⟩ := I.list hq
   refine ⟨pl.isList.typeIs, fun a e => ?_⟩
   cases e
   obtain ⟨o, n, e, c, hd, _⟩ := pl
   exact ⟨o, e, hd⟩
  ·refine ⟨⟨o, I.kIn p o hk, hc⟩, fun a e => ?_⟩
   cases e
   exact ⟨o, I.kIn _ o hk, hd⟩
  ·have z : ∃ o, s.heap.get? p = some o ∧ o.ExactDict := by
    rcases hk with ⟨kvs, hk⟩ | ⟨kvs, hk⟩
    ·obtain ⟨_, _, _, _, o, _, _, e, ex, _⟩ := I.hok p _ hk
     exact ⟨o, e, ex⟩
    ·obtain ⟨_, _, _, _, o, _, _, e, ex, _⟩ := I.hok p _ hk
     exact ⟨o, e, ex⟩
   obtain ⟨o, e, ex⟩ := z
   refine ⟨⟨o, e, ex.1⟩, fun a e2 => ?_⟩
   cases e2
   exact ⟨o, e, ex.2.1⟩
  ·obtain ⟨o, _, _, _, e, ex, _⟩ := I.hok p _ hk
   refine ⟨⟨o, e, ex.1⟩, fun a e2 => ?_⟩
   cases e2
   exact ⟨o, e, ex.2.1⟩
 | _ => exact False.elim ty
noncomputable def tBM0 (K : PySem.W.Frag) (T : String) (r : V → List V → Hp → VK → Prop) (to : TE) : TE := fun σ H Q => to σ H fun x H1 => tyV K T x H1 ∧ r x [] H1 Q
noncomputable def tBM (K : PySem.W.Frag) (T : String) (r : V → List V → Hp → VK → Prop) (to : TE) (t : TA) : TE := fun σ H Q => to σ H fun x H1 => tyV K T x H1 ∧ t σ H1 fun xs H2 => r x xs H2 Q
variable {o e : Expr} {es : List Expr} {to : TE} {t : TA} {name : Str} {apos cpos : Pos} {T id : String} {r : V → List V → Hp → VK → Prop}
theorem pe_bm0 (pa : PlainAttrs T) (slot : Slot T name id) (hty : typeOf (.builtin id) = pure (.type "method_descriptor")) (hm : MtR X id r) (ho : PE X o to)
  (hbase : attributeBase o name X.env (eval o X.env) = eval o X.env := by rfl) (hline : (apos.endLine == cpos.line) = true := by rfl) : PE X (.Call (.Attribute o name apos) [] [] cpos) (tBM0 X.K T r to) := by
 intro pins s σ H Q I h
 refine wpAny_Call_method0_late hbase hline (thn (ho pins s σ H _ I h) fun v s1 ⟨x, H1, I1, r1, ty, q1⟩ => ?_)
 obtain ⟨h1, h2⟩ := tyV_is I1 r1 ty
 exact ⟨T, id, pa, slot, hty, h1, h2, Calls.callWith_builtin rfl (PySem.evalArgs_none (hm pins s1 σ H1 x [] v [] Q I1 r1 .nil q1))⟩
theorem pe_bm (pa : PlainAttrs T) (slot : Slot T name id) (hty : typeOf (.builtin id) = pure (.type "method_descriptor")) (hm : MtR X id r) (ho : PE X o to) (ha : PA X (e :: es) t)
  (hbase : attributeBase o name X.env (eval o X.env) = eval o X.env := by rfl)
  (hfew : ((backTo cpos (starEach (e :: es) X.env)).all (fun x => !x.1) && (backToKw cpos (keywordEach [] X.env)).all (fun x => x.1.isSome)
   && decide ((e :: es).length + ([] : List Keyword).length + (if ([] : List Keyword).isEmpty then 0 else 1) < 30)) = true := by rfl)
  (hline : (apos.endLine == cpos.line) = true := by rfl) (hs : starEach (e :: es) X.env = (false, eval e X.env) :: starEach es X.env := by rfl) (hplain : (backTo cpos (starEach es X.env)).any (·.1) = false := by rfl) :
  PE X (.Call (.Attribute o name apos) (e :: es) [] cpos) (tBM X.K T r to t) := by
 intro pins s σ H Q I h
 refine wpAny_Call_method_late hbase hfew hline rfl (thn (ho pins s σ H _ I h) fun v s1 ⟨x, H1, I1, r1, ty, q1⟩ => ?_)
 obtain ⟨h1, h2⟩ := tyV_is I1 r1 ty
 refine ⟨T, id, pa, slot, hty, h1, h2, ?_⟩
 have hA := ha cpos pins s1 σ H1 _ I1 q1
 rw [hs] at hA ⊢
 refine Calls.callWith_builtin (by show (false || (backTo cpos (starEach es X.env)).any (·.1)) = false; rw [hplain] <;> rfl) (Calls.evalArgs_plain ?_)
 exact thn hA fun us s2 ⟨vs, H2, I2, r2, q2⟩ => hm pins s2 σ H2 x vs v us Q I2 r1 r2 q2
/- xs.append(e), list.index on a module's tuple .. are MtR facts of 06m -/
end
end L2

namespace L2
open PySem PySem.Spec PyProof.Rows

noncomputable def MtM (X : Cx) (id : String) (r : V → List V → Hp → VK → Prop) : Prop :=
 ∀ (pins : List (Addr × Obj)) (s : Shared) (σ : St) (H : Hp) (x : V) (xs : List V) (v : Value) (us : List Value) (Q : VK), Inv X pins σ H s → RelV x v → Vals xs us → r x xs H Q →
  wpAny (model X.prog X.w) X.A (call (.builtin id) (v :: us)) (EP X pins σ Q) X.xe s

theorem Vals.one : ∀ {x : V} {us : List Value}, Vals [x] us → ∃ u, us = [u] ∧ RelV x u
 | _, _, .cons r .nil => ⟨_, rfl, r⟩
theorem Vals.zero : ∀ {us : List Value}, Vals [] us → us = []
 | _, .nil => rfl
theorem Vals.dropLast {xs : List V} {us : List Value} (h : Vals xs us) : Vals xs.dropLast us.dropLast := by
 induction h with
 | nil => exact .nil
 | cons r t ih =>
  cases t with
  | nil => exact .nil
  | cons q t' => exact .cons r ih
theorem Vals.reverse {xs : List V} {us : List Value} (h : Vals xs us) : Vals xs.reverse us.reverse := by
 induction h with
 | nil => exact .nil
 | cons r t ih => rw [List.reverse_cons, List.reverse_cons]; exact Vals.append ih (.cons r .nil)
theorem erase_last {α : Type} (l : List α) : l.eraseIdx (l.length - 1) = l.dropLast := by
 induction l with
 | nil => rfl
 | cons a r ih =>
  cases r with
  | nil => rfl
  | cons b r =>
   have e : (a :: b :: r).length - 1 = ((b :: r).length - 1) + 1 := by
    have h1 : (a :: b :: r).length = r.length + 2 := rfl
    have h2 : (b :: r).length = r.length + 1 := rfl
    omega
   rw [e, List.eraseIdx_cons_succ, ih]
   all_goals rfl

section
variable {X : Cx} {pins : List (Addr × Obj)} {σ : St} {H : Hp} {s : Shared} {l b : Addr} {xs ys zs : List V}

theorem Inv.lset {its its' : List Value} {n : Nat} {f : Array Value → Array Value} {t' : Nat} (I : Inv X pins σ H s) (hH : H l = some (.lst xs))
  (e : s.heap.get? l = some { cls := .type "list", data := .seq its.toArray n }) (hf : f its.toArray = its'.toArray) (hv : Vals ys its') (hz : ys.length ≤ sizeLine) :
  Inv X pins σ (upd H l (.lst ys)) { s with heap := s.heap.update l (Obj.mapSeq f), toks := t' } := by
 have q := PySem.IsL.update e f
 rw [hf] at q
 refine I.write (x := l) (e := l) (by rw [hH]; exact trivial) (.inl rfl) (fun b' u hb hu => (Heap.get?_update_other s.heap (Obj.mapSeq f) (Ne.symm hb)).trans hu) ⟨_, q⟩ ?_
 exact ⟨hz, its', _, hv, q⟩
theorem Inv.lstM (I : Inv X pins σ H s) (hH : H l = some (.lst xs)) : xs.length ≤ sizeLine ∧ ∃ (its : List Value) (n : Nat), Vals xs its ∧ xs.length = its.length ∧ s.heap.get? l = some { cls := .type "list", data := .seq its.toArray n } := by
 obtain ⟨z, its, n, r, e⟩ := I.hok l _ hH
 exact ⟨z, its, n, r, r.length, e⟩

end

section
variable {X : Cx}

noncomputable def rAppend : V → List V → Hp → VK → Prop := fun x vs H Q => ∃ l xs y, x = .ref l ∧ vs = [y] ∧ H l = some (.lst xs) ∧ xs.length < sizeLine ∧ Q .non (upd H l (.lst (xs ++ [y])))
theorem mt_append : MtM X "list.append" rAppend := by
 intro pins s σ H x vs v us Q I rx rv h
 obtain ⟨l, xs, y, rfl, rfl, hH, hz, q⟩ := h
 cases rx
 obtain ⟨u, rfl, ru⟩ := rv.one
 obtain ⟨z, its, n, r, hl, e⟩ := I.lstM hH
 refine call_meets F.slot_list_append ⟨_, e, rfl⟩ F.entry_list_append (F.args_list_append_2 _ _) (PySem.list_append l its.toArray n u (by rw [List.size_toArray]; omega)) ⟨e, ?_⟩
 refine ⟨.non, _, I.lset (its' := its ++ [u]) hH e (by simp) (r.append (.cons ru .nil)) ?_, rfl, q⟩
 rw [List.length_append, List.length_singleton]
 omega


noncomputable def rPop : V → List V → Hp → VK → Prop := fun x vs H Q => ∃ l xs y, x = .ref l ∧ vs = [] ∧ H l = some (.lst xs) ∧ xs[xs.length - 1]? = some y ∧ Q y (upd H l (.lst xs.dropLast))
theorem mt_pop : MtM X "list.pop" rPop := by
 intro pins s σ H x vs v us Q I rx rv h
 obtain ⟨l, xs, y, rfl, rfl, hH, hy, q⟩ := h
 cases rx
 have hus := rv.zero
 subst hus
 obtain ⟨z, its, n, r, hl, e⟩ := I.lstM hH
 obtain ⟨u, hu, ru⟩ := r.get hy
 have hy' : its.toArray[its.toArray.size - 1]? = some u := by
  show its.toArray[its.length - 1]? = some u
  rw [← Array.getElem?_toList, ← hl]
  exact hu
 refine call_meets F.slot_list_pop ⟨_, e, rfl⟩ F.entry_list_pop (F.args_list_pop_1 _) (MeetsSeq.list_pop_last l its.toArray n u hy' (by rw [List.size_toArray]; omega)) ⟨e, ?_⟩
 refine ⟨y, _, I.lset (its' := its.dropLast) hH e ?_ r.dropLast ?_, ru, q⟩
 ·show its.toArray.eraseIdxIfInBounds (its.toArray.size - 1) = its.dropLast.toArray
  rw [List.size_toArray, List.eraseIdxIfInBounds_toArray, erase_last]
 ·rw [List.length_dropLast]
  omega





end

section
variable {prog : Program} {w : World} {A : Around} {E : Value → Shared → Prop} {s : Shared}
end

section
variable {X : Cx}
end
end L2
namespace L2
open PySem PySem.Spec PyProof.Rows

section
variable {κ : Type} [DecidableEq κ]
noncomputable def valV (kvs : List (κ × V)) (k : κ) : Option V := (kvs.find? fun kv => decide (kv.1 = k)).map (·.2)
noncomputable def putK (kvs : List (κ × V)) (k : κ) (v : V) : List (κ × V) :=
 if (kvs.any fun kv => decide (kv.1 = k)) = true then kvs.map (fun kv => if kv.1 = k then (kv.1, v) else kv) else kvs ++ [(k, v)]

theorem valV_pos {p : κ × V} {r : List (κ × V)} {k : κ} (e : p.1 = k) : valV (p :: r) k = some p.2 := by simp [valV, List.find?_cons, e]
theorem valV_neg {p : κ × V} {r : List (κ × V)} {k : κ} (e : ¬ p.1 = k) : valV (p :: r) k = valV r k := by simp [valV, List.find?_cons, e]
theorem valV_any (k : κ) : ∀ kvs : List (κ × V), (kvs.any fun kv => decide (kv.1 = k)) = (valV kvs k).isSome
 | [] => rfl
 | p :: r => by
  rw [List.any_cons]
  by_cases e : p.1 = k
  ·simp only [valV_pos e, decide_eq_true e, Bool.true_or, Option.isSome_some]
  ·rw [valV_neg e, decide_eq_false e, Bool.false_or]; exact valV_any k r
theorem length_putK (kvs : List (κ × V)) (k : κ) (v : V) : (putK kvs k v).length ≤ kvs.length + 1 := by
 unfold putK
 split
 ·rw [List.length_map]; omega
 ·rw [List.length_append, List.length_cons, List.length_nil]; omega

theorem RelO.isSome_eq {o : Option V} {u : Option Value} (r : RelO o u) : o.isSome = u.isSome := by
 cases o with
 | none => cases u with
  | none => rfl
  | some _ => exact (show False from r).elim
 | some _ => cases u with
  | none => exact (show False from r).elim
  | some _ => rfl

theorem KV.val {kvs : List (κ × V)} {vs : List (κ × Value)} (r : KV kvs vs) (k : κ) : RelO (valV kvs k) (valueAt vs k) := by
 unfold KV at r
 induction r with
 | nil => exact True.intro
 | @cons p q ps qs h t ih =>
  obtain ⟨h1, h2⟩ := h
  by_cases e : p.1 = k
  ·have e' : q.1 = k := h1.symm.trans e
   have b : valueAt (q :: qs) k = some q.2 := by simp [valueAt, List.find?_cons, e']
   rw [valV_pos e, b]; exact h2
  ·have e' : ¬ q.1 = k := fun z => e (h1.trans z)
   have b : valueAt (q :: qs) k = valueAt qs k := by simp [valueAt, List.find?_cons, e']
   rw [valV_neg e, b]; exact ih
theorem KV.any {kvs : List (κ × V)} {vs : List (κ × Value)} (r : KV kvs vs) (k : κ) : (kvs.any fun kv => decide (kv.1 = k)) = vs.any fun kv => decide (kv.1 = k) := by
 unfold KV at r
 induction r with
 | nil => rfl
 | cons h t ih => rw [List.any_cons, List.any_cons, ih, h.1]
theorem KV.repl {kvs : List (κ × V)} {vs : List (κ × Value)} (r : KV kvs vs) (k : κ) {y : V} {u : Value} (ry : RelV y u) :
  KV (kvs.map fun kv => if kv.1 = k then (kv.1, y) else kv) (vs.map fun kv => if kv.1 = k then (kv.1, u) else kv) := by
 unfold KV at r ⊢
 induction r with
 | nil => exact .nil
 | @cons p q ps qs h t ih =>
  rw [List.map_cons, List.map_cons]
  refine .cons ?_ ih
  obtain ⟨h1, h2⟩ := h
  by_cases e : p.1 = k
  ·rw [if_pos e, if_pos (h1.symm.trans e)]; exact ⟨h1, ry⟩
  ·rw [if_neg e, if_neg (fun z => e (h1.trans z))]; exact ⟨h1, h2⟩
theorem KV.put {kvs : List (κ × V)} {vs : List (κ × Value)} (r : KV kvs vs) (k : κ) {y : V} {u : Value} (ry : RelV y u) : KV (putK kvs k y) (stored vs k u) := by
 unfold putK stored
 rw [r.any k]
 by_cases e : (vs.any fun kv => decide (kv.1 = k)) = true
 ·rw [if_pos e, if_pos e]; exact r.repl k ry
 ·rw [if_neg e, if_neg e]; exact Paired.snoc r ⟨rfl, ry⟩
theorem KV.length {kvs : List (κ × V)} {vs : List (κ × Value)} (r : KV kvs vs) : kvs.length = vs.length := Paired.length r
end


theorem kV_is {P : Program} {w : World} {k : Key} {u : Value} (r : RelV (kV k) u) : (mixKind P w).is k u = true := by
 cases k with
 | inl i => obtain ⟨t, e⟩ := (show ∃ t, u = Value.int i t from r); subst e; exact mixKind_int P w i t
 | inr x => obtain ⟨t, e⟩ := (show ∃ t, u = Value.str x t from r); subst e; exact mixKind_str P w x t
theorem items_are {P : Program} {w : World} : ∀ {ks : List Key} {us : List Value}, Vals (ks.map kV) us → ItemsAre (mixKind P w) ks us
 | [], _, r => by rw [List.map_nil] at r; cases r; exact .nil
 | k :: ks, _, r => by
  rw [List.map_cons] at r
  cases r with
  | cons h t => exact .cons (kV_is h) (items_are t)

noncomputable abbrev KT (H : Hp) : List (List Key × V) → List (List Key × Addr × Value) → Prop := Paired fun p q => p.1 = q.1 ∧ H q.2.1 = some (.tup (p.1.map kV)) ∧ RelV p.2 q.2.2
theorem KT.val {H : Hp} {kvs : List (List Key × V)} {xs : List (List Key × Addr × Value)} (r : KT H kvs xs) (k : List Key) : RelO (valV kvs k) ((atKey xs k).map (·.2)) := by
 induction r with
 | nil => exact True.intro
 | @cons p q ps qs h t ih =>
  obtain ⟨h1, _, h2⟩ := h
  by_cases e : p.1 = k
  ·have e' : q.1 = k := h1.symm.trans e
   have b : atKey (q :: qs) k = some q.2 := by simp [atKey, List.find?_cons, e']
   rw [valV_pos e, b]; exact h2
  ·have e' : ¬ q.1 = k := fun z => e (h1.trans z)
   have b : atKey (q :: qs) k = atKey qs k := by simp [atKey, List.find?_cons, e']
   rw [valV_neg e, b]; exact ih
theorem KT.repl {H : Hp} {kvs : List (List Key × V)} {xs : List (List Key × Addr × Value)} (r : KT H kvs xs) (k : List Key) {y : V} {u : Value} (ry : RelV y u) :
  KT H (kvs.map fun kv => if kv.1 = k then (kv.1, y) else kv) (xs.map (putAt k u)) := by
 induction r with
 | nil => exact .nil
 | @cons p q ps qs h t ih =>
  rw [List.map_cons, List.map_cons]
  refine .cons ?_ ih
  obtain ⟨h1, h2, h3⟩ := h
  unfold putAt
  by_cases e : p.1 = k
  ·rw [if_pos e, if_pos (h1.symm.trans e)]; exact ⟨h1, h2, ry⟩
  ·rw [if_neg e, if_neg (fun z => e (h1.trans z))]; exact ⟨h1, h2, h3⟩
theorem KT.put {H : Hp} {kvs : List (List Key × V)} {xs : List (List Key × Addr × Value)} (r : KT H kvs xs) (k : List Key) {b : Addr} {y : V} {u : Value} (hb : H b = some (.tup (k.map kV))) (ry : RelV y u) :
  KT H (putK kvs k y) (storedH xs k b u) := by
 have e : (kvs.any fun kv => decide (kv.1 = k)) = (atKey xs k).isSome := by
  rw [valV_any, (r.val k).isSome_eq, Option.isSome_map]
 unfold putK storedH
 rw [e]
 by_cases q : (atKey xs k).isSome = true
 ·rw [if_pos q, if_pos q]; exact r.repl k ry
 ·rw [if_neg q, if_neg q]; exact Paired.snoc r ⟨rfl, hb, ry⟩
theorem KT.keeps {H H' : Hp} {kvs : List (List Key × V)} {xs : List (List Key × Addr × Value)} (r : KT H kvs xs) (ht : ∀ b ys, H b = some (.tup ys) → H' b = some (.tup ys)) : KT H' kvs xs :=
 Paired.mapP r fun _ _ z => ⟨z.1, ht _ _ z.2.1, z.2.2⟩

section
variable {P : Program} {w : World} {H : Hp} {h : Heap} {a : Addr}
theorem rd_of {u : HO} (ok : HOk P w H h) (e : Rd H a u) : ObjOk P w H h a u := e.ok ok
theorem dk_rd {kvs : List (Key × V)} (ok : HOk P w H h) (e : Rd H a (.dK kvs)) : kvs.length ≤ sizeLine ∧ (a == sysModules) = false ∧ ∃ vs, KV kvs vs ∧ h.DictOf (mixKind P w) a vs :=
 show ObjOk P w H h a (.dK kvs) from rd_of ok e
theorem dk_of {kvs : List (Key × V)} (ok : HOk P w H h) (e : H a = some (.dK kvs)) : kvs.length ≤ sizeLine ∧ (a == sysModules) = false ∧ ∃ vs, KV kvs vs ∧ h.DictOf (mixKind P w) a vs := dk_rd ok (.inl e)
theorem key_of {ks : List Key} (ok : HOk P w H h) (e : H a = some (.tup (ks.map kV))) : (tupleKind (mixKind P w)).is h ks a := by
 obtain ⟨_, its, r, o, h1, h2, n, h3⟩ := (show ObjOk P w H h a (.tup (ks.map kV)) from ok a _ e)
 exact ⟨o, its.toArray, n, h1, h2, h3, by simpa using items_are r⟩
theorem dt_rd {kvs : List (List Key × V)} (ok : HOk P w H h) (e : Rd H a (.dT kvs)) : kvs.length ≤ sizeLine ∧ (a == sysModules) = false ∧
  ∃ xs, KT H kvs xs ∧ h.DictOfH (tupleKind (mixKind P w)) a xs := by
 obtain ⟨z, y, xs, r, o, es, ep, h1, h2, h3, h4, h5⟩ := (show ObjOk P w H h a (.dT kvs) from rd_of ok e)
 refine ⟨z, y, xs, r, o, es, ep, h1, h2, h3, h4, fun x hx => ?_, h5⟩
 have all : ∀ {l : List (List Key × V)} {m : List (List Key × Addr × Value)}, KT H l m → ∀ x ∈ m, (tupleKind (mixKind P w)).is h x.1 x.2.1 := by
  intro l m q
  induction q with
  | nil => intro x hx; exact nomatch hx
  | @cons p q ps qs hq t ih =>
   intro x hx
   rcases List.mem_cons.mp hx with e | hx
   ·subst e
    exact key_of ok (by rw [← hq.1]; exact hq.2.1)
   ·exact ih x hx
 exact all r x hx
theorem dt_of {kvs : List (List Key × V)} (ok : HOk P w H h) (e : H a = some (.dT kvs)) : kvs.length ≤ sizeLine ∧ (a == sysModules) = false ∧
  ∃ xs, KT H kvs xs ∧ h.DictOfH (tupleKind (mixKind P w)) a xs := dt_rd ok (.inl e)
end

noncomputable def DGet (H : Hp) (a : Addr) (y : V) (r : Option V) : Prop :=
 (∃ kvs k, Rd H a (.dK kvs) ∧ y = kV k ∧ r = valV kvs k) ∨ ∃ kvs k b, Rd H a (.dT kvs) ∧ y = .ref b ∧ H b = some (.tup (k.map kV)) ∧ r = valV kvs k
noncomputable def DPut (H : Hp) (a : Addr) (y v : V) (H' : Hp) : Prop :=
 (∃ kvs k, H a = some (.dK kvs) ∧ y = kV k ∧ kvs.length < sizeLine ∧ H' = upd H a (.dK (putK kvs k v))) ∨
 ∃ kvs k b, H a = some (.dT kvs) ∧ y = .ref b ∧ H b = some (.tup (k.map kV)) ∧ kvs.length < sizeLine ∧ H' = upd H a (.dT (putK kvs k v))
theorem DGet.k {H : Hp} {a : Addr} {kvs : List (Key × V)} {k : Key} (e : H a = some (.dK kvs)) : DGet H a (kV k) (valV kvs k) := .inl ⟨kvs, k, .inl e, rfl, rfl⟩
theorem DPut.k {H : Hp} {a : Addr} {kvs : List (Key × V)} {k : Key} {v : V} (e : H a = some (.dK kvs)) (hl : kvs.length < sizeLine) : DPut H a (kV k) v (upd H a (.dK (putK kvs k v))) := .inl ⟨kvs, k, e, rfl, hl, rfl⟩


section
variable {X : Cx} {pins : List (Addr × Obj)} {σ : St} {H : Hp} {s : Shared} {a : Addr} {y v : V} {u r : Value} {o : Option V} {A : Around} {E : Value → Shared → Prop}

theorem Inv.big (I : Inv X pins σ H s) : sysModules < s.heap.objs.size := by
 have h : mainGlobals < s.heap.objs.size := (I.mod.glob.keeps I.bk).lt
 exact Nat.lt_trans (by decide) h

theorem d_getItem {Q : Value → Shared → Prop} (hu : A.units + 1 < cLine) (I : Inv X pins σ H s) (g : DGet H a y (some v)) (ry : RelV y u) (h : ∀ w' s', Inv X pins σ H s' → RelV v w' → Q w' s') :
  wpAny (model X.prog X.w) A (getItem (.ref a) u) Q E s := by
 rcases g with ⟨kvs, k, e, ey, l⟩ | ⟨kvs, k, b, e, ey, eb, l⟩
 ·subst ey
  obtain ⟨z, hd, vs, rel, dd⟩ := dk_rd I.hok e
  obtain ⟨w', hw, rw'⟩ := RelO.some_of (v := v) (o := valueAt vs k) (by rw [l]; exact rel.val k)
  exact wpAny_getItem_of (kV_is ry) dd.mapOf hw (h w' _ (I.tok _) rw')
 ·subst ey
  cases (show u = Value.ref b from ry)
  obtain ⟨z, hd, xs, rel, dd⟩ := dt_rd I.hok e
  obtain ⟨w', hw, rw'⟩ := RelO.some_of (v := v) (o := (atKey xs k).map (·.2)) (by rw [l]; exact rel.val k)
  obtain ⟨p, hp, hp2⟩ := Option.map_eq_some_iff.mp hw
  refine wpAny_getItem_heap (tupleKind_room_in1 hu) (key_of I.hok eb) dd hp ?_
  rw [hp2]
  exact h w' _ (I.tok _) rw'
theorem d_notIn {Q : Value → Shared → Prop} (hu : A.units + 1 < cLine) (I : Inv X pins σ H s) (g : DGet H a y o) (ry : RelV y u) (h : ∀ s', Inv X pins σ H s' → Q (.bool (!o.isSome)) s') :
  wpAny (model X.prog X.w) A (compareOp .NotIn u (.ref a)) Q E s := by
 rcases g with ⟨kvs, k, e, ey, l⟩ | ⟨kvs, k, b, e, ey, eb, l⟩
 ·subst ey
  obtain ⟨z, hd, vs, rel, dd⟩ := dk_rd I.hok e
  refine wpAny_notIn_of (kV_is ry) hd dd.mapOf ?_
  rw [← (rel.val k).isSome_eq, ← l]
  exact h _ (I.tok _)
 ·subst ey
  cases (show u = Value.ref b from ry)
  obtain ⟨z, hd, xs, rel, dd⟩ := dt_rd I.hok e
  refine wpAny_notIn_heap (tupleKind_room_in1 hu) (key_of I.hok eb) hd dd ?_
  have q := (rel.val k).isSome_eq
  rw [Option.isSome_map] at q
  rw [← q, ← l]
  exact h _ (I.tok _)
theorem d_write {h' : Heap} {t' : Nat} {ob : HO} (I : Inv X pins σ H s) (mu : Mut (H a)) (hs : Heap.SameBut a s.heap h') (he : ∃ q, h'.get? a = some q) (new : ObjOk X.prog X.w (upd H a ob) h' a ob) :
  Inv X pins σ (upd H a ob) { s with heap := h', toks := t' } :=
 I.write (x := a) (e := a) mu (.inl rfl) (fun b q hb z => (hs.2 b hb).trans z) he new
theorem dk_new {P : Program} {w : World} {H' : Hp} {h' : Heap} {kvs : List (Key × V)} {vs : List (Key × Value)} (z : kvs.length ≤ sizeLine) (hd : (a == sysModules) = false) (rel : KV kvs vs) (dd : h'.DictOf (mixKind P w) a vs) :
  ObjOk P w H' h' a (.dK kvs) := ⟨z, hd, vs, rel, dd⟩
theorem d_setItem {H' : Hp} {Q : Unit → Shared → Prop} (hu : A.units + 1 < cLine) (I : Inv X pins σ H s) (g : DPut H a y v H') (ry : RelV y u) (rv : RelV v r) (h : ∀ s', Inv X pins σ H' s' → Q () s') :
  wpAny (model X.prog X.w) A (setItem (.ref a) u r) Q E s := by
 rcases g with ⟨kvs, k, e, ey, l, eH⟩ | ⟨kvs, k, b, e, ey, eb, l, eH⟩
 ·subst ey eH
  obtain ⟨z, hd, vs, rel, dd⟩ := dk_of I.hok e
  have hz : vs.length ≤ sizeLine := by rw [← rel.length]; exact z
  have hl : (putK kvs k v).length ≤ sizeLine := by have := length_putK kvs k v; omega
  refine wpAny_setItem_pairs (hsz := hz) (kV_is ry) dd fun h' dd' hs => h _ ?_
  have he : ∃ q, h'.get? a = some q := let ⟨q, _, _, hq, _⟩ := dd'; ⟨q, hq⟩
  exact d_write I (by rw [e]; exact True.intro) hs he (dk_new hl hd (rel.put k rv) dd')
 ·subst ey eH
  cases (show u = Value.ref b from ry)
  obtain ⟨z, hd, xs, rel, dd⟩ := dt_of I.hok e
  have hz : xs.length ≤ sizeLine := by rw [← Paired.length rel]; exact z
  have hl : (putK kvs k v).length ≤ sizeLine := by have := length_putK kvs k v; omega
  refine wpAny_setItem_heap (hsz := hz) (tupleKind_room_in1 hu) (key_of I.hok eb) dd fun h' dd' hs => h _ ?_
  obtain ⟨q, es, ep, hq, h2, h3, h4, _, h5⟩ := dd'
  refine d_write I (by rw [e]; exact True.intro) hs ⟨q, hq⟩ ⟨hl, hd, _, (rel.put k eb rv).keeps fun c ys ec => ?_, q, es, ep, hq, h2, h3, h4, h5⟩
  rw [upd_ne (ne_of ec e (fun z => nomatch z))]
  exact ec
end

section
variable {X : Cx} {pins : List (Addr × Obj)} {σ : St} {H : Hp} {s : Shared} {a : Addr} {kvs : List (Key × V)} {k : Key} {u : Value} {A : Around} {E : Value → Shared → Prop}
end


noncomputable def NoSl (i : Expr) : Prop := ∀ ov iv, subscripted i false ov iv = operate [ov, iv] (getItem ov iv)
theorem subD_of {prog : Program} {w : World} {A : Around} {E : Value → Shared → Prop} {s : Shared} {env : Env} {value slice : Expr} {pos : Pos} {T id : String} {Q : Value → Shared → Prop}
  (hl : typeLookup (.type T) "__getitem__" = pure (some (.builtin id))) (hs : NoSl slice)
  (h : wpAny (model prog w) A (eval value env) (fun o s₁ => wpAny (model prog w) A (eval slice env) (fun i s₂ => s₂.TypeIs o T ∧ wpAny (model prog w) A (getItem o i) Q E s₂) E s₁) E s) :
  wpAny (model prog w) A (eval (.Subscript value slice pos) env) Q E s := by
 refine Subscript_ (wpAny_mono h (fun o s₁ h₁ => wpAny_mono h₁ (fun i s₂ h₂ => ?_) fun _ _ x => x) fun _ _ x => x)
 obtain ⟨hT, h₂⟩ := h₂
 unfold subscriptTail
 refine wpAny_bind ?_
 rw [getitemInPython_of_ne hT.not_modules]
 refine wpAny_bind (wpAny_specialOf hT hl ?_)
 have fin : wpAny (model prog w) A (subscripted slice false o i) (fun r s₃ => wpAny (model prog w) A (letTemporaryGo value o r >>= fun _ => pure r) Q E s₃) E s₂ := by
  rw [hs o i]
  exact wpAny_operating (wpAny_mono h₂ (fun r s₃ h₃ => wpAny_bind (wpAny_letTemporaryGo (wpAny_pure h₃))) fun _ _ x => x)
 first
  | exact wpAny_pure (wpAny_bind fin)
  | exact wpAny_bind (wpAny_pure (wpAny_bind fin))
  | exact wpAny_bind fin

theorem dict_typeIs {X : Cx} {pins : List (Addr × Obj)} {σ : St} {H : Hp} {s : Shared} {a : Addr} {y : V} {o : Option V} (I : Inv X pins σ H s) (g : DGet H a y o) : s.TypeIs (.ref a) "dict" := by
 rcases g with ⟨kvs, k, e, _, _⟩ | ⟨kvs, k, b, e, _, _, _⟩
 ·obtain ⟨_, _, vs, _, dd⟩ := dk_rd I.hok e
  exact dd.typeIs
 ·obtain ⟨_, _, xs, _, dd⟩ := dt_rd I.hok e
  exact dd.typeIs


section
variable {X : Cx} {o i e value : Expr} {pos pos' tpos : Pos} {td ty tv : TE}
end


theorem dk_empty {P : Program} {w : World} {H : Hp} (h : Heap) (hb : sysModules < h.objs.size) : ObjOk P w H (h.push { cls := .type "dict", data := .dict #[] }) h.objs.size (.dK []) :=
 ⟨Nat.zero_le _, beq_eq_false_iff_ne.mpr (Ne.symm (Nat.ne_of_lt hb)), [], .nil, Heap.DictOf.new h⟩
noncomputable def tDNewK : TE := fun _ H Q => ∀ p, H p = none → Q (.ref p) (upd H p (.dK []))
section
variable {X : Cx} {pos : Pos}
theorem pe_dnewK : PE X (.Dict [] [] pos) tDNewK := fun pins s σ H Q I h =>
 wpAny_Dict_empty ⟨.ref s.heap.objs.size, _, I.laid (a := s.heap.objs.size) (o := .dK []) (t' := s.toks) (fun _ _ q => Heap.get?_push_of_some _ q) (Nat.le_refl _) (dk_empty s.heap I.big), rfl, h _ (I.hok.fresh (Nat.le_refl _))⟩
end

noncomputable abbrev VV : List (V × V) → List (Value × Value) → Prop := Paired fun p q => RelV p.1 q.1 ∧ RelV p.2 q.2



structure M1 (X : Cx) (o : Expr) (m : Str) (apos : Pos) (e : Expr) (cpos : Pos) : Prop where
 base : attributeBase o m X.env (eval o X.env) = eval o X.env
 few : ((backTo cpos (starEach [e] X.env)).all (fun x => !x.1) && (backToKw cpos (keywordEach [] X.env)).all (fun x => x.1.isSome)
  && decide (([e] : List Expr).length + ([] : List Keyword).length + (if ([] : List Keyword).isEmpty then 0 else 1) < 30)) = true
 line : (apos.endLine == cpos.line) = true
 trees : backTo cpos (starEach [e] X.env) = [(false, eval e X.env)]
structure M2 (X : Cx) (o : Expr) (m : Str) (apos : Pos) (e f : Expr) (cpos : Pos) : Prop where
 base : attributeBase o m X.env (eval o X.env) = eval o X.env
 few : ((backTo cpos (starEach [e, f] X.env)).all (fun x => !x.1) && (backToKw cpos (keywordEach [] X.env)).all (fun x => x.1.isSome)
  && decide (([e, f] : List Expr).length + ([] : List Keyword).length + (if ([] : List Keyword).isEmpty then 0 else 1) < 30)) = true
 line : (apos.endLine == cpos.line) = true
 trees : backTo cpos (starEach [e, f] X.env) = [(false, eval e X.env), (false, eval f X.env)]


section
variable {X : Cx} {pins : List (Addr × Obj)} {σ : St} {H : Hp} {s : Shared} {a : Addr} {y d : V} {u r : Value} {o : Option V} {A : Around} {E : Value → Shared → Prop}
end

section
variable {X : Cx} {o e f : Expr} {apos cpos : Pos} {td ty tx : TE}
end

section
variable {X : Cx} {pins : List (Addr × Obj)} {σ : St} {H : Hp} {s : Shared} {a : Addr} {kvs : List (Key × V)} {A : Around} {E : Value → Shared → Prop}
end


section
variable {X : Cx} {pins : List (Addr × Obj)} {σ : St} {H : Hp} {s : Shared} {a : Addr} {y : V} {u : Value} {A : Around} {E : Value → Shared → Prop}
end
end L2
namespace Att
open PySem PySem.W PySem.Calls PyProof.Rows

theorem ints_of_wellAll {P : Params} {h : Heap} : ∀ (ns : List Int) (vs : List Value), WellAll P h vs (ns.map WData.int) → IntsAre vs ns := by
 intro ns
 induction ns with
 | nil =>
  intro vs w
  rw [List.map_nil] at w
  cases w
  exact .nil
 | cons n ns ih =>
  intro vs w
  rw [List.map_cons] at w
  cases w with
  | cons a b =>
   cases a
   exact .cons _ _ (ih _ b)

theorem script_of {l : OpenLaw} {n : Nat} (hn : l.most = some n) {P : Params} {h : Heap} {args : List WData} {vals : List Value}
  (hpre : l.row.toRowW.claim.pre args = true) (hwl : WellAll P h vals args) :
  ∃ a vs ns, vals = [Value.ref a] ∧ args = [WData.list (ns.map WData.int)] ∧ h.get? a = some { cls := .type "list", data := .seq vs.toArray } ∧ IntsAre vs ns ∧ ns.length ≤ n := by
 have hsh : WShape.hasAll [] args [.list .int] = true := (pre_splitW hpre).1
 have hc : l.pre.holds [] { args := args } = true := (pre_splitW hpre).2
 obtain ⟨d, r, rfl, h1, h2⟩ := hasAllW_cons hsh
 obtain rfl := hasAllW_nil h2
 obtain ⟨xs, rfl, h3⟩ := hasW_list h1
 obtain ⟨ns, rfl⟩ := items_int h3
 have hlen : ns.length ≤ n := by
  unfold OpenLaw.pre at hc
  have h4 : (WTm.not (.lt (.lit (.int (n : Int))) (.len (.arg 0)))).holds [] { args := [.list (ns.map .int)] } = true := by
   have h4 := (holds_andW hc).1
   rw [hn] at h4
   exact h4
  have h5 := condW_of h4 (w_not (w_lt w_lit (w_len_list (w_arg rfl))))
  rw [List.length_map] at h5
  refine Nat.le_of_not_lt fun q => ?_
  have q' : (n : Int) < ((ns.length : Nat) : Int) := by omega
  first
   | (rw [decide_eq_true q'] at h5; exact absurd h5 (by decide))
   | (simp at h5; omega)
 cases hwl with
 | cons w1 w2 =>
  cases w2
  cases w1 with
  | list ho hall => exact ⟨_, _, ns, rfl, rfl, ho, ints_of_wellAll ns _ hall, hlen⟩

theorem post_true (l : OpenLaw) (args : List WData) : l.row.toRowW.claim.post args (.bool true) args = true :=
 postW_of (r := l.row.toRowW) (X := (true == true))
  (show WShape.has [] (.bool true) .bool = true by first | rfl | decide | simp [WShape.has, WShape.arms, WShape.armsAll])
  (show (WTm.eq .res (.lit (.bool true))).value [] { args := args, res := some (.bool true), after := args } = some (.bool (true == true)) from w_eq_bool (w_res rfl) w_lit) rfl


theorem attach_call {l : OpenLaw} {n : Nat} {q : Program} {loose : List Str} {XP : (Str → Option Value) → Heap → Prop} {YP : World → Heap → Prop} {d : DefRec}
  (hn : l.most = some n) (hdf : d.params.defaults = [])
  (call : ∀ (w : World) (s₀ s₁ : Shared) (mg mb : Str → Option Value) (fa : Addr) (o : Obj) (pm cd doc : Value) (a : Addr) (vs : List Value) (ns : List Int),
   Ground q loose [] XP w s₀ mg mb s₁.heap → YP w s₁.heap →
   s₁.heap.get? fa = some o → o.data = .func (docDef d.name d.params d.body d.scope pm cd doc) → s₁.heap.CodeRec cd d.name → mg d.name = some (.ref fa) →
   s₁.heap.get? a = some { cls := .type "list", data := .seq vs.toArray } → IntsAre vs ns → ns.length ≤ n → s₁.gens = #[] →
   codeAny (model l.prog w) callerA (.call (.ref fa) ⟨[.ref a], []⟩) (fun r s' => r = .ok (.ret (.bool true)) ∧ OldK s₁.heap s'.heap ∧ s'.os = s₁.os ∧ AllBare s'.gens) s₁) :
  WalkO q loose XP YP l.row.toRowW d [] (fun f vs => PySem.call f vs) := by
 intro w s₀ s₁ mg mb G Y fa o pm cd doc dV kV ho hd hcd hD hmg hg args vals as hpre hlay hrd hwl hlo
 obtain rfl : dV = .none := Dflts.none hD hdf
 obtain rfl : kV = .none := Dflts.noKw hD
 obtain ⟨a, vs, ns, rfl, rfl, hobj, hints, hlen⟩ := script_of hn hpre hwl
 refine enter_call (codeAny_mono (call w s₀ s₁ mg mb fa o pm cd doc a vs ns G Y ho (fd_plain hd) hcd hmg hobj hints hlen hg) fun r s' hq => ?_)
 obtain ⟨rfl, h2, h3, h4⟩ := hq
 exact ⟨.inl ⟨.bool true, .bool true, [], rfl, fun _ => rfl, .bool true, post_true l _, fun _ => ⟨List.Pairwise.nil, fun _ hm => (nomatch hm)⟩⟩, h2, h3, h4⟩


section
variable {prog : Program} {w : World} {A : Around} {E : Value → Shared → Prop} {s : Shared} {K : Frag}






end
end Att

namespace L2
open PySem PySem.Spec PyProof.Rows

theorem vals_ints : ∀ {vs : List Value} {ns : List Int}, IntsAre vs ns → Vals (ns.map V.int) vs
 | _, _, .nil => .nil
 | _, _, .cons n t h => .cons ⟨t, rfl⟩ (vals_ints h)

noncomputable def Only (H : Hp) : Prop := ∀ b, H b = none ∨ ∃ o xs, H b = some (.frz o (.lst xs))

theorem law_call {P : Program} {w : World} {K : PySem.W.Frag} {mg mb : Str → Option Value} {CX : CXT} {k : Nat} {fa a : Addr} {fd : FuncData} {x : Str} {sp : Sp} {s₁ : Shared} {vs : List Value} {ns : List Int}
  (KX : K.In s₁.heap) (hns : s₁.heap.Ns mainGlobals mg) (hb : s₁.heap.Ns builtinsNs mb) (hbb : ∀ x : Str, x ≠ "__name__" → mb x = bootBuiltins x) (hlim : s₁.heap.NoLimit) (hg : s₁.gens = #[])
  (ha : s₁.heap.get? a = some { cls := .type "list", data := .seq vs.toArray }) (hi : IntsAre vs ns) (hl : ns.length ≤ sizeLine) (hr : Room k callerA)
  (F : ∀ base : Heap, K.In base → base.Ns mainGlobals mg → FnOk P w K mg base CX k fa fd [x] sp) (hbind : ∀ (s : Shared) (u : Value), BindsTo s fd ⟨[u], []⟩ [(x, u)])
  (hsp : ∀ H : Hp, Only H → SqX K H a (ns.map V.int) → sp [.ref a] H (fun v _ => v = .bl true) fun _ _ _ => False)
  (hCX : ∀ H e s', CX [] H s₁ (fun _ _ _ => False) e s' → False) :
  codeAny (model P w) callerA (.call (.ref fa) ⟨[.ref a], []⟩) (fun r s' => r = .ok (.ret (.bool true)) ∧ OldK s₁.heap s'.heap ∧ s'.os = s₁.os ∧ AllBare s'.gens) s₁ := by
 have rv := vals_ints hi
 have lenV := hi.length
 have core : ∀ H : Hp, Only H → SqX K H a (ns.map V.int) → HOk P w H s₁.heap → (∀ b, H b ≠ none → b = a) → (H a ≠ none → K.lookup a = none) →
   codeAny (model P w) callerA (.call (.ref fa) ⟨[.ref a], []⟩) (fun r s' => r = .ok (.ret (.bool true)) ∧ OldK s₁.heap s'.heap ∧ s'.os = s₁.os ∧ AllBare s'.gens) s₁ := by
  intro H hO hS hok hA hK
  have base_of : ∀ {b : Addr} {o : Obj}, s₁.heap.get? b = some o → H b = none → (hidT s₁.heap H).get? b = some o := fun e n => hidT_get e n
  have noA : ∀ {b : Addr} {o : Obj} {es : Array DictEntry} {ep : Nat}, s₁.heap.get? b = some o → o.data = .dict es ep → H b = none := fun {b o es ep} e d => by
   cases q : H b with
   | none => rfl
   | some u =>
    have e' : b = a := hA b (by rw [q]; simp)
    subst e'
    rw [ha] at e; cases e
    have d' : Data.seq vs.toArray _ = Data.dict es ep := d
    cases d'
  have nsK : ∀ {b : Addr} {m : Str → Option Value}, s₁.heap.Ns b m → (hidT s₁.heap H).Ns b m := fun {b m} ⟨o, es, ep, e, d, r⟩ => ⟨o, es, ep, base_of e (noA e d), d, r⟩
  have hKb : K.In (hidT s₁.heap H) := fun b o e => base_of (KX b o e) (by
   cases q : H b with
   | none => rfl
   | some u =>
    have e' : b = a := hA b (by rw [q]; simp)
    subst e'
    rw [hK (by rw [q]; simp)] at e; cases e)
  have hM : Mod K mg (hidT s₁.heap H) := ⟨hKb, nsK hns, ⟨mb, nsK hb, hbb⟩, let ⟨mc, h1, h2⟩ := hlim; ⟨mc, nsK h1, h2⟩⟩
  have e0 : Env0 P w K mg (hidT s₁.heap H) callerA [] s₁ H := ⟨rfl, hM, fun b o e => of_hidT e, Nat.le_of_eq (hidT_size _ _), trivial, fun b hb => absurd (show b ∈ ([] : List Addr) from hb) (by simp), hok, .of_eq hg⟩
  refine codeAny_mono ((F _ hKb (nsK hns)).run callerA [] s₁ H ⟨[.ref a], []⟩ [.ref a] [.ref a] _ _ hr e0 (hbind s₁ (.ref a)) (.cons rfl .nil) (hsp H hO hS)) fun r s' h => ?_
  cases r with
  | error e => exact (hCX H e s' h).elim
  | ok fl =>
   cases fl with
   | next => exact False.elim h
   | brk => exact False.elim h
   | cont => exact False.elim h
   | ret u =>
    obtain ⟨v, H', os, bare, un, hok', r', q⟩ := h
    have q' : v = .bl true := q
    subst q'
    obtain rfl : u = Value.bool true := r'
    refine ⟨rfl, OldK.of_keep fun b o e => ?_, os, bare⟩
    cases q : H b with
    | none => exact un.keep b o e q (by intro z; exact absurd (show b ∈ ([] : List Addr) from z) (by simp)) (by simp)
    | some u =>
     rcases hO b with z | ⟨ob, xs, z⟩
     ·rw [q] at z; cases z
     ·have z2 := un.frzs b ob _ z
      obtain ⟨e1, _⟩ := hok b _ z
      obtain ⟨e2, _⟩ := hok' b _ z2
      rw [e] at e1; cases e1
      exact e2
 cases hk : K.lookup a with
 | some o =>
  have e := KX a o hk
  rw [ha] at e
  cases e
  refine core (fun _ => none) (fun _ => .inl rfl) (.inr ⟨vs.toArray, _, hk, by rw [List.size_toArray, lenV]; exact hl, by simpa using rv⟩) (fun b u z => by have z' : (none : Option HO) = some u := z; cases z') (fun b z => absurd rfl z) fun z => absurd rfl z
 | none =>
  refine core (fun b => if b = a then some (.frz { cls := .type "list", data := .seq vs.toArray } (.lst (ns.map V.int))) else none) (fun b => ?_) (.inl (.inr ⟨{ cls := .type "list", data := .seq vs.toArray }, if_pos rfl⟩)) (fun b u z => ?_) (fun b z => ?_) fun _ => hk
  ·by_cases hb : b = a
   ·exact .inr ⟨_, _, if_pos hb⟩
   ·exact .inl (if_neg hb)
  ·by_cases hb : b = a
   ·have z' := (if_pos hb).symm.trans z
    cases z'
    subst hb
    exact ⟨ha, by rw [List.length_map]; exact hl, vs, _, rv, ha⟩
   ·have z' := (if_neg hb).symm.trans z
    cases z'
  ·by_cases hb : b = a
   ·exact hb
   ·exact absurd (if_neg hb) z
end L2

namespace L2
open PySem PySem.Spec PyProof.Rows

noncomputable abbrev KOf {K : PySem.W.Frag} {h : Heap} (_ : K.In h) : PySem.W.Frag := K

theorem walk_of {l : PySem.W.OpenLaw} {n k : Nat} {q : Program} {loose : List Str} {XP : (Str → Option Value) → Heap → Prop} {YP : World → Heap → Prop} {d : DefRec} {K : Params → PySem.W.Frag} {CX : World → CXT} {sp : World → Sp} {x : Str}
  (hn : l.most = some n) (hn2 : n ≤ sizeLine) (hdf : d.params.defaults = []) (hr : Room k callerA)
  (hY : ∀ (w : World) (h : Heap), YP w h → (K w.params).In h)
  (F : ∀ (w : World) (mg : Str → Option Value) (fa : Addr) (h : Heap), (K w.params).In h → h.Ns mainGlobals mg → mg d.name = some (.ref fa) →
   ∃ fd : FuncData, (∀ (s : Shared) (u : Value), BindsTo s fd ⟨[u], []⟩ [(x, u)]) ∧
    ∀ base : Heap, (K w.params).In base → base.Ns mainGlobals mg → FnOk l.prog w (K w.params) mg base (CX w) k fa fd [x] (sp w))
  (hsp : ∀ (w : World) (H : Hp) (a : Addr) (ns : List Int), ns.length ≤ n → Only H → SqX (K w.params) H a (ns.map V.int) → sp w [.ref a] H (fun v _ => v = .bl true) fun _ _ _ => False)
  (hCX : ∀ (w : World) (H : Hp) (s : Shared) (e : Value) (s' : Shared), CX w [] H s (fun _ _ _ => False) e s' → False) :
  PySem.W.WalkO q loose XP YP l.row.toRowW d [] (fun f vs => PySem.call f vs) := by
 refine Att.attach_call hn hdf fun w s₀ s₁ mg mb fa o pm cd doc a vs ns G Y ho hd hcd hmg hobj hints hlen hg => ?_
 have KX := hY w _ Y
 obtain ⟨fd, hb, hF⟩ := F w mg fa _ KX G.T.g hmg
 exact law_call KX G.T.g G.T.b G.T.builtins G.T.nolimit hg hobj hints (Nat.le_trans hlen hn2) hr hF hb (fun H hO hS => hsp w H a ns hlen hO hS) fun H e s' => hCX w H s₁ e s'
end L2

/- THE LAST THEOREM (shape; LID, My.* are yours):
   My.Adr: a structure of the addresses that your layer names (classes, functions); My.Txt K t: a structure (Prop) of the equations over K;
   My.txt_mk : {K} {implicit addresses ..} (e1 : nsIn K mainGlobals "law" = some (some (.ref f))) (e2 : K.lookup f = some ⟨oc, od, .func (fnOf "law" "law" params body scope dV kV doc pm an cdv ct), sl⟩) (e3 : codeIn K cdv "law" = true) .. : ∃ t, My.Txt K t

set_option maxHeartbeats 0 in
theorem PySem.Challenge.cw_LID_holds : PySem.Challenge.rw_LID.Holds := by
 w_on; o_law; k_head; (case hw => w_witness2)
 k_fill
 refine L2.walk_of (l := PySem.Challenge.rw_LID) (n := 63) (k := 40) (x := "script") (CX := fun w => ..) (sp := fun _ => My.sp_law) rfl (by decide) rfl ⟨rfl, by decide, by decide⟩ (fun w h Y => PySem.W.kIn_of Y) ?F ?S ?C
 case F =>
  intro w mg fa h KX G hmg
  have T : ∃ t, My.Txt (L2.KOf KX) t := by
   dsimp only [L2.KOf]                          -- K must stand as «<heap const> w.params» for k_is
   refine' My.txt_mk ?e1 ?e2 ?e3 ..
   (case e1 => PySem.W.k_is)                    -- in the order: a name -> its address -> its object -> its parts
   (case e2 => PySem.W.k_is)
   ..
  obtain ⟨t, T⟩ := T
  have e0 := hmg.symm.trans (PySem.W.mg_of KX G T.law)
  cases e0                                       -- fa is the law's own address
  exact ⟨_, fun s u => .of_eq rfl, fun base kb nb => My.law_fn T kb nb⟩     -- if «.of_eq rfl» comes too early: refine' ⟨_, ?b, fun base kb nb => My.law_fn T kb nb⟩; exact fun s u => .of_eq rfl
 case S => exact fun w H a ns hl hO hS => ..
 case C => exact ..
(the tactic k_is has no namespace: write k_is) -/

namespace L2
open PySem PySem.Spec PyProof.Rows

noncomputable def inClass (s : Stmt) (j : Nat) : Stmt := match s with
 | .ClassDef _ _ _ body _ _ _ _ _ _ _ => body.getD j (.Pass ⟨0, 0, 0, 0⟩)
 | _ => .Pass ⟨0, 0, 0, 0⟩
noncomputable def defArgs (s : Stmt) : Arguments := match s with
 | .FunctionDef _ a _ _ _ _ _ _ _ _ => a
 | _ => { posonlyargs := [], args := [], vararg := none, kwonlyargs := [], kw_defaults := [], kwarg := none, defaults := [] }
noncomputable def defBody (s : Stmt) : List Stmt := match s with
 | .FunctionDef _ _ b _ _ _ _ _ _ _ => b
 | _ => []
noncomputable def defScope (s : Stmt) : Scope := match s with
 | .FunctionDef _ _ _ _ _ _ sc _ _ _ => sc
 | _ => { kind := .function, names := [], isGenerator := false, isCoroutine := false }

noncomputable abbrev CX0 : CXT := fun _ _ _ _ _ _ => False
noncomputable abbrev E0 : XK := fun _ _ _ => False

structure Fun (K : PySem.W.Frag) (x qual : Str) (st : Stmt) (f : Addr) (fd : FuncData) : Prop where
 ex : ∃ (oc : Value) (od : Option Addr) (kV doc pm : Value) (an : Option Addr) (cdv ct : Value) (osl : Array (Option Value)),
  fd = PySem.W.fnOf x qual (defArgs st) (defBody st) (defScope st) .none kV doc pm an cdv ct ∧ K.lookup f = some ⟨oc, od, .func fd, osl⟩ ∧ PySem.W.codeIn K cdv qual = true
 kp : PySem.W.keepIn K (.ref f) = true
section
variable {P : Program} {w : World} {K : PySem.W.Frag} {mg : Str → Option Value} {base : Heap}
theorem Fun.binds {x qual : Str} {st : Stmt} {f : Addr} {fd : FuncData} {ps : List Str} (F : Fun K x qual st f fd)
  (h : ∀ (kV doc pm : Value) (an : Option Addr) (cdv ct : Value) (us : List Value), us.length = ps.length → bindArgs (PySem.W.fnOf x qual (defArgs st) (defBody st) (defScope st) .none kV doc pm an cdv ct) ⟨us, []⟩ = pure (ps.zip us)) : Binds K fd ps [] := by
 obtain ⟨oc, od, kV, doc, pm, an, cdv, ct, osl, rfl, lk, hcd⟩ := F.ex
 exact .all (h kV doc pm an cdv ct)
theorem fun_mk {x qual : Str} {st : Stmt} {f : Addr} {oc : Value} {od an : Option Addr} {osl : Array (Option Value)} {kV doc pm cdv ct : Value} (l : K.lookup f = some ⟨oc, od, .func (PySem.W.fnOf x qual (defArgs st) (defBody st) (defScope st) .none kV doc pm an cdv ct), osl⟩)
  (c : PySem.W.codeIn K cdv qual = true) (k : PySem.W.keepIn K (.ref f) = true) : Fun K x qual st f (PySem.W.fnOf x qual (defArgs st) (defBody st) (defScope st) .none kV doc pm an cdv ct) := ⟨⟨oc, od, kV, doc, pm, an, cdv, ct, osl, rfl, l, c⟩, k⟩
end

section
variable {X : Cx}
theorem pv (i : Nat) {x : Str} {pos : Pos} (hN : X.N[i]? = some x := by rfl) (hv : Vis X.env.scope x := by first | exact Or.inl rfl | exact Or.inr (Or.inl rfl) | exact Or.inr (Or.inr rfl)) (hd : (x == ("__debug__" : Str)) = false := by decide)
  (hcd : (x == ("__classdict__" : Str)) = false := by decide) : PE X (.Name x pos) (tVar i) := pe_var hN hv hd hcd
end


noncomputable def Same (H H' : Hp) : Prop := ∀ b o, H b = some o → H' b = some o
theorem Same.refl (H : Hp) : Same H H := fun _ _ h => h

section
variable {κ : Type} [DecidableEq κ]
end
end L2
namespace L2
open PySem PySem.Spec PyProof.Rows

theorem codeAny_compLoop_any {prog : Program} {w : World} {A : Around} {elt iter tg : Expr} {ifs : List Expr} {scope : Scope} {pos : Pos} {it acc : Value} {env : Env} {s : Shared} {R : Result → Shared → Prop} (I : Nat → Shared → Prop)
  (turn : ∀ n s, I n s → wpAny (model prog w) A (pyNext it) (fun r s₁ => match r with
   | none => R (.ok .next) s₁
   | some v => wpAny (model prog w) A (letOwnedTupleGo tg it v) (fun _ s₁' => wpAny (model prog w) A (assign tg env v) (fun _ s₂ =>
     wpAny (model prog w) A (forIn ifs true fun c r => if r = true then do let ok ← isTrue c env (eval c env); pure (ForInStep.yield ok) else pure (ForInStep.yield r)) (fun ok s₃ =>
      if ok = true then wpAny (model prog w) A (eval elt env) (fun x s₄ =>
       wpAny (model prog w) A (call (.builtin "list.append") [acc, x]) (fun _ s₅ => ∃ m, m < n ∧ I m s₅) (fun _ _ => False) s₄) (fun _ _ => False) s₃
      else ∃ m, m < n ∧ I m s₃) (fun _ _ => False) s₂)
     (fun _ _ => False) s₁') (fun _ _ => False) s₁) (fun _ _ => False) s)
  (n : Nat) (h : I n s) : codeAny (model prog w) A (.compLoop (.ListComp elt [⟨tg, iter, ifs, 0⟩] scope pos) 0 it acc env) R s := by
 refine codeAny_loop rfl I (fun n s hI => ?_) n h
 show wpAny _ A ((compTurn (.ListComp elt [⟨tg, iter, ifs, 0⟩] scope pos) 0 it acc env).onRaise (fun x => do noteFrame x env; theTreesLotGoes x)) _ _ s
 refine wpAny_noted ?_
 rw [compTurn_list]
 refine wpAny_bind (wpAny_standAt (wpAny_bind (wpAny_mono (turn n s hI) (fun r s₁ h₁ => ?_) fun _ _ h' => h'.elim)))
 cases r with
 | none => exact wpAny_pure h₁
 | some v =>
  refine wpAny_bind (wpAny_mono h₁ (fun _ s₁' h₁' => ?_) fun _ _ h' => h'.elim)
  refine wpAny_bind (wpAny_mono h₁' (fun _ s₂ h₂ => wpAny_bind (wpAny_mono h₂ (fun ok s₃ h₃ => ?_) fun _ _ h' => h'.elim)) fun _ _ h' => h'.elim)
  cases ok with
  | false => exact wpAny_pure ⟨rfl, h₃⟩
  | true =>
   exact wpAny_bind (wpAny_bind (wpAny_mono h₃ (fun x s₄ h₄ => wpAny_bind (wpAny_mono h₄ (fun _ s₅ h₅ => wpAny_pure (wpAny_pure ⟨rfl, h₅⟩)) fun _ _ h' => h'.elim)) fun _ _ h' => h'.elim))

noncomputable def clGo (env : Env) : List (Str × NameKind) → List (Str × Addr) → List (Str × Addr)
 | [], cs => cs
 | (n, k) :: r, cs => clGo env r (if k == .free then (match env.cells.lookup n with | some c => (n, c) :: cs | none => cs) else cs)
noncomputable def clOf (sc : Scope) (env : Env) : List (Str × Addr) := clGo env sc.names []
theorem clGo_mem {env : Env} : ∀ {ns : List (Str × NameKind)} {cs : List (Str × Addr)}, (∀ p ∈ cs, env.cells.lookup p.1 = some p.2) → ∀ p ∈ clGo env ns cs, env.cells.lookup p.1 = some p.2
 | [], _, h => h
 | (n, k) :: r, cs, h => by
  unfold clGo
  refine clGo_mem ?_
  by_cases hk : (k == .free) = true
  ·rw [if_pos hk]
   cases e : env.cells.lookup n with
   | none => exact h
   | some c =>
    intro p hp
    rcases List.mem_cons.mp hp with rfl | hp
    ·exact e
    ·exact h p hp
  ·rw [if_neg hk]; exact h
theorem clGo_sub {env : Env} : ∀ {ns : List (Str × NameKind)} {cs : List (Str × Addr)} {p : Str × Addr}, p ∈ cs → p ∈ clGo env ns cs
 | [], _, _, h => h
 | (n, k) :: r, cs, p, h => by
  unfold clGo
  refine clGo_sub ?_
  by_cases hk : (k == .free) = true
  ·rw [if_pos hk]
   cases env.cells.lookup n with
   | none => exact h
   | some c => exact List.mem_cons_of_mem _ h
  ·rw [if_neg hk]; exact h
theorem clGo_has {env : Env} {x : Str} {c : Addr} (e : env.cells.lookup x = some c) : ∀ {ns : List (Str × NameKind)} {cs : List (Str × Addr)}, (x, NameKind.free) ∈ ns → (x, c) ∈ clGo env ns cs
 | [], _, h => by cases h
 | (n, k) :: r, cs, h => by
  unfold clGo
  rcases List.mem_cons.mp h with h | h
  ·injection h with h1 h2
   subst h1 h2
   refine clGo_sub ?_
   rw [if_pos (by rfl), e]
   exact List.mem_cons_self
  ·exact clGo_has e h
theorem lookup_of_mem : ∀ {l : List (Str × Addr)} {x : Str} {c : Addr}, (x, c) ∈ l → ∃ d, l.lookup x = some d
 | [], _, _, h => by cases h
 | (n, d) :: r, x, c, h => by
  rw [List.lookup_cons]
  cases e : x == n with
  | true => exact ⟨d, rfl⟩
  | false =>
   rcases List.mem_cons.mp h with h | h
   ·injection h with h1 h2
    subst h1
    simp at e
   ·exact lookup_of_mem h
theorem clOf_look {sc : Scope} {env : Env} {x : Str} {c : Addr} (e : (clOf sc env).lookup x = some c) : env.cells.lookup x = some c :=
 clGo_mem (cs := []) (fun p hp => by cases hp) (x, c) (PySem.mem_of_lookup e)
theorem clOf_has {sc : Scope} {env : Env} {x : Str} {c : Addr} (h : (x, NameKind.free) ∈ sc.names) (e : env.cells.lookup x = some c) : (clOf sc env).lookup x = some c := by
 obtain ⟨d, hd⟩ := lookup_of_mem (clGo_has (cs := []) e h)
 have := clOf_look (sc := sc) hd
 rw [e] at this
 cases this
 exact hd
theorem closureFor_of {sc : Scope} {env : Env} (h : ∀ y ∈ sc.names, y.2 = .free → ∃ c, env.cells.lookup y.1 = some c) : closureFor sc env = pure (clOf sc env) := by
 unfold clOf closureFor
 generalize sc.names = ns at h
 suffices hh : ∀ cs : List (Str × Addr), (forIn ns cs (fun (x : Str × NameKind) (r : List (Str × Addr)) =>
    (match x with
     | (name, kind) => if (kind == NameKind.free) = true then (cellOf env name >>= fun c => pure (ForInStep.yield ((name, c) :: r))) else pure (ForInStep.yield r) : Sem (ForInStep (List (Str × Addr))))) >>= fun r => pure r : Sem (List (Str × Addr))) = pure (clGo env ns cs) from hh []
 induction ns with
 | nil => intro cs; rfl
 | cons p r ih =>
  intro cs
  obtain ⟨n, k⟩ := p
  rw [List.forIn_cons]
  unfold clGo
  have ih' := ih fun y hy => h y (List.mem_cons_of_mem _ hy)
  by_cases hk : (k == .free) = true
  ·obtain ⟨c, hc⟩ := h (n, k) List.mem_cons_self (by simpa using hk)
   have hc : env.cells.lookup n = some c := hc
   have h1 : cellOf env n = pure c := by unfold cellOf; rw [hc]
   simp only [hk, if_true, h1, hc, pure_bind]
   exact ih' _
  ·simp only [hk, if_false, pure_bind]
   exact ih' _

noncomputable def cxComp (X : Cx) (N' : List Str) (sc : Scope) (C : Addr) (s₀ : Shared) (H₀ : Hp) (fp : List Addr) : Cx where
 prog := X.prog
 w := X.w
 K := X.K
 mg := X.mg
 base := X.base
 A := X.A
 N := N'
 s₀ := s₀
 H₀ := H₀
 env := compEnvC sc (clOf sc X.env) C X.env
 outer := X.stack
 stack := X.stack
 ex := fp
 fn := fun _ => false
 calm := X.calm
 pn := []
 xe := fun _ _ => False

theorem lookup_relabel_free {env : Env} : ∀ {names : List (Str × NameKind)} {x : Str}, names.lookup x = some .free →
  (names.map fun (n, k) => if (k == NameKind.free && env.scope.kind == .function && env.kindOf n == some .cell) then (n, NameKind.cell) else (n, k)).lookup x = some .cell ∨
  (names.map fun (n, k) => if (k == NameKind.free && env.scope.kind == .function && env.kindOf n == some .cell) then (n, NameKind.cell) else (n, k)).lookup x = some .free
 | [], _, h => by simp at h
 | (n, k) :: r, x, h => by
  have ih := @lookup_relabel_free env r x
  show List.lookup x ((if (k == NameKind.free && env.scope.kind == .function && env.kindOf n == some .cell) = true then (n, NameKind.cell) else (n, k)) :: _) = _ ∨ List.lookup x ((if (k == NameKind.free && env.scope.kind == .function && env.kindOf n == some .cell) = true then (n, NameKind.cell) else (n, k)) :: _) = _
  cases hx : x == n with
  | true =>
   simp only [List.lookup_cons, hx] at h
   cases h
   by_cases hc : (NameKind.free == NameKind.free && env.scope.kind == .function && env.kindOf n == some .cell) = true
   ·rw [if_pos hc]; left; simp [List.lookup_cons, hx]
   ·rw [if_neg hc]; right; simp [List.lookup_cons, hx]
  | false =>
   simp only [List.lookup_cons, hx] at h
   by_cases hc : (k == NameKind.free && env.scope.kind == .function && env.kindOf n == some .cell) = true
   ·rw [if_pos hc]; simp only [List.lookup_cons, hx]; exact ih h
   ·rw [if_neg hc]; simp only [List.lookup_cons, hx]; exact ih h
theorem mem_relabel {env : Env} {x : Str} {k : NameKind} (hk : k = .cell ∨ k = .free) : ∀ {names : List (Str × NameKind)}, (∀ y ∈ names, y.2 ≠ .cell) →
  (names.map fun (n, k) => if (k == NameKind.free && env.scope.kind == .function && env.kindOf n == some .cell) then (n, NameKind.cell) else (n, k)).lookup x = some k → (x, NameKind.free) ∈ names
 | [], _, h => by simp at h
 | (n, j) :: r, hc, h => by
  have hr : ∀ y ∈ r, y.2 ≠ .cell := fun y hy => hc y (List.mem_cons_of_mem _ hy)
  have h : List.lookup x ((if (j == NameKind.free && env.scope.kind == .function && env.kindOf n == some .cell) = true then (n, NameKind.cell) else (n, j)) :: _) = _ := h
  by_cases hj : (j == NameKind.free && env.scope.kind == .function && env.kindOf n == some .cell) = true
  ·rw [if_pos hj, List.lookup_cons] at h
   have hj' : j = .free := by
    simp only [Bool.and_eq_true, beq_iff_eq] at hj
    exact hj.1.1
   cases hx : x == n with
   | true =>
    rw [eq_of_beq hx, ← hj']
    exact List.mem_cons_self
   | false =>
    rw [hx] at h
    exact List.mem_cons_of_mem _ (mem_relabel hk hr h)
  ·rw [if_neg hj, List.lookup_cons] at h
   cases hx : x == n with
   | true =>
    rw [hx] at h
    have h' : j = k := Option.some.inj h
    have hjc : j ≠ .cell := hc (n, j) List.mem_cons_self
    rcases hk with e | e
    ·exact absurd (h'.trans e) hjc
    ·rw [eq_of_beq hx]
     have : j = .free := h'.trans e
     rw [this]
     exact List.mem_cons_self
   | false =>
    rw [hx] at h
    exact List.mem_cons_of_mem _ (mem_relabel hk hr h)

noncomputable def CapOk (X : Cx) (sc : Scope) : List (Option Nat) → List Str → Prop
 | [], [] => True
 | none :: r, _ :: n => CapOk X sc r n
 | some i :: r, x :: n => (X.N[i]? = some x ∧ sc.names.lookup x = some .free) ∧ CapOk X sc r n
 | _, _ => False
noncomputable def capSt (cap : List (Option Nat)) (σ : St) : St := cap.map fun o => o.bind fun i => (σ[i]?).join
theorem CapOk.at {X : Cx} {sc : Scope} : ∀ {cap : List (Option Nat)} {N' : List Str}, CapOk X sc cap N' → ∀ (j i : Nat) (x : Str), cap[j]? = some (some i) → N'[j]? = some x → X.N[i]? = some x ∧ sc.names.lookup x = some .free
 | [], [], _, j, i, x, h, _ => by simp at h
 | none :: r, y :: n, c, 0, i, x, h, _ => by simp at h
 | none :: r, y :: n, c, j + 1, i, x, h, h2 => CapOk.at (cap := r) c j i x (by simpa using h) (by simpa using h2)
 | some k :: r, y :: n, c, 0, i, x, h, h2 => by
  simp at h h2
  subst h h2
  exact c.1
 | some k :: r, y :: n, c, j + 1, i, x, h, h2 => CapOk.at (cap := r) c.2 j i x (by simpa using h) (by simpa using h2)
theorem CapOk.len {X : Cx} {sc : Scope} : ∀ {cap : List (Option Nat)} {N' : List Str}, CapOk X sc cap N' → cap.length = N'.length
 | [], [], _ => rfl
 | none :: r, y :: n, c => by simpa using CapOk.len (cap := r) (N' := n) c
 | some k :: r, y :: n, c => by simpa using CapOk.len (cap := r) (N' := n) c.2
theorem capSt_get {cap : List (Option Nat)} {σ : St} {j : Nat} {v : V} (h : (capSt cap σ)[j]? = some (some v)) : ∃ i, cap[j]? = some (some i) ∧ σ[i]? = some (some v) := by
 unfold capSt at h
 rw [List.getElem?_map] at h
 cases e : cap[j]? with
 | none => rw [e] at h; cases h
 | some o =>
  rw [e] at h
  cases o with
  | none => simp at h
  | some i =>
   refine ⟨i, rfl, ?_⟩
   simp only [Option.map_some, Option.bind_some, Option.some.injEq] at h
   cases q : σ[i]? with
   | none => rw [q] at h; simp at h
   | some z => rw [q] at h; simp at h; rw [h]

noncomputable def PTs (X : Cx) (ifs : List Expr) (t : TT) : Prop :=
 ∀ (pins : List (Addr × Obj)) (s : Shared) (σ : St) (H : Hp) (Q : Bool → Hp → Prop), Inv X pins σ H s → t σ H Q →
  wpAny (model X.prog X.w) X.A (forIn ifs true fun c r => if r = true then do let ok ← isTrue c X.env (eval c X.env); pure (ForInStep.yield ok) else pure (ForInStep.yield r)) (TP X pins σ Q) X.xe s
theorem pts_nil {X : Cx} : PTs X [] (fun _ H Q => Q true H) := fun _ _ _ H _ I h => wpAny_tests_nil ⟨H, I, h⟩

noncomputable def CompW (cap : List (Option Nat)) (g : TG) (tt : TT) (te : TE) (J : It) (σ : St) (acc : Addr) (H0 : Hp) (Q : Hp → Prop) : Prop :=
 ∃ W : Nat → Nat → List V → Hp → Prop, (∃ m, W 0 m [] (upd H0 acc (.lst []))) ∧ ∀ i m ys H, W i m ys H →
  (J.stop i H ∧ Q H) ∨ (J.go i H ∧ ∀ x H', J.yld i H x H' → g x (capSt cap σ) H' fun σ2 H2 => tt σ2 H2 fun b H3 =>
   if b = true then te σ2 H3 fun v H4 => H4 acc = some (.lst ys) ∧ ys.length < sizeLine ∧ ∃ m', m' < m ∧ W (i + 1) m' (ys ++ [v]) (upd H4 acc (.lst (ys ++ [v])))
   else ∃ m', m' < m ∧ W (i + 1) m' ys H3)
noncomputable def tComp (cap : List (Option Nat)) (wi : TI) (g : TG) (tt : TT) (te : TE) : TE := fun σ H Q => wi σ H fun J H1 => ∀ acc, H1 acc = none → CompW cap g tt te J σ acc H1 fun H2 => Q (.ref acc) H2
noncomputable def tSetComp (i : Nat) (cap : List (Option Nat)) (wi : TI) (g : TG) (tt : TT) (te : TE) : TS := fun D σ H => wi σ H fun J H1 => ∀ acc, H1 acc = none → CompW cap g tt te J σ acc H1 fun H2 => D.nx (σ.set i (some (.ref acc))) H2

structure BlockOk (X : Cx) (sc : Scope) : Prop where
 cell : ∀ y ∈ sc.names, y.2 ≠ .cell
 kind : sc.kind = .function
 names : ∀ y ∈ sc.names, y.2 = .local → sc.names.lookup y.1 = some .local
 free : ∀ y ∈ sc.names, y.2 = .free → X.env.kindOf y.1 = some .cell ∨ X.env.kindOf y.1 = some .free

section
variable {X : Cx} {elt tg iter : Expr} {ifs : List Expr} {sc : Scope} {pos : Pos} {wi : TI} {g : TG} {tt : TT} {te : TE} {N' : List Str} {cap : List (Option Nat)}

theorem Inv.closure {pins : List (Addr × Obj)} {σ : St} {H : Hp} {s : Shared} (I : Inv X pins σ H s) (B : BlockOk X sc) : closureFor sc X.env = pure (clOf sc X.env) :=
 closureFor_of fun y hy e => I.ok.has y.1 (B.free y hy e)

theorem inv_block {pins : List (Addr × Obj)} {σ : St} {H : Hp} {s : Shared} {h₁ : Heap} {t' : Nat} {fp : List Addr} {acc C : Addr} {s₀ : Shared} {m : Str → Option Value}
  (I : Inv X pins σ H s) (B : BlockOk X sc) (cp : CapOk X sc cap N') (hf : ∀ b ∈ fp, FpOk X pins H b) (hfo : ∀ b ∈ fp, b < s.heap.objs.size) (hacc : acc = s.heap.objs.size) (ho : s₀.os = s.os) (hgen : s₀.gens = s.gens)
  (h0 : s₀.heap = s.heap.push { cls := .type "list", data := .seq #[] }) (hC : C = s₀.heap.objs.size)
  (hns : h₁.Ns C m) (hsb : ∀ b o, s₀.heap.get? b = some o → h₁.get? b = some o) :
  Inv (cxComp X N' sc C s₀ (upd H acc (.lst [])) fp) [] (capSt cap σ) (upd H acc (.lst [])) { s₀ with heap := h₁, toks := t' } := by
 have hfr : H acc = none := I.hok.fresh (Nat.le_of_eq hacc.symm)
 have up0 : ∀ b o, s.heap.get? b = some o → s₀.heap.get? b = some o := fun b o e => by rw [h0]; exact Heap.get?_push_of_some _ e
 have sz0 : s₀.heap.objs.size = s.heap.objs.size + 1 := by rw [h0, Heap.size_push]
 have I0 : Inv X pins σ (upd H acc (.lst [])) { s with heap := s₀.heap, toks := s.toks } := I.laid up0 (Nat.le_of_eq hacc.symm) ⟨Nat.zero_le _, [], 0, .nil, by rw [h0, hacc]; exact Heap.get?_push_size _ rfl⟩
 have CX' : ∀ b, b < s.heap.objs.size → b ≠ C := fun b hb => Nat.ne_of_lt (by rw [hC, sz0]; exact Nat.lt_succ_of_lt hb)
 have CA : ∀ b, b < s.heap.objs.size → b ≠ acc := fun b hb => Nat.ne_of_lt (by rw [hacc]; exact hb)
 have cellLt : ∀ x c, X.env.cells.lookup x = some c → c < s.heap.objs.size := fun x c e => by
  obtain ⟨v, o, q, _⟩ := I.cell x c e
  exact Heap.lt_size q
 refine ⟨⟨I.ok.mod, B.kind, I.ok.glob, I.ok.blt, Nat.le_of_eq hC.symm, fun x y c h1 h2 => I.ok.inj x y c (clOf_look h1) (clOf_look h2), fun x hx => ?_, fun x c h => Bool.noConfusion h, I.ok.hd, I.ok.frames, .inl rfl, fun b hb => ⟨CX' b (hfo b hb), fun x c e => (hf b hb).2.2.2.2.1 x c (clOf_look e)⟩,
   fun b o e => ?_, ?_, fun b o e hb => ?_, fun b hb hz => ?_, I0.stack, I0.stkFree⟩,
  rfl, ?_, Un.kept hsb, ⟨m, hns, fun j x v h1 h2 h3 => ?_⟩, fun x c e => ?_, ?_, fun x c e => ?_, fun p hp => absurd (show p ∈ ([] : List (Addr × Obj)) from hp) (by simp), I0.hok.kept hsb, ?_⟩
 ·have hm : (x, NameKind.free) ∈ sc.names := by
   rcases hx with hx | hx
   ·exact mem_relabel (env := X.env) (.inl rfl) B.cell hx
   ·exact mem_relabel (env := X.env) (.inr rfl) B.cell hx
  obtain ⟨c, hc⟩ := I.ok.has x (B.free _ hm rfl)
  exact ⟨c, clOf_has hm hc⟩
 ·obtain ⟨e1, e2⟩ := I.bs b o e
  exact ⟨up0 b o e1, by show upd H acc (.lst []) b = none; rw [upd_ne (CA b (Heap.lt_size e1))]; exact e2⟩
 ·exact Nat.le_trans I.ok.bsz (Nat.le_trans I.sz (by show _ ≤ s₀.heap.objs.size; omega))
 ·rcases (hf b hb).2.2.2.1 with z | z
  ·exact I.ok.noex b o e z
  ·exact absurd (Nat.lt_of_lt_of_le (Heap.lt_size e) (Nat.le_trans I.ok.bsz z)) (Nat.lt_irrefl _)
 ·rcases List.mem_cons.mp (I.stkSub b hz) with e | e
  ·exact (hf b hb).2.1 e
  ·exact (hf b hb).2.2.1 e
 ·show AllBare s₀.gens
  rw [hgen]; exact I.bare
 ·obtain ⟨i, e1, e2⟩ := capSt_get h2
  obtain ⟨e3, e4⟩ := cp.at j i x e1 h1
  have hm : (x, NameKind.free) ∈ sc.names := PySem.mem_of_lookup e4
  have hk := B.free _ hm rfl
  obtain ⟨m0, hn0, hl⟩ := I.loc
  obtain ⟨u, r, l⟩ := hl i x v e3 e2 (by rcases hk with k | k; exact .inr (.inl k); exact .inr (.inr k))
  refine ⟨u, r, .inr ?_⟩
  rcases l with ⟨k, _⟩ | ⟨_, c, hc, o, q, d⟩
  ·rcases hk with k' | k'
   ·rw [k] at k'; cases k'
   ·rw [k] at k'; cases k'
  ·exact ⟨lookup_relabel_free (env := X.env) e4, c, clOf_has hm hc, o, hsb c o (up0 c o q), d⟩
 ·obtain ⟨v, o, q, d⟩ := I.cell x c (clOf_look e)
  exact ⟨v, o, hsb c o (up0 c o q), d⟩
 ·show upd H acc (.lst []) C = none
  rw [upd_ne (by rw [hC, hacc, sz0]; exact Nat.succ_ne_self _)]
  exact I.hok.fresh (by rw [hC, sz0]; exact Nat.le_succ _)
 ·show upd H acc (.lst []) c = none
  rw [upd_ne (CA c (cellLt x c (clOf_look e)))]
  exact I.freeC x c (clOf_look e)
 ·show (capSt cap σ).length = N'.length
  unfold capSt
  rw [List.length_map]
  exact cp.len

noncomputable def Kp (σ0 σ : St) : Prop := σ.length = σ0.length ∧ ∀ (j : Nat) v, σ0[j]? = some (some v) → σ[j]? = some (some v)
noncomputable def GOwn (cap : List (Option Nat)) (g : TG) : Prop := ∀ σ0 σ x H Q, Kp (capSt cap σ0) σ → g x σ H Q → g x σ H fun σ2 H2 => Q σ2 H2 ∧ Kp (capSt cap σ0) σ2
noncomputable def GsOwn (cap : List (Option Nat)) (g : TGs) : Prop := ∀ σ0 σ x H Q, Kp (capSt cap σ0) σ → g x σ H Q → g x σ H fun σ2 H2 => Q σ2 H2 ∧ Kp (capSt cap σ0) σ2
theorem gown_name {i : Nat} (h : cap[i]? = some none) : GOwn cap (gName i) := fun σ0 σ x H Q k q => by
 refine ⟨q, by rw [List.length_set]; exact k.1, fun j v e => ?_⟩
 have : j ≠ i := by
  rintro rfl
  obtain ⟨i', e1, _⟩ := capSt_get e
  rw [h] at e1; cases e1
 rw [List.getElem?_set_ne (Ne.symm this)]
 exact k.2 j v e
theorem gsown_nil : GsOwn cap gNil := fun σ0 σ x H Q k ⟨e, q⟩ => ⟨e, q, k⟩
theorem gsown_cons {t : TG} {u : TGs} (h1 : GOwn cap t) (h2 : GsOwn cap u) (mono : ∀ v σ H (Q Q' : St → Hp → Prop), (∀ σ H, Q σ H → Q' σ H) → t v σ H Q → t v σ H Q') : GsOwn cap (gCons t u) := fun σ0 σ x H Q k ⟨v, r, e, q⟩ =>
 ⟨v, r, e, mono v σ H _ _ (fun σ' H' ⟨q', k'⟩ => h2 σ0 σ' r H' Q k' q') (h1 σ0 σ v H _ k q)⟩
theorem gname_mono {i : Nat} : ∀ v σ H (Q Q' : St → Hp → Prop), (∀ σ H, Q σ H → Q' σ H) → gName i v σ H Q → gName i v σ H Q' := fun _ _ _ _ _ f q => f _ _ q
theorem gown_tup {K : PySem.W.Frag} {n : Nat} {t : TGs} (h : GsOwn cap t) : GOwn cap (gTup K n t) := fun σ0 σ x H Q k ⟨a, xs, e, hq, hl, q⟩ => ⟨a, xs, e, hq, hl, h σ0 σ xs H Q k q⟩

theorem comp_core {pins : List (Addr × Obj)} {σ : St} {H : Hp} {s : Shared} {use : Option (Value → Sem Unit)} {Q : Value → Shared → Prop} {R : Addr → Hp → Prop} {p : Pos}
  (hc : X.calm = true) (B : BlockOk X sc) (cp : CapOk X sc cap N') (hi : PI X tg iter wi) (ow : GOwn cap g)
  (hg : ∀ C s₀ H₀ fp, PG (cxComp X N' sc C s₀ H₀ fp) tg g) (ht : ∀ C s₀ H₀ fp, PTs (cxComp X N' sc C s₀ H₀ fp) ifs tt) (he : ∀ C s₀ H₀ fp, PE (cxComp X N' sc C s₀ H₀ fp) elt te)
  (hs : ∀ x, foldedSetIterable iter X.env x = pure x)
  (I : Inv X pins σ H s) (h : wi σ H fun J H1 => ∀ acc, H1 acc = none → CompW cap g tt te J σ acc H1 (R acc))
  (fin : ∀ (acc C : Addr) (H' : Hp) (s' : Shared) (m : Str → Option Value), Inv X pins σ H' s' → s'.heap.Ns C m → C ≠ X.env.locals →
   (∀ {σ' : St} {s'' : Shared}, Inv X pins σ' H' s'' → ∀ h', Heap.SameBut C s''.heap h' → Inv X pins σ' H' { s'' with heap := h' }) →
   R acc H' → compPost (model X.prog X.w) X.A X.xe use Q (.ref acc) C (.ok .next) s') :
  wpAny (model X.prog X.w) X.A (comprehension (.ListComp elt [⟨tg, iter, ifs, 0⟩] sc pos) sc X.env p (newList []) false (eval iter X.env) use) Q X.xe s := by
 refine wpAny_comprehension_free rfl hs (I.closure B) B.kind B.names (thn (hi pins s σ H _ I h) fun xv s1 h1 => thn h1 fun itv s2 h2 => ?_)
 obtain ⟨it, fp, tn, J, H2, e, I2, T, st2, f2, r2⟩ := h2
 subst e
 have fpo : ∀ b ∈ fp, b < s2.heap.objs.size := fun b hb => by
  obtain ⟨o, e, _⟩ := T.obj _ _ st2 b hb
  exact Heap.lt_size e
 refine wpAny_newObj_type (wpAny_newFunctionEnv B.cell (by intro y hy; simp at hy) (fun h₁ hns₁ hsb₁ => ?_) B.kind)
 dsimp only at hns₁ hsb₁ ⊢
 obtain ⟨s₀, es0⟩ : ∃ s₀ : Shared, s₀ = { s2 with heap := s2.heap.push { cls := .type "list", dict := none, data := .seq ([] : List Value).toArray } } := ⟨_, rfl⟩
 have e0h : s₀.heap = s2.heap.push { cls := .type "list", data := .seq #[] } := by rw [es0]
 obtain ⟨C, eC⟩ : ∃ C : Addr, C = s₀.heap.objs.size := ⟨_, rfl⟩
 obtain ⟨acc, eA⟩ : ∃ a : Addr, a = s2.heap.objs.size := ⟨_, rfl⟩
 rw [show (s2.heap.push { cls := .type "list", dict := none, data := .seq ([] : List Value).toArray }).objs.size = C by rw [eC, e0h]] at hns₁ hsb₁ ⊢
 have keep₁ : ∀ b o, s₀.heap.get? b = some o → h₁.get? b = some o := fun b o e => by
  refine hsb₁.extBut b o ?_ ?_
  ·rw [eC]; exact Nat.ne_of_lt (Heap.lt_size e)
  ·rw [e0h] at e; exact Heap.get?_push_of_some _ e
 have szC : C = s2.heap.objs.size + 1 := by rw [eC, e0h, Heap.size_push]
 have up0 : ∀ b o, s2.heap.get? b = some o → s₀.heap.get? b = some o := fun b o e => by rw [e0h]; exact Heap.get?_push_of_some _ e
 have fr0 : H2 acc = none := I2.hok.fresh (Nat.le_of_eq eA.symm)
 show codeAny (model X.prog X.w) X.A (.compStart (.ListComp elt [⟨tg, iter, ifs, 0⟩] sc pos) 0 (.ref it) (.ref s2.heap.objs.size) (compEnvC sc (clOf sc X.env) C X.env))
  (compPost (model X.prog X.w) X.A X.xe use Q (.ref s2.heap.objs.size) C) { s2 with heap := h₁, toks := s2.toks + ([] : List (Str × Value)).length }
 rw [← eA]
 have es1 : ({ s2 with heap := h₁, toks := s2.toks + ([] : List (Str × Value)).length } : Shared) = { s₀ with heap := h₁, toks := s2.toks + ([] : List (Str × Value)).length } := by rw [es0]
 rw [es1]
 obtain ⟨W, ⟨m0, w0⟩, turn⟩ := r2 acc fr0
 have Ib : Inv (cxComp X N' sc C s₀ (upd H2 acc (.lst [])) fp) [] (capSt cap σ) (upd H2 acc (.lst [])) { s₀ with heap := h₁, toks := s2.toks + ([] : List (Str × Value)).length } :=
  inv_block I2 B cp f2 fpo eA (by rw [es0]) (by rw [es0]) e0h eC hns₁ keep₁
 have stat : ∀ {H' : Hp}, (∀ b ∈ fp, H' b = none) → ∀ b ∈ fp, FpOk (cxComp X N' sc C s₀ (upd H2 acc (.lst [])) fp) [] H' b := fun hn b hb =>
  ⟨hn b hb, (Ib.ok.exf b hb).1, Ib.ok.exfs b hb, .inl hb, fun x c e => (Ib.ok.exf b hb).2 x c e, fun p hp => absurd (show p ∈ ([] : List (Addr × Obj)) from hp) (by simp)⟩
 have fp0 : ∀ b ∈ fp, upd H2 acc (.lst []) b = none := fun b hb => by
  rw [upd_ne (by rw [eA]; exact Nat.ne_of_lt (fpo b hb))]
  exact (f2 b hb).1
 have loop : codeAny (model X.prog X.w) X.A (.compLoop (.ListComp elt [⟨tg, iter, ifs, 0⟩] sc pos) 0 (.ref it) (.ref acc) (compEnvC sc (clOf sc X.env) C X.env))
   (compPost (model X.prog X.w) X.A X.xe use Q (.ref acc) C) { s₀ with heap := h₁, toks := s2.toks + ([] : List (Str × Value)).length } := by
  refine codeAny_compLoop_any (fun n s' => ∃ i ys H', Inv (cxComp X N' sc C s₀ (upd H2 acc (.lst [])) fp) [] (capSt cap σ) H' s' ∧ tn i s'.heap ∧ (∀ b ∈ fp, H' b = none) ∧ W i n ys H') ?_ m0
   ⟨0, [], _, Ib, T.keep _ _ _ st2 fun b hb o e => keep₁ b o (up0 b o e), fp0, w0⟩
  rintro n s3 ⟨i, ys, H3, I3, st3, fr3, w3⟩
  rcases turn i n ys H3 w3 with ⟨stop, qn⟩ | ⟨go, step⟩
  ·refine thn (T.done (cxComp X N' sc C s₀ (upd H2 acc (.lst [])) fp) rfl rfl rfl hc i [] s3 _ H3 (fun _ _ => False) I3 (stat fr3) st3 stop) fun r s4 ⟨hr, I4⟩ => ?_
   subst hr
   have u0 : Un (frs X.stack) fp H2 (upd H2 acc (.lst [])) s2.heap s₀.heap := Un.laid up0 (Nat.le_of_eq eA.symm) fr0
   have un : Un (frs X.stack) fp H2 H3 s2.heap s4.heap := u0.trans I4.base
   have I5 : Inv X pins σ H3 s4 := I2.call' (by rw [I4.os]; show s₀.os = _; rw [es0]) un I4.hok I4.bare fun b hb => ⟨(f2 b hb).2.2.2.1, (f2 b hb).2.1, (f2 b hb).2.2.2.2.1, (f2 b hb).2.2.2.2.2⟩
   obtain ⟨m4, hn4, _⟩ := I4.loc
   have CL : C ≠ X.env.locals := fun z => by
    have := I2.lt
    rw [← z, szC] at this
    exact absurd this (Nat.not_lt.mpr (Nat.le_succ _))
   refine fin acc C H3 s4 m4 I5 hn4 CL (fun {σ' s''} I6 h' sb => ?_) qn
   refine I6.turned (t' := s''.toks) (fun b o hb e => (sb.2 b hb).trans e) I4.free CL (.inr ?_) (fun x c e z => ?_) fun p hp z => ?_
   ·have := I2.sz
    rw [szC]
    omega
   ·obtain ⟨v, o, q, _⟩ := I2.cell x c e
    have := Heap.lt_size q
    rw [z, szC] at this
    exact absurd this (Nat.not_lt.mpr (Nat.le_succ _))
   ·obtain ⟨q, _⟩ := I2.pin p hp
    have := Heap.lt_size q
    rw [z, szC] at this
    exact absurd this (Nat.not_lt.mpr (Nat.le_succ _))
  ·refine thn (T.item (cxComp X N' sc C s₀ (upd H2 acc (.lst [])) fp) rfl rfl rfl hc i [] s3 _ H3 (fun _ _ => False) I3 (stat fr3) st3 go) fun r s4 ⟨u, hr, h4⟩ => ?_
   subst hr
   refine thn h4 fun _ s5 ⟨x, H5, I5, r5, y5, st5, fr5⟩ => ?_
   have I5' := I5.pinned (stat fr5) (T.obj _ _ st5)
   refine thn (hg C s₀ _ fp _ s5 _ H5 x u _ I5' r5 (ow σ _ x H5 _ ⟨rfl, fun _ _ e => e⟩ (step x H5 y5))) fun _ s6 ⟨σ6, H6, I6, q6, kp6⟩ => ?_
   have again : ∀ {H7 : Hp} {s7 : Shared} {zs : List V}, Inv (cxComp X N' sc C s₀ (upd H2 acc (.lst [])) fp) ([] ++ pinsAt fp s5.heap) σ6 H7 s7 → (∃ m', m' < n ∧ W (i + 1) m' zs H7) →
     ∃ m, m < n ∧ ∃ i ys H', Inv (cxComp X N' sc C s₀ (upd H2 acc (.lst [])) fp) [] (capSt cap σ) H' s7 ∧ tn i s7.heap ∧ (∀ b ∈ fp, H' b = none) ∧ W i m ys H' := fun {H7 s7 zs} I7 w7 => by
    obtain ⟨m', hm, w7⟩ := w7
    refine ⟨m', hm, i + 1, zs, H7, (I7.unpinned).weak kp6.1.symm kp6.2, T.keep _ _ _ st5 fun b hb o e => (I7.pin (b, o) (List.mem_append_right _ (List.mem_append_right _ (mem_pinsAt hb e)))).1, fun b hb => ?_, w7⟩
    obtain ⟨o, e, d⟩ := T.obj _ _ st5 b hb
    exact (I7.pin (b, o) (List.mem_append_right _ (List.mem_append_right _ (mem_pinsAt hb e)))).2.1
   refine thn (ht C s₀ _ fp _ s6 σ6 H6 _ I6 q6) fun ok s7 ⟨H7, I7, q7⟩ => ?_
   cases ok with
   | false =>
    rw [if_neg Bool.false_ne_true] at q7 ⊢
    exact again I7 q7
   | true =>
    rw [if_pos rfl] at q7 ⊢
    refine thn (he C s₀ _ fp _ s7 σ6 H7 _ I7 q7) fun xv s8 ⟨v, H8, I8, r8, hacc8, hl8, w8⟩ => ?_
    refine thn (mt_append _ s8 σ6 H8 (.ref acc) [v] (.ref acc) [xv] (fun _ H9 => H9 = upd H8 acc (.lst (ys ++ [v]))) I8 rfl (.cons r8 .nil) ⟨acc, ys, v, rfl, rfl, hacc8, hl8, rfl⟩) fun _ s9 ⟨_, H9, I9, _, e9⟩ => ?_
    subst e9
    exact again I9 w8
 exact codeAny_compStart_list loop (T.self _ 0 _ _ _ (T.keep _ _ _ st2 fun b hb o e => keep₁ b o (up0 b o e)) loop)

theorem pe_comp (hc : X.calm = true) (B : BlockOk X sc) (cp : CapOk X sc cap N') (hi : PI X tg iter wi) (ow : GOwn cap g)
  (hg : ∀ C s₀ H₀ fp, PG (cxComp X N' sc C s₀ H₀ fp) tg g) (ht : ∀ C s₀ H₀ fp, PTs (cxComp X N' sc C s₀ H₀ fp) ifs tt) (he : ∀ C s₀ H₀ fp, PE (cxComp X N' sc C s₀ H₀ fp) elt te)
  (hs : ∀ x, foldedSetIterable iter X.env x = pure x := by intro _; rfl) : PE X (.ListComp elt [⟨tg, iter, ifs, 0⟩] sc pos) (tComp cap wi g tt te) := by
 intro pins s σ H Q I h
 rw [eval_ListComp]
 refine comp_core (use := none) (R := fun acc H2 => Q (.ref acc) H2) hc B cp hi ow hg ht he hs I h fun acc C H' s' m I' hn CL mk r => ?_
 exact ⟨m, hn, fun h' sb => ⟨.ref acc, H', mk I' h' sb, rfl, r⟩⟩
theorem ps_setComp {i : Nat} {y : Str} {py spos : Pos} (hc : X.calm = true) (B : BlockOk X sc) (cp : CapOk X sc cap N') (hi : PI X tg iter wi) (ow : GOwn cap g)
  (hg : ∀ C s₀ H₀ fp, PG (cxComp X N' sc C s₀ H₀ fp) tg g) (ht : ∀ C s₀ H₀ fp, PTs (cxComp X N' sc C s₀ H₀ fp) ifs tt) (he : ∀ C s₀ H₀ fp, PE (cxComp X N' sc C s₀ H₀ fp) elt te)
  (hN : X.N.Nodup) (hy : X.N[i]? = some y) (hl : X.env.scope.names.lookup y = some .local)
  (hsw : swapsWith (.ListComp elt [⟨tg, iter, ifs, 0⟩] sc pos) (some (.Name y py)) spos.line X.env = pure true := by rfl)
  (hs : ∀ x, foldedSetIterable iter X.env x = pure x := by intro _; rfl) : PS X (.Assign [.Name y py] (.ListComp elt [⟨tg, iter, ifs, 0⟩] sc pos) spos) (tSetComp i cap wi g tt te) := by
 intro pins s σ H D I h
 rw [exec_Assign_Name_used _ _ _ _ hsw]
 refine wpAny_bind (wpAny_standAt (wpAny_bind ?_))
 show wpAny _ X.A (do let _ ← comprehension (.ListComp elt [⟨tg, iter, ifs, 0⟩] sc pos) sc X.env _ (newList []) false (eval iter X.env) (some (assign (.Name y py) X.env))) _ _ s
 refine wpAny_bind (thn (comp_core (use := some (assign (.Name y py) X.env)) (Q := fun _ s' => SP X pins D .next s') (R := fun acc H2 => D.nx (σ.set i (some (.ref acc))) H2) hc B cp hi ow hg ht he hs I h fun acc C H' s' m I' hn CL mk r => ?_) fun _ s' hq => wpAny_pure (wpAny_pure hq))
 show wpAny _ X.A (assign (.Name y py) X.env (.ref acc)) _ _ _
 refine wpAny_assign_Name (store_ok2 I' hN hy (.inl hl) (v := .ref acc) rfl (fun s'' I'' hsb => ?_) (.inr hl))
 obtain ⟨a, sb, ha⟩ := hsb
 have hCa : C ≠ a := by
  rcases ha with ha | ha
  ·rw [ha]; exact CL
  ·intro z
   rw [← z] at ha
   obtain ⟨v, o, q, d⟩ := I'.cell y C ha
   obtain ⟨o', es, ep, q', d', _⟩ := hn
   rw [q] at q'; cases q'
   rw [d] at d'; cases d'
 exact ⟨m, hn.sameBut sb hCa, fun h' sb' => ⟨_, H', mk I'' h' sb', r⟩⟩
end
end L2
namespace L2
open PySem PySem.Spec PyProof.Rows

noncomputable def Tame {α : Type} : Sem α → Prop
 | .pure _ => True
 | .raise _ => True
 | .unsupported _ => True
 | .finish _ => True
 | .rule _ k => ∀ u, Tame (k u)
 | .at _ k => ∀ u, Tame (k u)
 | .load _ _ k => ∀ o, Tame (k o)
 | .update _ _ f k => (∀ o, (f o).dict = o.dict ∧ (f o).cls = o.cls) ∧ ∀ u, Tame (k u)
 | .alloc _ k => ∀ a, Tame (k a)
 | .loadIfAlive _ k => ∀ o, Tame (k o)
 | .point _ k => ∀ u, Tame (k u)
 | .stack k => ∀ x, Tame (k x)
 | .ask k => ∀ x, Tame (k x)
 | _ => False
noncomputable def KD (h h' : Heap) : Prop := ∀ (b : Nat) o, h.objs[b]? = some o → ∃ o', h'.objs[b]? = some o' ∧ o'.dict = o.dict ∧ o'.cls = o.cls
theorem KD.refl (h : Heap) : KD h h := fun _ o e => ⟨o, e, rfl, rfl⟩
theorem KD.trans {h h1 h2 : Heap} (x : KD h h1) (y : KD h1 h2) : KD h h2 := fun b o e => by
 obtain ⟨o1, e1, d1, c1⟩ := x b o e
 obtain ⟨o2, e2, d2, c2⟩ := y b o1 e1
 exact ⟨o2, e2, d2.trans d1, c2.trans c1⟩
theorem KD.push (h : Heap) (o : Obj) : KD h (h.push o) := fun b o' e => by
 refine ⟨o', ?_, rfl, rfl⟩
 obtain ⟨objs, l⟩ := h
 show (objs.push o)[b]? = some o'
 have e : objs[b]? = some o' := e
 rw [Array.getElem?_push]
 have hb : b < objs.size := (Array.getElem?_eq_some_iff.mp e).1
 rw [if_neg (Nat.ne_of_lt hb)]
 exact e
theorem KD.update (h : Heap) (a : Addr) {f : Obj → Obj} (hf : ∀ o, (f o).dict = o.dict ∧ (f o).cls = o.cls) : KD h (h.update a f) := fun b o e => by
 obtain ⟨objs, l⟩ := h
 show ∃ o', (objs.modify a f)[b]? = some o' ∧ _
 rw [Array.getElem?_modify]
 have e : objs[b]? = some o := e
 by_cases hab : a = b
 ·rw [if_pos hab, e]
  exact ⟨f o, rfl, hf o⟩
 ·rw [if_neg hab, e]
  exact ⟨o, rfl, rfl, rfl⟩
theorem get_objs {h : Heap} {a : Addr} {o : Obj} (e : h.get? a = some o) : h.objs[a]? = some o := by
 unfold Heap.get? at e
 split at e
 ·cases e
 ·exact e
theorem KD.at {h h' : Heap} {a : Addr} {o o' : Obj} (k : KD h h') (e : h.get? a = some o) (e' : h'.get? a = some o') : o'.dict = o.dict ∧ o'.cls = o.cls := by
 obtain ⟨o1, e1, d⟩ := k a o (get_objs e)
 rw [get_objs e'] at e1
 cases e1
 exact d
theorem tame_wp {α : Type} {M : Model} {Γ : PySem.Ctx} {t : Sem α} : ∀ {Q : α → Pos → Shared → Prop} {E : Value → Pos → Shared → Prop} {p : Pos} {s : Shared} {h₀ : Heap}, Tame t → KD h₀ s.heap → Sem.wp M Γ t Q E p s →
  Sem.wp M Γ t (fun a p' s' => Q a p' s' ∧ KD h₀ s'.heap) (fun e p' s' => E e p' s' ∧ KD h₀ s'.heap) p s := by
 induction t with
 | pure a => exact fun _ k h => ⟨h, k⟩
 | raise e => exact fun _ k h => ⟨h, k⟩
 | unsupported w => exact fun _ _ h => h.elim
 | finish e => exact fun _ _ h => h.elim
 | rule _ k ih => exact fun t z h => ih () (t ()) z h
 | «at» _ k ih => exact fun t z h => ih () (t ()) z h
 | load a _ k ih =>
  intro Q E p s h₀ t z h
  obtain ⟨o, e, h⟩ := h
  exact ⟨o, e, ih o (t o) z h⟩
 | update a _ f k ih =>
  intro Q E p s h₀ t z h
  obtain ⟨e, h⟩ := h
  exact ⟨e, ih () (t.2 ()) (z.trans (KD.update _ _ t.1)) h⟩
 | alloc o k ih => exact fun t z h => ih _ (t _) (z.trans (KD.push _ _)) h
 | loadIfAlive a k ih => exact fun t z h => ih _ (t _) z h
 | point _ k ih => exact fun t z h => ih () (t ()) z h
 | stack k ih => exact fun t z h => ih _ (t _) z h
 | ask k ih => exact fun t z h => ih _ (t _) z h
 | register _ _ _ => exact fun t => t.elim
 | fresh _ _ => exact fun t => t.elim
 | choose _ _ _ _ => exact fun t => t.elim
 | os _ _ _ _ => exact fun t => t.elim
 | call _ _ _ _ _ _ => exact fun t => t.elim
 | handled _ _ _ => exact fun t => t.elim
 | newGen _ _ _ => exact fun t => t.elim
 | genState _ _ _ => exact fun t => t.elim
 | resume _ _ _ _ _ => exact fun t => t.elim
 | yield _ _ _ _ _ => exact fun t => t.elim
 | fork _ _ _ => exact fun t => t.elim
 | thread _ _ => exact fun t => t.elim
 | await _ _ _ _ _ _ => exact fun t => t.elim
theorem tame_any {α : Type} {M : Model} {A : Around} {t : Sem α} {Q : α → Shared → Prop} {E : Value → Shared → Prop} {s : Shared} (T : Tame t) (h : wpAny M A t Q E s) : wpAny M A t (fun a s' => Q a s' ∧ KD s.heap s'.heap) (fun e s' => E e s' ∧ KD s.heap s'.heap) s :=
 fun Γ p hΓ => tame_wp T (KD.refl _) (h Γ p hΓ)
theorem tame_bind {α β : Type} {f : α → Sem β} (hf : ∀ a, Tame (f a)) : ∀ {t : Sem α}, Tame t → Tame (t.bind f) := by
 intro t
 induction t with
 | pure a => exact fun _ => hf a
 | raise e => exact fun _ => trivial
 | unsupported w => exact fun _ => trivial
 | finish e => exact fun _ => trivial
 | rule _ k ih => exact fun t u => ih u (t u)
 | «at» _ k ih => exact fun t u => ih u (t u)
 | load a _ k ih => exact fun t u => ih u (t u)
 | update a _ f k ih => exact fun t => ⟨t.1, fun u => ih u (t.2 u)⟩
 | alloc o k ih => exact fun t u => ih u (t u)
 | loadIfAlive a k ih => exact fun t u => ih u (t u)
 | point _ k ih => exact fun t u => ih u (t u)
 | stack k ih => exact fun t u => ih u (t u)
 | ask k ih => exact fun t u => ih u (t u)
 | register _ _ _ => exact fun t => t.elim
 | fresh _ _ => exact fun t => t.elim
 | choose _ _ _ _ => exact fun t => t.elim
 | os _ _ _ _ => exact fun t => t.elim
 | call _ _ _ _ _ _ => exact fun t => t.elim
 | handled _ _ _ => exact fun t => t.elim
 | newGen _ _ _ => exact fun t => t.elim
 | genState _ _ _ => exact fun t => t.elim
 | resume _ _ _ _ _ => exact fun t => t.elim
 | yield _ _ _ _ _ => exact fun t => t.elim
 | fork _ _ _ => exact fun t => t.elim
 | thread _ _ => exact fun t => t.elim
 | await _ _ _ _ _ _ => exact fun t => t.elim
theorem tb {α β : Type} {t : Sem α} {f : α → Sem β} (h : Tame t) (hf : ∀ a, Tame (f a)) : Tame (t >>= f) := tame_bind hf h
theorem tame_fieldsOf (v : Value) : Tame (fieldsOf v) := by
 unfold fieldsOf
 split
 ·refine tb (fun o => trivial) fun o => ?_
  split <;> trivial
 ·trivial
theorem tame_field (v : Value) (i : Nat) : Tame (field v i) := by
 unfold field
 refine tb (tame_fieldsOf v) fun a => ?_
 split <;> trivial
theorem mapFields_keep (g : Array Value → Array Value) (o : Obj) : (Obj.mapFields g o).dict = o.dict ∧ (Obj.mapFields g o).cls = o.cls := by
 obtain ⟨c, d, dt, sl⟩ := o
 cases dt <;> exact ⟨rfl, rfl⟩
theorem tame_setField (v : Value) (i : Nat) (x : Value) : Tame (setField v i x) := by
 unfold setField
 split
 ·unfold updateField
  refine tb (fun o => trivial) fun o => ?_
  split
  ·split
   ·exact ⟨fun o => mapFields_keep _ o, fun _ => trivial⟩
   ·trivial
  ·trivial
 ·trivial
theorem tame_setFlight (e : Value) (f : Option Addr) : Tame (setFlight e f) := by
 unfold setFlight
 refine tb (tame_field _ _) fun tb' => ?_
 split
 ·exact tame_setField _ _ _
 ·trivial
theorem tame_newFields (ty : String) (vs : List Value) : Tame (newFields ty vs) := by
 have h : Tame (newObjAsIs (Value.type ty) (Data.fields vs.toArray)) := by
  unfold newObjAsIs
  exact tb (fun a => trivial) fun a => trivial
 unfold newFields newObj
 show Tame (if vs.toArray.size > sizeLine + 2 then (unsupported "record:memory" >>= fun _ => newObjAsIs (Value.type ty) (Data.fields vs.toArray)) else newObjAsIs (Value.type ty) (Data.fields vs.toArray))
 split
 ·trivial
 ·exact h
theorem tame_behind (env : Env) (outer : List Env) : Tame (behindIsImport env outer) := by
 unfold behindIsImport
 split
 ·trivial
 ·split
  ·trivial
  ·exact tb (tame_field _ _) fun _ => trivial
theorem tame_under : Tame underTheClaimsCaller := tb (fun _ => trivial) fun _ => trivial
theorem tame_keptBack (env : Env) (i : Bool) (outer : List Env) : Tame (keptBack env i outer) := by
 cases outer with
 | nil =>
  unfold keptBack
  by_cases h : (env.scope.isGenerator || env.scope.isCoroutine) = true
  ·rw [if_pos h]; trivial
  ·rw [if_neg h]
   refine tb tame_under fun x => ?_
   trivial
 | cons c r =>
  unfold keptBack
  trivial
theorem tame_ready : ∀ l : List Env, Tame (readyFrames l)
 | [] => trivial
 | env :: outer => by
  unfold readyFrames
  split
  ·refine tb (fun o => trivial) fun o => ?_
   split
   ·trivial
   ·exact tb (tame_behind _ _) fun i => tb (tame_keptBack _ _ _) fun b => tb ⟨fun o => ⟨rfl, rfl⟩, fun _ => trivial⟩ fun _ => tame_ready outer
  ·trivial
theorem tame_frameOf (env : Env) : Tame (PySem.frameOf env) := by
 unfold PySem.frameOf
 refine tb (fun x => trivial) fun l => tb ?_ fun o => ?_
 ·generalize List.dropWhile _ l = l'
  unfold frameObject
  cases l' with
  | nil => trivial
  | cons a r => exact tb (tame_ready _) fun _ => trivial
 ·split <;> trivial
theorem tame_entryPlace (f : Addr) (b : Bool) : Tame (entryPlaceOf f b) := by
 unfold entryPlaceOf
 refine tb (fun x => trivial) fun l => ?_
 split <;> trivial
theorem tame_noteFrame (e : Value) (env : Env) : Tame (noteFrame e env) := by
 unfold noteFrame
 split
 ·rename_i f _
  have last : ∀ head : Value, Tame (do setField e 1 (← EntryCells.newEntry head (← PySem.frameOf env) .none (rawInt f) .none (← entryPlaceOf f (head != .none)))) := fun head =>
   tb (tame_frameOf env) fun a => tb (tame_entryPlace _ _) fun pl => tb (tame_newFields _ _) fun b => tame_setField _ _ _
  refine tb (tame_field _ _) fun head => ?_
  split
  ·refine tb (tame_field _ _) fun x => ?_
   split
   ·trivial
   ·exact tb (tame_setField _ _ _) fun _ => last head
  ·exact last head
 ·trivial
theorem tame_leaving (env : Env) (e : Value) : Tame (leaving env e) := tb (tame_noteFrame e env) fun _ => tame_setFlight _ _
end L2
namespace L2
open PySem PySem.Spec PyProof.Rows

theorem ObjOk.there {P : Program} {w : World} {H : Hp} {h : Heap} {a : Addr} {o : HO} (x : ObjOk P w H h a o) : ∃ ob, h.get? a = some ob := by
 cases o with
 | lst xs => obtain ⟨_, _, _, _, e⟩ := x; exact ⟨_, e⟩
 | tup xs => obtain ⟨_, _, _, ob, e, _⟩ := x; exact ⟨_, e⟩
 | dK kvs => obtain ⟨_, _, _, _, o, _, _, e, _⟩ := x; exact ⟨_, e⟩
 | dT kvs => obtain ⟨_, _, _, _, o, _, _, e, _⟩ := x; exact ⟨_, e⟩
 | dN kvs => obtain ⟨_, _, _, _, o, _, _, e, _⟩ := x; exact ⟨_, e⟩
 | set S n => obtain ⟨o, _, _, _, e, _⟩ := x; exact ⟨_, e⟩
 | ins C dx fs => obtain ⟨_, _, _, e, _⟩ := x; exact ⟨_, e⟩
 | own y => obtain ⟨_, e⟩ := x; exact ⟨_, e⟩
 | xd fs => obtain ⟨_, ⟨_, _, _, e, _⟩, _⟩ := x; exact ⟨_, e⟩
 | rng lo hi => obtain ⟨_, _, _, e⟩ := x; exact ⟨_, e⟩
 | frz ob u => obtain ⟨e, _⟩ := x; exact ⟨_, e⟩
 | tbl ps => exact ⟨_, (show h.get? a = some _ from x)⟩
 | met f y => exact ⟨_, (show h.get? a = some _ from x)⟩
 | ext φ => obtain ⟨_, ⟨_, e⟩, _⟩ := x; exact ⟨_, e⟩

noncomputable def Cov (outer : List Env) (H' : Hp) (old h' B : Heap) : Prop :=
 (∀ b o, (∃ o0, old.get? b = some o0) → b ∉ frs outer → h'.get? b = some o → B.get? b = some o) ∧ ∀ b u o, H' b = some u → h'.get? b = some o → B.get? b = some o
structure Fly (P : Program) (w : World) (outer : List Env) (H : Hp) (s : Shared) (e : Addr) (cls : Value) (H' : Hp) (s' : Shared) : Prop where
 os : s'.os = s.os
 bare : AllBare s'.gens
 un : Un (frs outer) [] H H' s.heap s'.heap
 hok : HOk P w H' s'.heap
 fly : ∃ B t, Heap.FlyingW B outer e cls (.ref t) s'.heap ∧ Cov outer H' s.heap s'.heap B
 new : s.heap.get? e = none
 free : H' e = none
 nd : ∀ o, s'.heap.get? e = some o → o.dict = none
noncomputable def CXE (P : Program) (w : World) : CXT := fun outer H s E ev s' => ∃ e cls H', ev = .ref e ∧ Fly P w outer H s e cls H' s' ∧ E cls none H'

theorem Fly.moved {P : Program} {w : World} {outer : List Env} {H H' : Hp} {s s' : Shared} {e : Addr} {cls a0 : Value} {B h2 : Heap} (F : Fly P w outer H s e cls H' s') (fl : Heap.FlyingW B outer e cls a0 s'.heap) (cov : Cov outer H' s.heap s'.heap B)
  (st : B.StaysIn h2) (sm : s'.heap.UpToSlots h2) : Un (frs outer) [] H H' s.heap h2 ∧ HOk P w H' h2 ∧ Cov outer H' s.heap h2 B := by
 have nofs : ∀ b u, H' b = some u → ∃ o, s'.heap.get? b = some o ∧ B.get? b = some o ∧ h2.get? b = some o := fun b u q => by
  obtain ⟨o, e1⟩ := (F.hok b u q).there
  have e2 := cov.2 b u o q e1
  exact ⟨o, e1, e2, st b o e2⟩
 have old : ∀ b o0, s.heap.get? b = some o0 → b ∉ frs outer → ∃ o, s'.heap.get? b = some o ∧ B.get? b = some o ∧ h2.get? b = some o := fun b o0 q hb => by
  obtain ⟨o, e1⟩ := F.un.there b o0 q (by simp)
  have e2 := cov.1 b o ⟨o0, q⟩ hb e1
  exact ⟨o, e1, e2, st b o e2⟩
 have fr : ∀ b ∈ frs outer, ∃ o sl, s'.heap.get? b = some o ∧ h2.get? b = some { o with slots := sl } := fun b hb => by
  obtain ⟨_, o, e1, d⟩ := fl.2.2.1.mem hb
  obtain ⟨sl, e2⟩ := sm b o e1 d
  exact ⟨o, sl, e1, e2⟩
 refine ⟨⟨fun b o q n hb _ => ?_, fun b o q n hb _ => ?_, fun b o q n hx => F.un.free b o q n hx, fun b o q _ => ?_, F.un.tups, F.un.frzs, F.un.tbls⟩, fun a u q => ?_, fun b o q hb e1 => ?_, fun b u o q e1 => ?_⟩
 ·obtain ⟨o1, e1, _, e3⟩ := old b o q hb
  have e4 := F.un.keep b o q n hb (by simp)
  rw [e1] at e4; cases e4
  exact e3
 ·obtain ⟨o1, sl1, e1, e2⟩ := fr b hb
  obtain ⟨sl, e4⟩ := F.un.slot b o q n hb (by simp)
  rw [e1] at e4; cases e4
  exact ⟨sl1, e2⟩
 ·by_cases hb : b ∈ frs outer
  ·obtain ⟨o1, sl1, e1, e2⟩ := fr b hb
   exact ⟨_, e2⟩
  ·obtain ⟨o1, _, _, e3⟩ := old b o q hb
   exact ⟨_, e3⟩
 ·refine (F.hok a u q).stay (fun b ob hb eb => ?_) (fun _ z => z) fun _ _ z => z
  have : ∃ u', H' b = some u' := by
   rcases hb with z | z
   ·exact ⟨u, z ▸ q⟩
   ·exact ⟨_, z⟩
  obtain ⟨u', hu⟩ := this
  obtain ⟨o1, e1, _, e3⟩ := nofs b u' hu
  rw [eb] at e1; cases e1
  exact e3
 ·obtain ⟨o0, q⟩ := q
  obtain ⟨o1, _, e2, e3⟩ := old b o0 q hb
  rw [e1] at e3; cases e3
  exact e2
 ·obtain ⟨o1, _, e2, e3⟩ := nofs b u q
  rw [e1] at e3; cases e3
  exact e2

section
variable {P : Program} {w : World} {K : PySem.W.Frag} {mg : Str → Option Value} {base : Heap} {N : List Str} {qual : Str} {scope : Scope} {f : Addr} {cdv : Value} {A : Around} {outer : List Env} {s : Shared} {H : Hp} {E : XK}


theorem passE : Passes (CXE P w) (cxOf (CXE P w) P w K mg base N qual scope f cdv A outer s H E) E := by
 rintro pins σ H1 s1 ev s' I ⟨e, cls, H', rfl, F, hE⟩
 obtain ⟨B, t, fl, cov⟩ := F.fly
 have hfs : ∀ b ∈ frs (envOfC qual scope s.heap.objs.size f cdv :: outer), b ∈ s.heap.objs.size :: frs outer := I.stkSub
 refine wpAny_mono (tame_any (tame_leaving _ _) (wpAny_leaves_onW (E := fun _ _ => False) (Q := fun _ s'' => ∃ h', s'' = { s' with heap := h' } ∧ Heap.FlyingW B outer e cls (.ref t) h' ∧ s'.heap.UpToSlots h') (L := s.heap.objs.size) I.ok.frames rfl fl fun h' x1 x2 => ⟨h', rfl, x1, x2⟩)) (fun _ s3 h3 => ?_) fun _ _ h3 => h3.1.elim
 obtain ⟨⟨h', rfl, x1, x2⟩, kd⟩ := h3
 obtain ⟨un, hok, cov'⟩ := F.moved fl cov x1.1 x2
 have exn : ∀ b : Addr, b ∉ (cxOf (CXE P w) P w K mg base N qual scope f cdv A outer s H E).ex := fun b z => absurd (show b ∈ ([] : List Addr) from z) (by simp)
 have nfs : ∀ b o, s.heap.get? b = some o → b ∉ frs outer → b ∉ frs (envOfC qual scope s.heap.objs.size f cdv :: outer) := fun b o q hb hz => by
  rcases List.mem_cons.mp (hfs b hz) with z | z
  ·exact Nat.ne_of_lt (Heap.lt_size q) z
  ·exact hb z
 have sub : ∀ b ∈ frs outer, b ∈ frs (envOfC qual scope s.heap.objs.size f cdv :: outer) := fun b hb => by
  unfold frs at hb ⊢
  rw [List.filterMap_cons]
  exact List.mem_cons_of_mem _ hb
 refine ⟨e, cls, H', rfl, ⟨F.os.trans I.os, F.bare, ⟨fun b o q n hb _ => ?_, fun b o q n hb _ => ?_, fun b o q n _ => ?_, fun b o q _ => ?_, fun b xs q => un.tups b xs (I.base.tups b xs q), fun b o xs q => un.frzs b o xs (I.base.frzs b o xs q), fun b ps q => ?_⟩, hok,
  ⟨B, t, x1, fun b o q hb e1 => ?_, cov'.2⟩, ?_, F.free, fun o q => ?_⟩, hE⟩
 ·exact un.keep b o (I.base.keep b o q n hb (exn b)) (I.base.free b o q n (exn b)) (nfs b o q hb) (by simp)
 ·obtain ⟨sl, e1⟩ := I.base.slot b o q n hb (exn b)
  obtain ⟨sl2, e2⟩ := un.slot b _ e1 (I.base.free b o q n (exn b)) (sub b hb) (by simp)
  exact ⟨sl2, e2⟩
 ·obtain ⟨o1, e1⟩ := I.base.there b o q (exn b)
  exact un.free b o1 e1 (I.base.free b o q n (exn b)) (by simp)
 ·obtain ⟨o1, e1⟩ := I.base.there b o q (exn b)
  exact un.there b o1 e1 (by simp)
 ·obtain ⟨m1, e1⟩ := I.base.tbls b ps q
  obtain ⟨m2, e2⟩ := un.tbls b _ e1
  exact ⟨m1 ++ m2, by rw [e2, Array.append_assoc]⟩
 ·obtain ⟨o0, q⟩ := q
  obtain ⟨o1, q1⟩ := I.base.there b o0 q (exn b)
  exact cov'.1 b o ⟨o1, q1⟩ (nfs b o0 q hb) e1
 ·cases q : s.heap.get? e with
  | none => rfl
  | some o =>
   obtain ⟨o', q'⟩ := I.base.there e o q (exn e)
   have := F.new
   rw [q'] at this; cases this
 ·obtain ⟨ob, hob, _⟩ := fl.there
  exact (kd.at hob q).1.trans (F.nd ob hob)
end

structure ExcCls (K : PySem.W.Frag) (mg : Str → Option Value) (x : Str) (C : Addr) (bmB : List Value) (newId : String) : Prop where
 mg : mg x = some (.ref C)
 inK : PySem.W.excIn K C bmB newId = true

end L2
namespace L2
open PySem PySem.Spec PyProof.Rows

theorem passF {P : Program} {w : World} {X : Cx} : Passes (CXE P w) X E0 := fun _ _ _ _ _ _ _ ⟨_, _, _, _, _, h⟩ => h.elim

noncomputable abbrev TEx := St → Hp → VK → (Value → Hp → Prop) → Prop
noncomputable abbrev TAx := St → Hp → (List V → Hp → Prop) → (Value → Hp → Prop) → Prop
noncomputable abbrev TSx := Ends → (Value → Hp → Prop) → St → Hp → Prop
section
variable {X : Cx} {e : Expr} {es : List Expr} {te : TE}
end

noncomputable def excO (e : Addr) (cls : Value) : HO := .ext fun h => ∃ ob, h.get? e = some ob ∧ ob.cls = cls ∧ ob.dict = none ∧ ∃ vs, ob.data = .fields vs
noncomputable abbrev Cx.hand (X : Cx) (e : Addr) : Cx := { X with A := X.A.mark (some (.ref e)), calm := false, xe := fun _ _ => False }
section
variable {X : Cx} {pins : List (Addr × Obj)} {σ : St} {H : Hp} {s : Shared}
end


end L2
namespace L2
open PySem PySem.Spec PyProof.Rows
open PySem.Builtin.Int (intBits)

noncomputable def CMulB (i j : Int) : Prop := ∃ m n : Nat, intBits i ≤ m ∧ intBits j ≤ n ∧ m + n ≤ 134217728
noncomputable def CDivB (i j : Int) : Prop := j ≠ 0 ∧ intBits j ≤ 9000
section
variable {X : Cx}
theorem op_mulB : OpR X (binaryOp .Mult) (rI CMulB fun i j => .int (i * j)) := opI fun _ _ _ _ _ _ _ hc q => by
 obtain ⟨m, n, h1, h2, h3⟩ := hc
 exact mul_int q (IntMulOk.of_le h1 h2 h3)
theorem op_fdivB : OpR X (binaryOp .FloorDiv) (rI CDivB fun i j => .int (i.fdiv j)) := opI fun i j _ _ _ _ _ hc q => floordiv_int hc.1 q (.inl (PyProof.noPylong_of_log2 (by
 have h := PySem.intBits_le_iff.mp hc.2
 by_cases z : j.natAbs = 0
 ·rw [z]; decide
 ·exact (Nat.log2_lt z).mpr h)))

noncomputable def Itr3 (lo st : Int) (n : Nat) : It := ⟨fun i _ => i < n, fun i H x H' => H' = H ∧ x = .int (lo + i * st), fun i _ => n ≤ i⟩
theorem turn_range3 {P : Program} {w : World} {K : PySem.W.Frag} {tg : Expr} (it : Addr) (lo sp : Int) (n : Nat) : Turn P w K tg (Itr3 lo sp n) [it] it (fun i h => IsRangeIter h it (lo + (i : Nat) * sp) ((n : Int) - (i : Nat)) sp) where
 mem := by simp
 obj := fun i h st b hb => by
  have e : b = it := by simpa using hb
  subst e
  exact ⟨_, st, fun v z => by
   have z' : Data.fields _ = Data.cell v := z
   cases z'⟩
 keep := fun i h h' st k => k it (by simp) _ st
 item := by
  intro X hP hw hK hc i pins s σ H E I hf st hg
  subst hP hw hK
  obtain ⟨f0, f1, f2, f3, f4, f5⟩ := hf it (by simp)
  have W := Walks.range (prog := X.prog) (w := X.w) (I.ok.hd hc) it lo sp n
  refine W.item i s _ _ hg st fun v h' tk hv st' kk => ?_
  obtain ⟨t, rfl⟩ := hv
  have I1 : Inv X pins σ H { s with heap := h', toks := tk } := I.turned (fun b o hb e => kk b o (by simpa using hb) e) f0 f1 f3 f4 f5
  exact ⟨_, rfl, go_of (s := { s with heap := h', toks := tk }) (n := "range_iterator") st' rfl rfl (by decide) ⟨.int _, H, I1, ⟨t, rfl⟩, ⟨rfl, rfl⟩, st', fun b hb => (hf b hb).1⟩⟩
 done := by
  intro X hP hw hK hc i pins s σ H E I hf st hg
  subst hP hw hK
  obtain ⟨f0, f1, f2, f3, f4, f5⟩ := hf it (by simp)
  exact wpAny_pyNext_range_end (I.ok.hd hc) st (by have : n ≤ i := hg; omega) fun h' eb => ⟨rfl, I.turned (t' := s.toks) (fun b o hb e => eb b o hb e) f0 f1 f3 f4 f5⟩
 self := fun _ _ _ _ _ st h => wpAny_pyIter_rangeiter st h

end
section
variable {prog : Program} {w : World} {A : Around} {E : Value → Shared → Prop} {s : Shared} {K : PySem.W.Frag} {x D : Addr} {ox : Obj}
theorem exc_ga_check {M : Model} {nameV : Value} {Q : Unit → Shared → Prop} (X : K.In s.heap) (I : PySem.W.InstAt s.heap x ox D none) (be : PySem.W.mroIn K D (.type "BaseException") = some true) (hq : Q () s) :
  wpAny M A (checkBuiltinCall "BaseException.__getattribute__" ⟨[.ref x, nameV], []⟩) Q E s := by
 obtain ⟨hh, g, d, t, os⟩ := s
 have hk : builtinKind "BaseException.__getattribute__" = some .slot := by decide +kernel
 have hsplit : splitId "BaseException.__getattribute__" = some ("BaseException", "__getattribute__") := by decide +kernel
 have L0 := I.type (M := M)
 have L1 := PySem.W.looks_mroIn (M := M) X be
 have ha := F.args_bexc_ga (.ref x) nameV
 simp only [checkBuiltinCall, hk, hsplit]
 refine wpAny_bind ?_
 unfold isInstance
 refine wpAny_bind (L0.at (L1.at ?_))
 repeat (first | wp_step)
 exact hq
theorem exc_class {Q : Option Value → Shared → Prop} (X : K.In s.heap) (I : PySem.W.InstAt s.heap x ox D none) (ga : PySem.W.findIn K (.ref D) "__getattribute__" = some (some (.builtin "BaseException.__getattribute__"))) (noga : PySem.W.findIn K (.ref D) "__getattr__" = some none)
  (be : PySem.W.mroIn K D (.type "BaseException") = some true) (hf : PySem.W.findObj K D none "__class__" = some (.bind (.builtin "getset_descriptor.__get__") (.builtin "object.__class__"))) (hm : PySem.W.mroIn K D (.type "object") = some true)
  (h : Q (some (.ref D)) { s with toks := s.toks + 1 }) : wpAny (model prog w) A (getAttr? (.ref x) "__class__") Q E s := by
 obtain ⟨hh, g, d, t, os⟩ := s
 have L0 := I.type (M := model prog w)
 have L1 := PySem.W.looks_findIn (M := model prog w) X ga
 have L2 := PySem.W.looks_findIn (M := model prog w) X noga
 have L3 := PySem.W.looks_find (M := model prog w) X I hf
 have hb := F.attrBase_ValueError.ga.bind (.ref x)
 unfold getAttr? getAttrBy? getAttrBy
 refine wpAny_bind (wpAny_mkText (wpAny_bind (wpAny_attempt (wpAny_holding (wpAny_bind (L0.at (wpAny_bind (L1.at ?_))))))))
 dsimp only
 rw [if_neg (show ¬ (onTheHeap (Value.ref D) && (Value.builtin "BaseException.__getattribute__" == Value.builtin "object.__getattribute__")) = true by rw [show (Value.builtin "BaseException.__getattribute__" == Value.builtin "object.__getattribute__") = false by decide +kernel]; simp)]
 unfold getAttrByItsOwn hookBefore
 refine wpAny_bind ?_
 show wpAny _ _ (typeLookup (.ref D) "__getattr__") _ _ _
 refine L2.at ?_
 refine wpAny_bind (wpAny_attempt (wpAny_holding ?_))
 unfold callGetattribute boundAndCalled
 rw [if_neg (by decide), hb]
 refine wpAny_bind (wpAny_pure ?_)
 dsimp only
 refine wpAny_call (codeAny_call_builtin F.attrBase_ValueError.ga.plain F.entry_bexc_ga (exc_ga_check (ox := ox) X I be ?_))
 unfold Builtin.«object.__getattribute__»
 refine wpAny_bind (wpAny_of_eq (show slotArgs "__getattribute__" 1 { pos := [Value.ref x] ++ [Value.str (Str.ofString "__class__") t] } = pure (.ref x, [Value.str (Str.ofString "__class__") t]) from rfl) ?_)
 dsimp only
 refine wpAny_bind (wpAny_of_eq (show Builtin.ObjectAttr.attrName (Value.str (Str.ofString "__class__") t) = pure (Str.ofString "__class__") from rfl) ?_)
 refine wpAny_bind (L0.at (wpAny_bind (L3.at ?_)))
 dsimp only
 show wpAny _ _ (do ret (← holding [Value.builtin "object.__class__"] (call (.builtin "getset_descriptor.__get__") [.builtin "object.__class__", .ref x, .ref D]))) _ _ _
 refine wpAny_bind (wpAny_holding (wpAny_call (PySem.W.class_get (ox := ox) (od := none) X I hm ?_)))
 exact wpAny_pure (PySem.W.handed_on rfl (wpAny_pure h))
end
section
variable {X : Cx}
structure ExcIs (K : PySem.W.Frag) (D : Addr) : Prop where
 ga : PySem.W.findIn K (.ref D) "__getattribute__" = some (some (.builtin "BaseException.__getattribute__"))
 noga : PySem.W.findIn K (.ref D) "__getattr__" = some none
 be : PySem.W.mroIn K D (.type "BaseException") = some true
 hc : (PySem.W.clsIn K D).isSome = true
 ha : PySem.W.findIn K (.ref D) "__class__" = some (some (.builtin "object.__class__"))
 hn : PySem.W.specialIn K (.builtin "object.__class__") "__get__" = some (some (.builtin "getset_descriptor.__get__"))
 htk : PySem.W.takesIn K (.builtin "object.__class__") = some true
 hm : PySem.W.mroIn K D (.type "object") = some true
theorem kitx_exc {K : PySem.W.Frag} {x D : Addr} (e : ExcIs K D) : PySem.W.KitX K (.ref x) (.ref D) (fun h => ∃ ox, PySem.W.InstAt h x ox D none) where
 ty := fun _ _ _ ⟨_, I⟩ => I.type
 it := fun _ _ X _ => by
  obtain ⟨cd, hcd⟩ := Option.isSome_iff_exists.mp e.hc
  unfold PySem.W.clsIn at hcd
  split at hcd
  ·rename_i ho
   intro A' Q' E' s' k q
   unfold isType loadHead
   exact wpAny_bind (wpAny_loadPart (k _ _ (X _ _ ho)) (wpAny_pure q))
  ·cases hcd
 ne := fun h tp dd its n sl X htp => by
  obtain ⟨cd, hcd⟩ := Option.isSome_iff_exists.mp e.hc
  refine Bool.eq_false_iff.mpr fun q => ?_
  have z : D = tp := Value.ref.inj (beq_iff_eq.mp q)
  subst z
  unfold PySem.W.clsIn at hcd
  split at hcd
  ·rename_i ho
   have y := (X _ _ ho).symm.trans htp
   cases y
  ·cases hcd
 ca := fun {_ _ _ _ _ s} X I k => by
  obtain ⟨ox, I⟩ := I
  obtain ⟨cd, hcd⟩ := Option.isSome_iff_exists.mp e.hc
  have hf : PySem.W.findObj K D none "__class__" = some (.bind (.builtin "getset_descriptor.__get__") (.builtin "object.__class__")) := by
   unfold PySem.W.findObj
   rw [hcd, Option.bind_some, e.ha, Option.bind_some]
   simp [e.hn, e.htk]
  exact exc_class X I e.ga e.noga e.be hf e.hm k

inductive TyX (K : PySem.W.Frag) (H : Hp) : V → Value → Prop where
 | of {x : V} {t : Value} (h : TyOf K H x t) : TyX K H x t
 | exc {e D : Addr} (h : H e = some (excO e (.ref D))) (k : ExcIs K D) : TyX K H (.ref e) (.ref D)
 | sqt {a : Addr} {xs : List V} (h : SqT K H a xs) : TyX K H (.ref a) (.type "tuple")
 | sql {a : Addr} {xs : List V} (h : SqL K H a xs) : TyX K H (.ref a) (.type "list")
theorem TyX.kit {pins : List (Addr × Obj)} {σ : St} {H : Hp} {s : Shared} {x : V} {u t : Value} (I : Inv X pins σ H s) (rx : RelV x u) (ty : TyX X.K H x t) : ∃ Hh, PySem.W.KitX X.K u t Hh ∧ Hh s.heap := by
 cases ty with
 | of ty =>
  cases ty with
  | non => cases (show u = Value.none from rx); exact ⟨_, PySem.W.kitx_none, True.intro⟩
  | bl y => cases (show u = Value.bool y from rx); exact ⟨_, PySem.W.kitx_bool, True.intro⟩
  | int i => obtain ⟨t, q⟩ := (show ∃ t, u = Value.int i t from rx); cases q; exact ⟨_, PySem.W.kitx_int, True.intro⟩
  | str y => obtain ⟨t, q⟩ := (show ∃ t, u = Value.str y t from rx); cases q; exact ⟨_, PySem.W.kitx_str, True.intro⟩
  | flt y => obtain ⟨t, q⟩ := (show ∃ t, u = Value.float y t from rx); cases q; exact ⟨_, PySem.W.kitx_float, True.intro⟩
  | @lst a xs ea =>
   cases (show u = Value.ref a from rx)
   obtain ⟨_, _, n, _, h1⟩ := (show ObjOk X.prog X.w H s.heap a (.lst xs) from I.hok a _ ea)
   exact ⟨_, PySem.W.kitx_list, ⟨_, h1, rfl⟩⟩
  | @frz a ob xs ea =>
   cases (show u = Value.ref a from rx)
   obtain ⟨_, _, _, n, _, h1⟩ := (show ObjOk X.prog X.w H s.heap a (.frz ob (.lst xs)) from I.hok a _ ea)
   exact ⟨_, PySem.W.kitx_list, ⟨_, h1, rfl⟩⟩
  | @tup a xs ea =>
   cases (show u = Value.ref a from rx)
   obtain ⟨_, _, _, p⟩ := (show ObjOk X.prog X.w H s.heap a (.tup xs) from I.hok a _ ea)
   obtain ⟨o, h1, h2, _⟩ := p
   exact ⟨_, PySem.W.kitx_tuple, ⟨o, h1, h2⟩⟩
  | @dK a kvs ea =>
   cases (show u = Value.ref a from rx)
   obtain ⟨_, _, vs, _, p⟩ := (show ObjOk X.prog X.w H s.heap a (.dK kvs) from I.hok a _ ea)
   obtain ⟨o, es, ep, h1, h2, _⟩ := p
   exact ⟨_, PySem.W.kitx_dict, ⟨o, h1, h2.1⟩⟩
  | @dT a kvs ea =>
   cases (show u = Value.ref a from rx)
   obtain ⟨_, _, xs, _, o, es, ep, h1, h2, _⟩ := (show ObjOk X.prog X.w H s.heap a (.dT kvs) from I.hok a _ ea)
   exact ⟨_, PySem.W.kitx_dict, ⟨o, h1, h2.1⟩⟩
  | @ins a C dx fs ea cl ha hn htk hm =>
   cases (show u = Value.ref a from rx)
   obtain ⟨mA, O, _⟩ := ins_get I.hok ea
   obtain ⟨od, J, _⟩ := O.look
   exact ⟨_, PySem.W.kitx_own (cl.get _) cl.hd ha hn htk hm, J⟩
 | @sqt a xs h =>
  cases (show u = Value.ref a from rx)
  obtain ⟨its, _, ⟨o, h1, h2, _⟩, _⟩ := I.tuple h
  exact ⟨_, PySem.W.kitx_tuple, ⟨o, h1, h2⟩⟩
 | @sql a xs h =>
  cases (show u = Value.ref a from rx)
  obtain ⟨its, _, ⟨o, n, h1, h2, _⟩, _⟩ := I.list h
  exact ⟨_, PySem.W.kitx_list, ⟨o, h1, h2⟩⟩
 | @exc e D h k =>
  cases (show u = Value.ref e from rx)
  obtain ⟨⟨ob, h1, h2, h3, vs, h4⟩, _⟩ := (show ObjOk X.prog X.w H s.heap e (excO e (.ref D)) from I.hok e _ h)
  refine ⟨_, kitx_exc k, ob, h1, h2, ?_, ?_⟩
  ·unfold PySem.W.notCls
   rw [h4]
  ·rw [h3]; trivial
noncomputable def clsV : V → Option Value
 | .ref a => some (.ref a)
 | .ty n => some (.type n)
 | _ => none
theorem clsV_rel {c : V} {cv u : Value} (h : clsV c = some cv) (r : RelV c u) : u = cv := by
 cases c with
 | ref a => cases h; exact r
 | ty n => cases h; exact r
 | _ => cases h
theorem RelV.nb {x : V} {u : Value} (r : RelV x u) : u ≠ .builtin "__main__.__loader__#opaque" := by
 cases x with
 | non => rintro rfl; cases r
 | bl b => rintro rfl; cases r
 | int i => rintro rfl; obtain ⟨_, q⟩ := r; cases q
 | str i => rintro rfl; obtain ⟨_, q⟩ := r; cases q
 | byt i => rintro rfl; obtain ⟨_, q⟩ := r; cases q
 | flt i => rintro rfl; obtain ⟨_, q⟩ := r; cases q
 | ref a => rintro rfl; cases r
 | ty a => rintro rfl; cases r
noncomputable def rIsi (K : PySem.W.Frag) : List V → Hp → VK → Prop := fun xs H Q => ∃ x c cv t b, xs = [x, c] ∧ clsV c = some cv ∧ TyX K H x t ∧ PySem.W.kitOne K t cv = some b ∧ Q (.bl b) H
theorem call_isi : CallR X (.builtin "isinstance") (rIsi X.K) := by
 intro pins s σ H xs us Q I r h
 obtain ⟨x, c, cv, t, b, rfl, hc, ty, e, q⟩ := h
 obtain ⟨u, w', rfl, ru, rw'⟩ := vals2 r
 obtain rfl := clsV_rel hc rw'
 obtain ⟨Hh, Z, p⟩ := ty.kit I ru
 exact PySem.W.kia_one Z I.kIn p e ru.nb fun tk => ⟨.bl b, H, I.tok tk, rfl, q⟩
end
theorem kit_same {K : PySem.W.Frag} {t : Value} : PySem.W.kitOne K t t = some true := by unfold PySem.W.kitOne; rw [if_pos (by simp)]
theorem kit_bool_int {K : PySem.W.Frag} : PySem.W.kitOne K (.type "bool") (.type "int") = some true := by
 have h : (fastBuiltinMro "bool").map (·.contains (.type "int")) = some true := by decide +kernel
 have hm : PySem.W.kitMeta "int" = true := by decide +kernel
 unfold PySem.W.kitOne PySem.W.kitCls
 rw [if_neg (by decide)]
 show (if PySem.W.kitMeta "int" = true then PySem.W.subIn K (.type "bool") (.type "int") else none) = _
 rw [if_pos hm]
 exact h
theorem kit_int_bool {K : PySem.W.Frag} : PySem.W.kitOne K (.type "int") (.type "bool") = some false := by
 have h : (fastBuiltinMro "int").map (·.contains (.type "bool")) = some false := by decide +kernel
 have hm : PySem.W.kitMeta "bool" = true := by decide +kernel
 unfold PySem.W.kitOne PySem.W.kitCls
 rw [if_neg (by decide)]
 show (if PySem.W.kitMeta "bool" = true then PySem.W.subIn K (.type "int") (.type "bool") else none) = _
 rw [if_pos hm]
 exact h
end L2
namespace L2
open PySem PySem.Spec PyProof.Rows

inductive D where
 | non | bl (b : Bool) | int (i : Int) | str (x : Str) | tup (l : List D) | lst (l : List D) | ins (C : Addr) (ns : List Str) (l : List D)
mutual
inductive Is (K : PySem.W.Frag) (H : Hp) : V → D → Prop where
 | non : Is K H .non .non
 | bl (b : Bool) : Is K H (.bl b) (.bl b)
 | int (i : Int) : Is K H (.int i) (.int i)
 | str (x : Str) : Is K H (.str x) (.str x)
 | tup {a : Addr} {xs : List V} {ds : List D} : SqT K H a xs → IsL K H xs ds → Is K H (.ref a) (.tup ds)
 | lst {a : Addr} {xs : List V} {ds : List D} : SqL K H a xs → IsL K H xs ds → Is K H (.ref a) (.lst ds)
 | ins {a C dx : Addr} {ns : List Str} {xs : List V} {ds : List D} : H a = some (.ins C dx (ns.zip xs)) → ns.length = xs.length → IsL K H xs ds → Is K H (.ref a) (.ins C ns ds)
inductive IsL (K : PySem.W.Frag) (H : Hp) : List V → List D → Prop where
 | nil : IsL K H [] []
 | cons {v : V} {d : D} {vs : List V} {ds : List D} : Is K H v d → IsL K H vs ds → IsL K H (v :: vs) (d :: ds)
end
theorem same_upd {H : Hp} {p : Addr} {o : HO} (h : H p = none) : Same H (upd H p o) := fun b u e => by rw [upd_ne (ne_of_none e h)]; exact e
theorem IsL.len {K : PySem.W.Frag} {H : Hp} : ∀ {vs : List V} {ds : List D}, IsL K H vs ds → vs.length = ds.length
 | _, _, .nil => rfl
 | _, _, .cons _ l => by rw [List.length_cons, List.length_cons, l.len]
theorem IsL.get {K : PySem.W.Frag} {H : Hp} : ∀ {vs : List V} {ds : List D} {i : Nat} {d : D}, IsL K H vs ds → ds[i]? = some d → ∃ v, vs[i]? = some v ∧ Is K H v d
 | _, _, _, _, .nil, e => by simp at e
 | _, _, 0, _, .cons h _, e => by simp at e; subst e; exact ⟨_, rfl, h⟩
 | _, _, i + 1, d, .cons _ l, e => by
  obtain ⟨v, e1, e2⟩ := l.get (i := i) (d := d) (by simpa using e)
  exact ⟨v, by simpa using e1, e2⟩
theorem Is.int_inv {K : PySem.W.Frag} {H : Hp} {v : V} {i : Int} (h : Is K H v (.int i)) : v = .int i := by cases h; rfl
theorem Is.bl_inv {K : PySem.W.Frag} {H : Hp} {v : V} {b : Bool} (h : Is K H v (.bl b)) : v = .bl b := by cases h; rfl
theorem Is.str_inv {K : PySem.W.Frag} {H : Hp} {v : V} {b : Str} (h : Is K H v (.str b)) : v = .str b := by cases h; rfl
theorem Is.non_inv {K : PySem.W.Frag} {H : Hp} {v : V} (h : Is K H v .non) : v = .non := by cases h; rfl
theorem Is.tup_inv {K : PySem.W.Frag} {H : Hp} {v : V} {ds : List D} (h : Is K H v (.tup ds)) : ∃ a xs, v = .ref a ∧ SqT K H a xs ∧ IsL K H xs ds := by cases h with | tup a b => exact ⟨_, _, rfl, a, b⟩
theorem Is.lst_inv {K : PySem.W.Frag} {H : Hp} {v : V} {ds : List D} (h : Is K H v (.lst ds)) : ∃ a xs, v = .ref a ∧ SqL K H a xs ∧ IsL K H xs ds := by cases h with | lst a b => exact ⟨_, _, rfl, a, b⟩

noncomputable abbrev dQ (a b : Int) : D := .tup [.int a, .int b]


section
variable {σ : St} {H : Hp} {Q : VK} {ta tb tc : TE} {D' : Ends} {v : V} {i : Nat}
end
local macro_rules | `(tactic| walk_at "rd") => `(tactic| repeat (first | refine i_seq ?_ | refine i_asg ?_ | refine i_gName ?_ | refine i_var rfl ?_ | refine i_c ?_ | refine i_op ?_ | refine i_I0 ?_ | refine i_U ?_ | refine i_un ?_ | refine i_cmp ?_ | refine i_2 ?_ | refine i_B ?_ | refine i_bl ?_ | refine i_not ?_ | refine i_and ?_ | refine i_or ?_ | refine i_andV ?_ | refine i_orV ?_ | refine i_notV ?_ | refine i_ifE ?_ | refine i_next ?_ | refine i_drop ?_ | refine i_ret ?_ | refine i_retN ?_ | refine i_ifS ?_ | refine i_nil ?_ | refine i_cons ?_ | refine i_call ?_ | refine i_CB ?_ | refine i_tup ?_ | refine i_lst ?_ | refine i_par ?_ | refine i_par2 ?_ | refine i_raise ?_))
end L2
namespace L2
open PySem PySem.Spec PyProof.Rows
section
variable {σ : St} {H : Hp} {Q : VK} {D' : Ends} {E : XK}
end
theorem Fun.okE {P : Program} {w : World} {K : PySem.W.Frag} {mg : Str → Option Value} {base : Heap} {x qual : Str} {st : Stmt} {f : Addr} {fd : FuncData} {N ps : List Str} {k : Nat} {sp : Sp} (F : Fun K x qual st f fd) (S : FnScope N ps (defScope st)) (len : ∀ vs H Q E, sp vs H Q E → vs.length = ps.length)
  (hbody : ∀ (cdv : Value) (A : Around) (outer : List Env) (s : Shared) (H : Hp) (vs : List V) (Q : VK) (E : XK), Room k (A.deeper (envOfC qual (defScope st) s.heap.objs.size f cdv)) → sp vs H Q E →
   ∃ t, PSs (cxOf (CXE P w) P w K mg base N qual (defScope st) f cdv A outer s H E) (defBody st) t ∧ t { nx := fun _ H' => Q .non H', rt := Q } (start N vs) H) : FnOk P w K mg base (CXE P w) (k + 1) f fd ps sp := by
 obtain ⟨oc, od, kV, doc, pm, an, cdv, ct, osl, rfl, lk, hcd⟩ := F.ex
 exact fn_of lk hcd S len fun A outer s H vs Q E hr hsp => hbody cdv A outer s H vs Q E hr hsp
end L2
namespace L2
open PySem PySem.Spec PyProof.Rows
section
variable {σ : St} {H : Hp} {Q : VK} {D' : Ends} {E : XK} {EX : Value → Hp → Prop}
end
end L2
namespace L2
open PySem PySem.Spec PyProof.Rows
section
variable {X : Cx} {K : PySem.W.Frag}
theorem ix_tupK (h : X.K = K := by rfl) : IxR X (rIxT K) := h ▸ ix_tup
theorem ix_listK (h : X.K = K := by rfl) : IxR X (rIxL K) := h ▸ ix_list
theorem call_isiK (h : X.K = K := by rfl) : CallR X (.builtin "isinstance") (rIsi K) := h ▸ call_isi
theorem call_lenK (h : X.K = K := by rfl) : CallR X (.builtin "len") (fun xs H Q => ∃ p ys, xs = [.ref p] ∧ (SqL K H p ys ∨ SqT K H p ys) ∧ Q (.int ys.length) H) := h ▸ call_len_seq
theorem call_listK (h : X.K = K := by rfl) : CallR X (.type "list") (fun xs H Q => ∃ p ys, xs = [.ref p] ∧ (SqL K H p ys ∨ SqT K H p ys) ∧ ∀ l, H l = none → Q (.ref l) (upd H l (.lst ys))) := h ▸ call_list_of
theorem call_tupleK (h : X.K = K := by rfl) : CallR X (.type "tuple") (fun xs H Q => ∃ p ys, xs = [.ref p] ∧ ((SqL K H p ys ∧ ∀ l, H l = none → Q (.ref l) (upd H l (.tup ys))) ∨ (SqT K H p ys ∧ Q (.ref p) H))) := h ▸ call_tuple_of
theorem sl_listK (h : X.K = K := by rfl) : SlR X (rSlL K) := h ▸ sl_list
variable {tg l : Expr} {tl : TE}
theorem pi_listK (hl : PE X l tl) (h : X.K = K := by rfl) : PI X tg l (iList K tl) := h ▸ pi_list hl
theorem pi_tupK (hl : PE X l tl) (h : X.K = K := by rfl) : PI X tg l (iTup K tl) := h ▸ pi_tup hl
theorem pg_tupK {es : List Expr} {k : Nat} {t : TGs} {n : Nat} {pos : Pos} (hc : X.calm = true) (h : PGs X es t) (hK : X.K = K := by rfl)
  (hn : (assignEach es X.env).length = n := by rfl) (hst : (assignEach es X.env).findIdx? (·.1) = none := by rfl) : PG X (.Tuple es k pos) (gTup K n t) := hK ▸ pg_tup hc h hn hst
theorem cap_nil {sc : Scope} : CapOk X sc [] [] := trivial
theorem cap_own {sc : Scope} {r : List (Option Nat)} {n : List Str} {x : Str} (h : CapOk X sc r n) : CapOk X sc (none :: r) (x :: n) := h
theorem cap_out {sc : Scope} {r : List (Option Nat)} {n : List Str} {x : Str} {i : Nat} (h1 : X.N[i]? = some x) (h2 : sc.names.lookup x = some .free) (h : CapOk X sc r n) : CapOk X sc (some i :: r) (x :: n) := ⟨⟨h1, h2⟩, h⟩
end
noncomputable def blkOk (osc sc : Scope) : Bool := sc.names.all (fun y => y.2 != .cell) && sc.kind == .function && sc.names.all (fun y => y.2 != .local || sc.names.lookup y.1 == some .local) &&
 sc.names.all (fun y => y.2 != .free || (osc.names.lookup y.1 == some .cell || osc.names.lookup y.1 == some .free))
theorem blk {X : Cx} {osc sc : Scope} (hs : X.env.scope = osc) (h : blkOk osc sc = true) : BlockOk X sc := by
 unfold blkOk at h
 simp only [Bool.and_eq_true, List.all_eq_true, bne_iff_ne, ne_eq, beq_iff_eq, Bool.or_eq_true] at h
 obtain ⟨⟨⟨h1, h2⟩, h3⟩, h4⟩ := h
 refine ⟨h1, h2, fun y hy e => (h3 y hy).resolve_left fun z => z e, fun y hy e => ?_⟩
 show X.env.scope.names.lookup y.1 = _ ∨ X.env.scope.names.lookup y.1 = _
 rw [hs]
 exact (h4 y hy).resolve_left fun z => z e
end L2
namespace L2
open PySem PySem.Spec PyProof.Rows
section
variable {g : TG} {tb : TS} {σ : St} {H : Hp} {nx : St → Hp → Prop} {rt : VK}
end
end L2
namespace L2
open PySem PySem.Spec PyProof.Rows

mutual
noncomputable def D.depth : D → Nat
 | .tup l => D.depths l + 1
 | .lst l => D.depths l + 1
 | .ins _ _ _ => 1000
 | _ => 0
noncomputable def D.depths : List D → Nat
 | [] => 0
 | d :: r => max (D.depth d) (D.depths r)
end
section
variable {X : Cx} {pins : List (Addr × Obj)} {σ : St} {H : Hp} {s : Shared}
end
end L2
namespace L2
open PySem PySem.Spec PyProof.Rows
section
variable {σ : St} {H : Hp} {Q : VK} {D' : Ends} {cap : List (Option Nat)} {wi : TI} {g : TG} {tt : TT} {te : TE}
variable {acc : Addr} {H0 : Hp} {Qh : Hp → Prop}
end
end L2
namespace L2
open PySem PySem.Spec PyProof.Rows
section
variable {X : Cx}
end
end L2
namespace L2
open PySem PySem.Spec PyProof.Rows
section
variable {X : Cx} {pins : List (Addr × Obj)} {σ : List (Option V)} {H H' : Hp} {s : Shared} {h' : Heap}
end
end L2
namespace L2
open PySem PySem.Spec PyProof.Rows
section
variable {X : Cx}
end
structure ZA (z TI TO i1 i2 : Addr) : Prop where
 TIz : TI ≠ z
 TOz : TO ≠ z
 i1z : i1 ≠ z
 i2z : i2 ≠ z
 TITO : TI ≠ TO
 TIi1 : TI ≠ i1
 TIi2 : TI ≠ i2
 TOi1 : TO ≠ i1
 TOi2 : TO ≠ i2
 i12 : i1 ≠ i2
section
variable {X : Cx}
end
section
variable {σ : St} {H : Hp} {cap : List (Option Nat)} {g : TG} {tt : TT} {te : TE} {acc : Addr} {H0 : Hp} {Qh : Hp → Prop}
structure Pairs (J : It) (n : Nat) (f : Nat → Option (V × V)) (ok : Hp → Prop) : Prop where
 go : ∀ i H, ok H → i < n → J.go i H
 stop : ∀ H, ok H → J.stop n H
 yld : ∀ i H x H', ok H → i < n → J.yld i H x H' → ∃ p u v, x = .ref p ∧ H p = none ∧ H' = upd H p (.tup [u, v]) ∧ f i = some (u, v)
end
end L2
namespace L2
open PySem PySem.Spec PyProof.Rows
section
variable {σ : St} {H : Hp} {Q : VK} {D' : Ends}
end
section
variable {σ : St} {H : Hp} {Q : VK}
end
end L2
namespace L2
open PySem PySem.Spec PyProof.Rows
open Classical in
noncomputable def frG (H H' : Hp) : Hp := fun b => match H' b with
 | some (.lst xs) => if H b = none then some (.lst xs) else none
 | o => o
noncomputable def Dom (H H' : Hp) : Prop := ∀ b, H' b = none → H b = none
structure Acc (K : PySem.W.Frag) (H0 : Hp) (acc : Addr) (ys : List V) (ds : List D) (H : Hp) : Prop where
 at_ : H acc = some (.lst ys)
 new : IsL K (frG (upd H0 acc (.lst [])) H) ys ds
 same : Same H0 H
 dom : Dom (upd H0 acc (.lst [])) H
end L2
namespace L2
open PySem PySem.Spec PyProof.Rows
section
variable {X : Cx}
end
section
variable {σ : St} {H : Hp} {Q : VK}
end
end L2
namespace L2
open PySem PySem.Spec PyProof.Rows
section
variable {σ : St} {H : Hp} {v : V}
end
end L2
namespace L2
open PySem PySem.Spec PyProof.Rows PyProof
section
variable {X : Cx}
noncomputable def rSlS : V → Option Int → Option Int → Hp → VK → Prop := fun x lo hi H Q => ∃ z, x = .str z ∧ z.length ≤ sizeLine ∧ Q (.str (Txt.slice z lo hi)) H
theorem sl_str : SlR X rSlS := by
 intro pins s σ H x v vl vu lo hi sl Q I rx hs pl pu h
 obtain ⟨z, rfl, hz, q⟩ := h
 obtain ⟨t, rfl⟩ := rx
 refine ⟨"str", _, F.slot_str_getitem.lookup, typeIs_str _ _ _, ?_⟩
 obtain ⟨l, hl1, hl2⟩ : ∃ l : Option (Int × Tok), vl = partValue l ∧ l.map (·.1) = lo := by
  cases pl with
  | none => exact ⟨none, rfl, rfl⟩
  | int i t => exact ⟨some (i, t), rfl, rfl⟩
 obtain ⟨u, hu1, hu2⟩ : ∃ l : Option (Int × Tok), vu = partValue l ∧ l.map (·.1) = hi := by
  cases pu with
  | none => exact ⟨none, rfl, rfl⟩
  | int i t => exact ⟨some (i, t), rfl, rfl⟩
 subst hl1 hu1 hl2 hu2
 exact wpAny_getItem_str_slice (l := l) (u := u) (st := none) hs rfl (post_val_or_str ⟨Nat.le_trans (Txt.slice_le z _ _) hz, fun t' k => ⟨.str _, H, I.tok _, ⟨_, rfl⟩, q⟩⟩)
theorem kit_no {K : PySem.W.Frag} {a b : String} (h1 : (Value.type a == Value.type b) = false) (h : (fastBuiltinMro a).map (·.contains (.type b)) = some false) (hm : PySem.W.kitMeta b = true) (hs : PySem.W.subIn K (.type a) (.type b) = (fastBuiltinMro a).map (·.contains (.type b))) : PySem.W.kitOne K (.type a) (.type b) = some false := by
 unfold PySem.W.kitOne PySem.W.kitCls
 rw [if_neg (by rw [h1]; decide)]
 show (if PySem.W.kitMeta b = true then PySem.W.subIn K (.type a) (.type b) else none) = _
 rw [if_pos hm, hs, h]
end
end L2
namespace L2
open PySem PySem.Spec PyProof.Rows
open AutoSeq1 (wpAny_loadPart')
section
variable {prog : Program} {w : World} {A : Around} {E : Value → Shared → Prop} {s : Shared}
end
section
variable {X : Cx}
end
end L2
namespace L2
open PySem PySem.Spec PyProof.Rows
section
variable {prog : Program} {w : World} {A : Around} {E : Value → Shared → Prop} {s : Shared}
noncomputable abbrev zT1 (h : Heap) (l1 : Addr) : Heap := h.push { cls := .type "tuple_iterator", data := .fields #[.ref l1, .int 0 0] }
noncomputable abbrev zT2 (h : Heap) (l1 l2 : Addr) : Heap := (zT1 h l1).push { cls := .type "tuple_iterator", data := .fields #[.ref l2, .int 0 0] }
noncomputable abbrev zT3 (h : Heap) (l1 l2 : Addr) : Heap := (zT2 h l1 l2).push { cls := .type "tuple", data := .seq #[.ref h.objs.size, .ref (zT1 h l1).objs.size] }
noncomputable abbrev zT4 (h : Heap) (l1 l2 : Addr) : Heap := (zT3 h l1 l2).push { cls := .type "tuple", data := .seq #[.none, .none] }
noncomputable abbrev zT5 (h : Heap) (l1 l2 : Addr) : Heap := (zT4 h l1 l2).push { cls := .type "zip", data := .fields #[.none, .bool false, .bool false, .ref (zT2 h l1 l2).objs.size, .ref (zT3 h l1 l2).objs.size] }
end
section
variable {X : Cx}
end
end L2
namespace L2
open PySem PySem.Spec PyProof.Rows
mutual
noncomputable def D.small (n : Nat) : D → Prop
 | .int i => i.natAbs < 2 ^ n
 | .tup l => D.smalls n l
 | .lst l => D.smalls n l
 | .non => True
 | .bl _ => True
 | .str _ => False
 | .ins _ _ _ => False
noncomputable def D.smalls (n : Nat) : List D → Prop
 | [] => True
 | d :: r => D.small n d ∧ D.smalls n r
end
mutual
noncomputable def D.wt (n : Nat) : D → Nat
 | .tup l => D.wts n l
 | .lst l => D.wts n l
 | .int _ => n
 | _ => 0
noncomputable def D.wts (n : Nat) : List D → Nat
 | [] => 0
 | d :: r => D.wt n d + 1 + D.wts n r
end
section
variable {X : Cx} {pins : List (Addr × Obj)} {σ : St} {H : Hp} {s : Shared}
end
structure ShowOk (n : Nat) (d : D) : Prop where
 seq : ∃ l, d = .tup l ∨ d = .lst l
 small : D.small n d
 n0 : 8 ≤ n
 n1 : n ≤ 1900
 deep : D.depth d ≤ 40
 size : (n + 3) * D.wt n d + n + 1 ≤ 16777216
section
variable {X : Cx}
end
end L2
namespace L2
open PySem PySem.Spec PyProof.Rows
theorem rv_mro : mroOf (.type "reversed") = pure [.type "reversed", .type "object"] := by rw [mroOf_type]; kernel_rfl
theorem rv_new : typeLookup (.type "reversed") "__new__" = pure (some (.builtin "reversed.__new__")) := by rw [typeLookup_type, builtinLookup_eq_fast]; kernel_rfl
theorem rv_init : Slot "reversed" "__init__" "object.__init__" := .of (owner := "object") (n := "__init__") (by rw [typeLookup_type, builtinLookup_eq_fast]; kernel_rfl) (by decide +kernel) (by decide +kernel) (by decide +kernel) (by first | exact .inl (by decide +kernel) | exact .inr (by decide +kernel)) (by rw [isSubtype_type]; kernel_rfl)
theorem rv_called : TypeCalled "reversed" "reversed.__new__" "object.__init__" := ⟨by decide +kernel, by decide +kernel, ⟨_, _, rv_mro⟩, madeBy_type rv_mro rv_new (by decide +kernel), by decide +kernel, by rw [isSubtype_type]; kernel_rfl, rv_init⟩
theorem rv_typeCall (a : Value) : checkTypeCall "reversed" ⟨[a], []⟩ = pure () := by kernel_rfl
theorem rv_newCall (a : Value) : checkBuiltinCall "reversed.__new__" ⟨[.type "reversed", a], []⟩ = pure () := by kernel_rfl
theorem rv_entryNew : entryFor table "reversed.__new__" = some Builtin.«reversed.__new__» := entryFor_of_tree (by kernel_rfl)
theorem rv_sub : isSubtype (.type "reversed") (.type "reversed") = pure true := by rw [isSubtype_type]; kernel_rfl
theorem rv_owner : Manifest.owners.lookup (String.ofList ['d', 'e', 's', 'r', 'e', 'v', 'e', 'r'].reverse) = some Manifest.sig_reversed := by kernel_rfl
theorem rv_next : Slot "reversed" "__next__" "reversed.__next__" := .of (owner := "reversed") (n := "__next__") (by rw [typeLookup_type, builtinLookup_eq_fast]; kernel_rfl) (by decide +kernel) (by decide +kernel) (by decide +kernel) (by first | exact .inl (by decide +kernel) | exact .inr (by decide +kernel)) (by rw [isSubtype_type]; kernel_rfl)
theorem rv_entryNext : entryFor table "reversed.__next__" = some Builtin.«reversed.__next__» := entryFor_of_tree (by kernel_rfl)
theorem rv_argsNext (a : Value) : argsOk "reversed.__next__" ⟨[a], []⟩ := by
 unfold argsOk; rw [signature?_of (id := "reversed.__next__") (n := ['_', '_', 't', 'x', 'e', 'n', '_', '_']) (o := ['d', 'e', 's', 'r', 'e', 'v', 'e', 'r']) (by kernel_rfl) rv_owner]; kernel_rfl
theorem rv_iter : Slot "reversed" "__iter__" "reversed.__iter__" := .of (owner := "reversed") (n := "__iter__") (by rw [typeLookup_type, builtinLookup_eq_fast]; kernel_rfl) (by decide +kernel) (by decide +kernel) (by decide +kernel) (by first | exact .inl (by decide +kernel) | exact .inr (by decide +kernel)) (by rw [isSubtype_type]; kernel_rfl)
theorem rv_argsIter (a : Value) : argsOk "reversed.__iter__" ⟨[a], []⟩ := by
 unfold argsOk; rw [signature?_of (id := "reversed.__iter__") (n := ['_', '_', 'r', 'e', 't', 'i', '_', '_']) (o := ['d', 'e', 's', 'r', 'e', 'v', 'e', 'r']) (by kernel_rfl) rv_owner]; kernel_rfl
theorem rv_entryIter : entryFor table "reversed.__iter__" = some Builtin.«dict_keyiterator.__iter__» := entryFor_alias (id' := "dict_keyiterator.__iter__") (by kernel_rfl) (by first | rfl | decide +kernel | (unfold String.splitOn; simp +decide [String.splitOnAux])) (by decide +kernel) (by kernel_rfl)
theorem rv_none : typeLookup (.type "tuple") "__reversed__" = pure none := by rw [typeLookup_type, builtinLookup_eq_fast]; kernel_rfl
noncomputable abbrev rvObj (t : Addr) (i : Int) : Obj := { cls := .type "reversed", data := .fields #[.ref t, rawInt i] }
noncomputable abbrev IsRv (h : Heap) (a t : Addr) (i : Int) : Prop := h.get? a = some (rvObj t i)
section
variable {prog : Program} {w : World} {A : Around} {E : Value → Shared → Prop} {s : Shared}
theorem rv_newClass (a : Value) : Builtin.SmallTypes.newClass "reversed" ⟨[.type "reversed", a], []⟩ = pure (.type "reversed", [a]) := by
 unfold Builtin.SmallTypes.newClass
 simp only [isType, rv_sub, pure_bind, Bool.not_true, Bool.false_eq_true, if_false]
theorem meets_rv (t : Addr) (its : Array Value) (hz : (its.size : Int) < 2 ^ 63) : Meets (Builtin.«reversed.__new__» ⟨[.type "reversed", .ref t], []⟩) (fun _ R s => IsTup s.heap t its ∧ ∀ tk, R (.ok (.ret (.ref s.heap.objs.size))) { s with heap := s.heap.push (rvObj t ((its.size : Int) - 1)), toks := tk }) :=
 .of_wp fun prog w A R s h => by
  obtain ⟨hT, h⟩ := h
  unfold Builtin.«reversed.__new__»
  refine wpAny_bind (wpAny_of_eq (rv_newClass _) ?_)
  try dsimp only
  refine wpAny_bind (wpAny_of_eq (a := ()) (by first | rfl | kernel_rfl) ?_)
  refine wpAny_bind (wpAny_of_eq (a := ()) (by first | rfl | kernel_rfl) ?_)
  try dsimp only
  refine wpAny_bind (wpAny_specialOf hT.typeIs rv_none ?_)
  try dsimp only
  refine wpAny_bind ?_
  show wpAny _ _ (isInstance (.ref t) (.type "dict") >>= _) _ _ _
  refine wpAny_bind (wpAny_isInstance (T := "tuple") (b := false) hT.typeIs (by rw [isSubtype_type]; kernel_rfl) ?_)
  rw [if_neg (by decide)]
  show wpAny _ _ (specialOf (.ref t) "__getitem__" >>= _) _ _ _
  refine wpAny_bind (wpAny_specialOf hT.typeIs slot_tuple_getitem.lookup ?_)
  dsimp only
  rw [if_pos (by decide)]
  refine wpAny_pure ?_
  rw [if_neg (by decide)]
  refine wpAny_bind (len_tuple hT hz ?_)
  refine wpAny_bind (wpAny_of_eq (a := some (its.size : Int)) rfl ?_)
  dsimp only
  refine wpAny_bind (m := Builtin.SmallTypes.newRecord (.type "reversed") [.ref t, rawInt ((its.size : Int) - 1)]) ?_
  unfold Builtin.SmallTypes.newRecord
  first
  | exact wpAny_newObj_type (wpAny_pure ⟨_, rfl, h _⟩)
  | (wp_walk; exact ⟨_, rfl, h _⟩)
theorem rvT_item {it t : Addr} {i : Nat} {its : Array Value} {x : Value} {Q : Option Value → Shared → Prop} (hit : IsRv s.heap it t (i : Int)) (ht : IsTup s.heap t its) (hx : its[i]? = some x) (hs : (i : Int) < 2 ^ 63)
  (q : ∀ h' tk, IsRv h' it t ((i : Int) - 1) → Heap.SameBut it s.heap h' → Q (some x) { s with heap := h', toks := tk }) : wpAny (model prog w) A (pyNext (.ref it)) Q E s := by
 have hT : s.TypeIs (.ref it) "reversed" := ⟨_, hit, rfl⟩
 unfold pyNext
 refine wpAny_bind (wpAny_attempt (wpAny_callSpecial?_slot (name := Str.ofString "__next__") hT rv_next (wpAny_call_entry rv_next hT rv_entryNext ?_ (rv_argsNext _))))
 unfold Builtin.«reversed.__next__»
 refine wpAny_bind (wpAny_of_eq (a := (Value.ref it, [])) rfl ?_); (try dsimp only)
 refine wpAny_bind (wpAny_field hit rfl (x := .ref t) rfl ?_)
 refine wpAny_bind (wpAny_field hit rfl (x := rawInt (i : Int)) rfl ?_)
 show wpAny _ _ (if (i : Int) < 0 then _ else _) _ _ s; rw [if_neg (by omega)]
 refine wpAny_bind (wpAny_specialOf ht.typeIs slot_tuple_getitem.lookup ?_)
 rw [if_neg (by decide)]
 refine wpAny_bind (wpAny_mkInt ?_)
 have hlt : i < its.size := (Array.getElem?_eq_some_iff.1 hx).1
 have hix : seqIndex? (i : Int) its.size = some i := by
  unfold seqIndex?
  simp only [show ¬ ((i : Int) < 0) by omega, if_false]
  rw [if_pos (by simp; omega), Int.toNat_natCast]
 refine wpAny_bind (wpAny_attempt (getItem_tuple (j := i) ht (by omega) hs hix hx ?_)); (try dsimp only)
 refine wpAny_bind (wpAny_field hit rfl (x := rawInt (i : Int)) rfl ?_); (try dsimp only)
 refine wpAny_bind (wpAny_setField_rec hit (by simp) fun h' hit' hs' => ?_)
 exact wpAny_pure ⟨_, rfl, wpAny_pure (q h' _ hit' hs')⟩
theorem rvT_end {it t : Addr} {Q : Option Value → Shared → Prop} (hh : A.handled = none) (hit : IsRv s.heap it t (-1)) (q : ∀ h', Heap.ExtBut it s.heap h' → Q none { s with heap := h' }) : wpAny (model prog w) A (pyNext (.ref it)) Q E s := by
 have hT : s.TypeIs (.ref it) "reversed" := ⟨_, hit, rfl⟩
 unfold pyNext
 refine wpAny_bind (wpAny_attempt (wpAny_callSpecial?_slot (name := Str.ofString "__next__") hT rv_next (wpAny_call_entry rv_next hT rv_entryNext ?_ (rv_argsNext _))))
 unfold Builtin.«reversed.__next__»
 refine wpAny_bind (wpAny_of_eq (a := (Value.ref it, [])) rfl ?_); (try dsimp only)
 refine wpAny_bind (wpAny_field hit rfl (x := .ref t) rfl ?_)
 refine wpAny_bind (wpAny_field hit rfl (x := rawInt (-1)) rfl ?_)
 show wpAny _ _ (if (-1 : Int) < 0 then _ else _) _ _ s; rw [if_pos (by decide)]
 refine wpAny_bind (wpAny_rule ?_)
 refine wpAny_bind ?_
 show wpAny _ _ (setField (.ref it) 1 (rawInt (-1)) >>= _) _ _ s
 refine wpAny_bind (wpAny_setField_rec hit (by simp) fun h1 hit1 hs1 => ?_)
 replace hit1 : IsRv h1 it t (-1) := hit1
 show wpAny _ _ (setField (.ref it) 0 .none) _ _ _
 refine wpAny_setField_rec hit1 (by simp) fun h2 hit2 hs2 => ?_
 first
 | refine wpAny_bind (m := newExc (.type "StopIteration") []) ?_
 | (refine wpAny_bind ?_; refine wpAny_bind (m := newExc (.type "StopIteration") []) ?_)
 simp only [newExc, newTuple]
 refine wpAny_bind (wpAny_newObj_type ?_ (by size_fits)); refine wpAny_bind (m := firstArgMember _ _) (wpAny_of_eq (a := Value.none) (by first | rfl | (simp only [firstArgMember]; rfl)) ?_); refine wpAny_newObj_type ?_ (by size_fits)
 simp only [raiseNew]
 refine wpAny_bind (wpAny_handled ?_); (first | rw [show A.in1.handled = none from hh] | rw [hh])
 refine wpAny_bind (wpAny_pure (wpAny_throw ?_))
 refine wpAny_bind (wpAny_isInstance (T := "StopIteration") (b := true) ⟨_, Heap.get?_push_size _ rfl, rfl⟩ isSubtype_stop (wpAny_pure (q _ ?_)))
 exact fun b o hb e => Heap.get?_push_of_some _ (Heap.get?_push_of_some _ (hs2.extBut b o hb (hs1.extBut b o hb e)))
theorem rvT_iter {it t : Addr} {i : Int} {Q : Value → Shared → Prop} (hit : IsRv s.heap it t i) (q : Q (.ref it) s) : wpAny (model prog w) A (pyIter (.ref it)) Q E s := by
 have hT : s.TypeIs (.ref it) "reversed" := ⟨_, hit, rfl⟩
 refine wpAny_pyIter_slot hT rv_iter (wpAny_call_entry rv_iter hT rv_entryIter ?_ (rv_argsIter _))
 show wpAny _ _ (ret (Value.ref it)) _ _ _
 exact wpAny_pure ⟨_, rfl, "reversed", _, hT, rv_next.lookup, q⟩
theorem call_rvT {t : Addr} {its : Array Value} {Q : Value → Shared → Prop} (hT : IsTup s.heap t its) (hz : (its.size : Int) < 2 ^ 63)
  (h : ∀ tk, Q (.ref s.heap.objs.size) { s with heap := s.heap.push (rvObj t ((its.size : Int) - 1)), toks := tk }) : wpAny (model prog w) A (call (.type "reversed") [.ref t]) Q E s :=
 callType_new rv_called (by decide) (rv_typeCall _) (rv_newCall _) (fun obj => F.args_object_init_2 obj _) rv_entryNew (meets_rv t its hz) ⟨hT, fun tk => ⟨⟨_, Heap.get?_push_size _ rfl, rfl⟩, h tk⟩⟩
end
section
variable {X : Cx} {tg : Expr}
noncomputable def rCatA (K : PySem.W.Frag) : R2 := fun x y H Q => ∃ a b xs ys, x = .ref a ∧ y = .ref b ∧ SqT K H a xs ∧ SqT K H b ys ∧ xs.length + ys.length ≤ sizeLine ∧ (xs = [] → Q (.ref b) H) ∧ (xs ≠ [] → ys = [] → Q (.ref a) H) ∧ (xs ≠ [] → ys ≠ [] → ∀ p, H p = none → Q (.ref p) (upd H p (.tup (xs ++ ys))))
theorem op_catA {K : PySem.W.Frag} (hK : X.K = K := by rfl) : OpR X (binaryOp .Add) (rCatA K) := by
 subst hK
 intro pins s σ H x y v u Q I rx ry h
 obtain ⟨a, b, xs, ys, e1, e2, ha, hb, hz, q1, q2, q3⟩ := h
 by_cases hx : xs = []
 ·subst e1 e2
  cases rx
  cases ry
  obtain ⟨its, r1, p1, _⟩ := I.tuple ha
  obtain ⟨its2, r2, p2, _⟩ := I.tuple hb
  obtain ⟨⟨cls, dd, data, sl⟩, ho, hc, n, hd⟩ := id p1
  obtain ⟨⟨cls2, dd2, data2, sl2⟩, ho2, hc2, n2, hd2⟩ := id p2
  simp only at hc hd hc2 hd2
  subst hc hd hc2 hd2
  exact concat_meets ⟨_, ho, rfl⟩ ⟨_, ho2, rfl⟩ noFill_tuple_add seq_tuple_add PySem.F.slot_tuple_add PySem.F.entry_tuple_add (PySem.F.args_tuple_add_2 _ _) (tuple_addW0 a b its.toArray its2.toArray n n2 dd dd2 sl sl2 (by have := r1.nil_iff.mpr hx; simp [this])) ⟨ho, ho2, ⟨.ref b, H, I, rfl, q1 hx⟩⟩
 ·exact op_catT pins s σ H x y v u Q I rx ry ⟨a, b, xs, ys, e1, e2, ha, hb, hx, hz, q2 hx, q3 hx⟩
end
end L2
namespace L2
open PySem PySem.Spec PyProof.Rows PyProof
section
variable {X : Cx}
end
end L2
namespace L2
open PySem PySem.Spec PyProof.Rows
section
variable {X : Cx}
noncomputable def rAll (K : PySem.W.Frag) : List V → Hp → VK → Prop := fun xs H Q => ∃ (p : Addr) (bs : List Bool), xs = [.ref p] ∧ SqL K H p (bs.map V.bl) ∧ Q (.bl (bs.all id)) H
theorem range_all : ∀ (bs : List Bool), (List.range bs.length).all (fun i => bs.getD i false) = bs.all id := fun bs => by
 rw [Bool.eq_iff_iff, List.all_eq_true, List.all_eq_true]
 constructor
 ·intro h b hb
  obtain ⟨i, hi, e⟩ := List.mem_iff_getElem.1 hb
  have := h i (List.mem_range.2 hi)
  rw [List.getD_eq_getElem?_getD, List.getElem?_eq_getElem hi, Option.getD_some, e] at this
  exact this
 ·intro h i hi
  have hi := List.mem_range.1 hi
  rw [List.getD_eq_getElem?_getD, List.getElem?_eq_getElem hi, Option.getD_some]
  exact h _ (List.getElem_mem hi)
theorem walk_bools {pins : List (Addr × Obj)} {σ : St} {H : Hp} {s : Shared} {p : Addr} {bs : List Bool} (hc : X.calm = true) (I : Inv X pins σ H s) (hq : SqL X.K H p (bs.map V.bl)) {R : Value → Shared → Prop}
  (k : ∀ Ia fp wr G n P St tr (s₂ : Shared), WalksS X.prog X.w X.A.in1 Ia fp wr G n P St → St 0 s₂ → TruthOf X.prog X.w X.A.in1 P tr → n = bs.length → (tr = fun i => bs.getD i false) → (∀ s', Moved wr G s₂ s' → Inv X pins σ H s') → R (.ref Ia) s₂) :
  wpAny (model X.prog X.w) X.A.in1 (pyIter (.ref p)) R X.xe s := by
 obtain ⟨its, rv, pl, hz⟩ := I.list hq
 have lt : p < s.heap.objs.size := by
  obtain ⟨o, n, e, _⟩ := id pl
  exact Heap.lt_size e
 have hl := rv.length
 rw [List.length_map] at hl
 refine wpAny_pyIter_list pl.isList ?_
 have W := (Walks.list (prog := X.prog) (w := X.w) (A := X.A.in1) (I.ok.hd hc) s.heap.objs.size p (Nat.ne_of_lt lt) its.toArray).toS
 refine k s.heap.objs.size _ _ _ _ _ _ (fun i => bs.getD i false) _ W ?_ ?_ ?_ rfl ?_
 ·exact ⟨⟨_, Heap.get?_push_size _ rfl, rfl, rfl⟩, Heap.IsList.push pl.isList _⟩
 ·intro i v s Q E hv hQ
  have hv : its[i]? = some v := by simpa using hv
  have hi : i < bs.length := by rw [hl]; exact (List.getElem?_eq_some_iff.1 hv).1
  obtain ⟨u, hu, ru⟩ := rv.get (i := i) (x := V.bl bs[i]) (by rw [List.getElem?_map, List.getElem?_eq_getElem hi]; rfl)
  have e0 : u = v := by
   rw [hu] at hv
   exact Option.some.inj hv
  have ru : u = Value.bool bs[i] := ru
  rw [← e0, ru]
  refine wpAny_truthy_bool ?_
  have e : bs.getD i false = bs[i] := by rw [List.getD_eq_getElem?_getD, List.getElem?_eq_getElem hi, Option.getD_some]
  rw [← e]
  exact hQ
 ·rw [List.size_toArray, ← hl]
 ·intro s' m
  have I1 : Inv X pins σ H { s with heap := s'.heap, toks := s'.toks } := I.kept fun b o e => m.heap b o (fun z => by
   have z : b = s.heap.objs.size := by simpa using z
   exact absurd (Heap.lt_size e) (by rw [z]; exact Nat.lt_irrefl _)) (Heap.get?_push_of_some _ e)
  have e : ({ s with heap := s'.heap, toks := s'.toks } : Shared) = s' := by
   have h1 := m.gens
   have h2 := m.drawn
   have h3 := m.os
   cases s'
   simp only at h1 h2 h3
   subst h1 h2 h3
   rfl
  rw [e] at I1
  exact I1
theorem call_allK {K : PySem.W.Frag} (hc : X.calm = true) (hK : X.K = K := by rfl) : CallR X (.builtin "all") (rAll K) := by
 subst hK
 intro pins s σ H xs us Q I r h
 obtain ⟨p, bs, rfl, hq, q⟩ := h
 obtain ⟨u, rfl, ru⟩ := vals1 r
 cases ru
 refine call_all_walkS (walk_bools hc I hq fun Ia fp wr G n P St tr s₂ W h0 ht hn htr hm => ⟨Ia, fp, wr, G, n, P, St, tr, rfl, W, h0, ht, fun s' m => ⟨.bl _, H, hm s' m, rfl, ?_⟩⟩)
 rw [hn, htr, range_all]
 exact q
theorem Inv.lstR {pins : List (Addr × Obj)} {σ : St} {H : Hp} {s : Shared} {l : Addr} {xs : List V} (I : Inv X pins σ H s) (hH : SqX X.K H l xs) : xs.length ≤ sizeLine ∧ ∃ (its : List Value) (n : Nat), Vals xs its ∧ xs.length = its.length ∧ s.heap.get? l = some { cls := .type "list", data := .seq its.toArray n } := by
 rcases hH with hH | ⟨its, n, hk, hz, r⟩
 ·obtain ⟨z, its, n, r, e⟩ := hH.ok I.hok
  exact ⟨z, its, n, r, r.length, e⟩
 ·have hl := r.length
  have hl2 : its.toList.length = its.size := Array.length_toList
  exact ⟨by omega, its.toList, n, r, r.length, I.kIn l _ hk⟩
end
end L2
namespace L2
open PySem PySem.Spec PyProof.Rows
theorem nolen_lri : typeLookup (.type "list_reverseiterator") "__len__" = pure none := by rw [typeLookup_type, builtinLookup_eq_fast]; kernel_rfl
theorem hint_lri : typeLookup (.type "list_reverseiterator") "__length_hint__" = pure (some (.builtin "list_reverseiterator.__length_hint__")) := by rw [typeLookup_type, builtinLookup_eq_fast]; kernel_rfl
section
variable {prog : Program} {w : World} {A : Around} {E : Value → Shared → Prop} {s : Shared}
theorem extend_rev {R : Result → Shared → Prop} (hh : A.handled = none) {it l : Addr} {items : Array Value} (hn : items.size ≤ sizeLine) (S : Addr) (res : Value) (c₀ : Nat) (hS : s.heap.get? S = some { cls := .type "list", data := .seq #[] c₀ })
  (hit : s.heap.IsRevIter it l ((items.size : Int) - 1)) (hl : s.heap.IsList l items) (hil : l ≠ it) (hSI : S ≠ it) (hSl : S ≠ l)
  (hR : ∀ h' tk acc' c', (∀ b o, b ≠ S → b ≠ it → s.heap.get? b = some o → h'.get? b = some o) → h'.get? S = some { cls := .type "list", dict := none, data := .seq acc' c', slots := #[] } →
   ItemsOf (fun i v => items[items.size - 1 - i]? = some v) acc' items.size → R (.ok (.ret res)) { s with heap := h', toks := tk }) :
  wpAny (model prog w) A.in1 (Builtin.List.listExtendWith (.ref S) (.ref it) res)
   (fun fin s' => match fin with | .done f => R (.ok f) s' | .again c' => c'.quiet = true ∧ codeAny (model prog w) A c' R s') (fun e s' => R (.error e) s') s := by
 have hSf : S ∉ [it, l] := fun hm => by
  rcases List.mem_cons.mp hm with e | hm
  ·exact hSI e
  ·exact hSl (List.mem_singleton.mp hm)
 have W := (Walks.listRev (prog := prog) (w := w) (A := A.in1) hh it l hil items).toS
 have hst : 0 ≤ items.size ∧ s.heap.IsRevIter it l ((items.size : Int) - 1 - ((0 : Nat) : Int)) ∧ s.heap.IsList l items := ⟨Nat.zero_le _, by simpa using hit, hl⟩
 unfold Builtin.List.listExtendWith
 refine wpAny_bind (wpAny_typeOf (T := "list_reverseiterator") hit.typeIs ?_)
 have h1 : Builtin.List.listSameRef (.ref S) (.ref it) = false := by simp [Builtin.List.listSameRef, hSI]
 rw [if_neg (by rw [h1]; decide)]
 refine wpAny_bind (wpAny_pyIter_revIter hit ?_)
 refine wpAny_bind (wpAny_holding ?_)
 unfold Builtin.List.listLengthHint
 refine wpAny_bind (wpAny_specialOf hit.typeIs nolen_lri ?_)
 show wpAny _ A.in1 (specialOf (Value.ref it) (Str.ofString "__length_hint__") >>= _) _ _ _
 refine wpAny_bind (wpAny_specialOf hit.typeIs hint_lri ?_)
 (generalize hid : ("list_reverseiterator.__length_hint__" : String) = id0; (fail_if_success (clear hid id0)); wp_delta; rw [show splitId id0 = some ("list_reverseiterator", "__length_hint__") from by subst hid; decide +kernel]; subst hid)
 refine wpAny_bind (wpAny_isInstance (b := true) hit.typeIs (by rw [isSubtype_type]; kernel_rfl) ?_)
 refine wpAny_pure ?_
 rw [if_neg (by decide)]
 refine wpAny_pure ⟨plainId_quiet F.plain_extend_loop _, codeAny_extend_loopS W hn _ hSf _ items.size 0 _ _ _ rfl (Nat.zero_le _) hst hS (ItemsOf.nil _) fun s' acc' c' hm hS' hacc => ?_⟩
 rw [Moved.eq_with hm]
 refine hR s'.heap s'.toks acc' c' (fun b ob hb hb2 e => hm.heap b ob (fun hmem => ?_) e) hS' hacc
 rcases List.mem_cons.mp hmem with e' | hmem
 ·exact hb e'
 ·exact hb2 (List.mem_singleton.mp hmem)
theorem call_list_rev {Q : Value → Shared → Prop} (hh : A.handled = none) {it l : Addr} {items : Array Value} (hn : items.size ≤ sizeLine) (hit : s.heap.IsRevIter it l ((items.size : Int) - 1)) (hl : s.heap.IsList l items) (hil : l ≠ it)
  (hQ : ∀ h' tk acc' c', (∀ b o, b ≠ it → s.heap.get? b = some o → h'.get? b = some o) →
   h'.get? s.heap.objs.size = some { cls := .type "list", dict := none, data := .seq acc' c', slots := #[] } → ItemsOf (fun i v => items[items.size - 1 - i]? = some v) acc' items.size → Q (.ref s.heap.objs.size) { s with heap := h', toks := tk }) :
  wpAny (model prog w) A (call (.type "list") [.ref it]) Q E s := by
 refine callType_codes (Q₁ := fun obj s₁ => obj = .ref s.heap.objs.size ∧ s₁ = { s with heap := s.heap.push { cls := .type "list", data := .seq #[] } }) F.called_list (F.typeCall_list_1 _) F.entry_list_init
  (code_list_new _ ⟨rfl, rfl⟩) fun obj s₁ h₁ => ?_
 obtain ⟨rfl, rfl⟩ := h₁
 have hS : (s.heap.push { cls := .type "list", data := .seq #[] }).get? s.heap.objs.size = some { cls := .type "list", data := .seq #[] } := Heap.get?_push_size _ rfl
 refine ⟨⟨_, hS, rfl⟩, F.args_list_init_2 _ _, ?_⟩
 show wpAny _ _ (do let old ← Builtin.List.listItems (.ref s.heap.objs.size); Builtin.List.listUpdate (.ref s.heap.objs.size) (fun _ => #[]); letGo old.toList.reverse; Builtin.List.listExtendWith (.ref s.heap.objs.size) (.ref it) .none) _ _ _
 refine wpAny_bind ?_
 unfold Builtin.List.listItems
 refine wpAny_bind (wpAny_seqItems hS rfl (wpAny_pure ?_))
 show wpAny _ _ (updateSeq s.heap.objs.size (fun _ => #[]) >>= fun _ => letGo (#[] : Array Value).toList.reverse >>= fun _ => Builtin.List.listExtendWith (.ref s.heap.objs.size) (.ref it) .none) _ _ _
 refine wpAny_bind (wpAny_updateSeq hS rfl ?_)
 have hS₂ := Heap.get?_update_self (Obj.mapSeq (fun _ => (#[] : Array Value))) hS rfl
 have ltI : it < s.heap.objs.size := let ⟨_, ho, _⟩ := hit; Heap.lt_size ho
 have ltl : l < s.heap.objs.size := let ⟨_, ho, _⟩ := hl; Heap.lt_size ho
 have oth : ∀ b o, b ≠ s.heap.objs.size → (s.heap.push { cls := .type "list", data := .seq #[] }).get? b = some o → ((s.heap.push { cls := .type "list", data := .seq #[] }).update s.heap.objs.size (Obj.mapSeq (fun _ => (#[] : Array Value)))).get? b = some o :=
  fun b o hb e => (Heap.get?_update_other _ _ (Ne.symm hb)).trans e
 have old : ∀ b o, s.heap.get? b = some o → ((s.heap.push { cls := .type "list", data := .seq #[] }).update s.heap.objs.size (Obj.mapSeq (fun _ => (#[] : Array Value)))).get? b = some o :=
  fun b o e => oth b o (Nat.ne_of_lt (Heap.lt_size e)) (Heap.get?_push_of_some _ e)
 refine wpAny_bind (wpAny_letGo ?_)
 refine extend_rev (A := A.in1) (items := items) hh hn s.heap.objs.size .none _ hS₂ (hit.at fun o e => old _ o e) (hl.at fun o e => old _ o e) hil (Ne.symm (Nat.ne_of_lt ltI)) (Ne.symm (Nat.ne_of_lt ltl)) fun h' tk acc' c' hk hS' hacc => ?_
 exact ⟨rfl, hQ h' tk acc' c' (fun b o hb e => hk b o (Nat.ne_of_lt (Heap.lt_size e)) hb (old b o e)) hS' hacc⟩
end
section
variable {X : Cx}
noncomputable def tListRev (K : PySem.W.Frag) (te : TE) : TE := fun σ H Q => te σ H fun x H1 => ∃ p ys, x = .ref p ∧ SqX K H1 p ys ∧ ∀ l, H1 l = none → Q (.ref l) (upd H1 l (.lst ys.reverse))
theorem pe_listRev {K : PySem.W.Frag} {e : Expr} {te : TE} {p p2 pos pos2 : Pos} (hc : X.calm = true) (hg : Gl X "list") (hm : X.mg "list" = none) (hg2 : Gl X "reversed") (hm2 : X.mg "reversed" = none) (ha : PE X e te) (hK : X.K = K := by rfl)
  (he2 : starEach [e] X.env = [(false, eval e X.env)] := by rfl) (he : starEach [.Call (.Name "reversed" p2) [e] [] pos2] X.env = [(false, eval (.Call (.Name "reversed" p2) [e] [] pos2) X.env)] := by rfl) :
  PE X (.Call (.Name "list" p) [.Call (.Name "reversed" p2) [e] [] pos2] [] pos) (tListRev K te) := by
 subst hK
 intro pins s σ H Q I h
 refine wpAny_Call_Name_kw (ld_blt I hg hm boot_list ?_ (by decide) (by decide))
 refine PyProof.Rows.callWith_type1 ?_ he rfl
 rw [he]
 show wpAny _ _ (spliced ((false, eval (.Call (.Name "reversed" p2) [e] [] pos2) X.env) :: backTo pos [])) _ _ s
 refine Calls.spliced_cons ?_
 refine wpAny_Call_Name_kw (ld_blt I hg2 hm2 Boot.«reversed» ?_ (by decide) (by decide))
 refine PyProof.Rows.callWith_type1 ?_ he2 rfl
 refine thn (pa_cons ha pa_nil he2 pos2 pins s σ H (fun vs H1 => ∃ p ys, vs = [.ref p] ∧ SqX X.K H1 p ys ∧ ∀ l, H1 l = none → Q (.ref l) (upd H1 l (.lst ys.reverse))) I ?_) fun us s1 ⟨vs, H1, I1, r1, q1⟩ => ?_
 ·have h : te σ H fun x H1 => ∃ p ys, x = .ref p ∧ SqX X.K H1 p ys ∧ ∀ l, H1 l = none → Q (.ref l) (upd H1 l (.lst ys.reverse)) := h
  show te σ H fun x H1 => ∃ p ys, [x] = [V.ref p] ∧ SqX X.K H1 p ys ∧ ∀ l, H1 l = none → Q (.ref l) (upd H1 l (.lst ys.reverse))
  have e : (fun (x : V) (H1 : Hp) => ∃ p ys, [x] = [V.ref p] ∧ SqX X.K H1 p ys ∧ ∀ l, H1 l = none → Q (.ref l) (upd H1 l (.lst ys.reverse))) = fun x H1 => ∃ p ys, x = .ref p ∧ SqX X.K H1 p ys ∧ ∀ l, H1 l = none → Q (.ref l) (upd H1 l (.lst ys.reverse)) := by
   funext x H1
   simp
  rw [e]
  exact h
 obtain ⟨p, ys, rfl, hq, q⟩ := q1
 obtain ⟨u, rfl, ru⟩ := vals1 r1
 cases ru
 obtain ⟨z, its, n, r, hl, e1⟩ := I1.lstR hq
 have hL : s1.heap.IsList p its.toArray := ⟨_, e1, rfl, n, rfl⟩
 have ltp : p < s1.heap.objs.size := Heap.lt_size e1
 refine call_reversed_list hL ?_
 refine Calls.spliced_nil ?_
 refine call_list_rev (items := its.toArray) (I1.ok.hd hc) (by rw [List.size_toArray]; omega) ⟨_, Heap.get?_push_size _ rfl, rfl, rfl⟩ (hL.push _) (Nat.ne_of_lt ltp) fun h' tk acc' c' hk hS' hacc => ?_
 have kept : ∀ b o, s1.heap.get? b = some o → h'.get? b = some o := fun b o e => hk b o (Nat.ne_of_lt (Heap.lt_size e)) (Heap.get?_push_of_some _ e)
 have hsz : s1.heap.objs.size ≤ (s1.heap.push (revObj p ((its.toArray.size : Int) - 1))).objs.size := by rw [Heap.size_push]; exact Nat.le_succ _
 have ha : acc'.toList = its.reverse := by
  obtain ⟨a1, a2⟩ := hacc
  refine List.ext_getElem? fun i => ?_
  by_cases hi : i < its.length
  ·have hi' : i < acc'.size := by rw [a1, List.size_toArray]; exact hi
   have e3 : acc'.toList[i]? = some acc'[i] := by simp [hi']
   have e4 := a2 i acc'[i] (by simp [hi'])
   rw [e3, List.getElem?_reverse hi, ← e4]
   simp
  ·rw [List.getElem?_eq_none (by simp [a1]; omega), List.getElem?_eq_none (by simp; omega)]
 have hv : Vals ys.reverse its.reverse := r.reverse
 refine ⟨.ref _, _, I1.laid (o := .lst ys.reverse) (t' := tk) kept hsz ⟨by rw [List.length_reverse]; exact z, its.reverse, c', hv, ?_⟩, rfl, q _ (I1.hok.fresh hsz)⟩
 rw [hS', ← ha]
end
end L2
namespace HT
open PySem PyProof.Rows
section
variable {prog : Program} {w : World} {A : Around} {E : Value → Shared → Prop} {s : Shared}
end
end HT
namespace L2
open PySem PySem.Spec PyProof.Rows
section
variable {X : Cx}
section
variable {X : Cx} {tg : Expr}
end
end
end L2
namespace L2
open PySem PySem.Spec PyProof.Rows
section
variable {env : Env} {r : List Expr}
theorem se_Tuple {a b c} : starEach (.Tuple a b c :: r) env = (false, eval (.Tuple a b c) env) :: starEach r env := by rw [starEach]; simp
theorem se_Constant {a b c} : starEach (.Constant a b c :: r) env = (false, eval (.Constant a b c) env) :: starEach r env := by rw [starEach]; simp
theorem se_Name {a b} : starEach (.Name a b :: r) env = (false, eval (.Name a b) env) :: starEach r env := by rw [starEach]; simp
theorem se_Subscript {a b c} : starEach (.Subscript a b c :: r) env = (false, eval (.Subscript a b c) env) :: starEach r env := by rw [starEach]; simp
theorem se_BinOp {a b c d} : starEach (.BinOp a b c d :: r) env = (false, eval (.BinOp a b c d) env) :: starEach r env := by rw [starEach]; simp
theorem se_UnaryOp {a b c} : starEach (.UnaryOp a b c :: r) env = (false, eval (.UnaryOp a b c) env) :: starEach r env := by rw [starEach]; simp
theorem se_Call {a b c d} : starEach (.Call a b c d :: r) env = (false, eval (.Call a b c d) env) :: starEach r env := by rw [starEach]; simp
theorem se_Attribute {a b c} : starEach (.Attribute a b c :: r) env = (false, eval (.Attribute a b c) env) :: starEach r env := by rw [starEach]; simp
end
end L2
namespace L2
open PySem PySem.Spec PyProof.Rows PySem.Builtin
section
variable {X : Cx}
end
end L2
namespace L2
open PySem PySem.Spec PyProof.Rows PySem.Calls
section
variable {X : Cx}
end
section
variable {prog : Program} {w : World} {A : Around} {E : Value → Shared → Prop} {s : Shared} {T : String} {r d : Addr} {n : Nat} {P : Nat → Value → Prop} {OK : Heap → Prop} {Q : Value → Shared → Prop}
end
section
variable {X : Cx}
end
section
variable {prog : Program} {w : World} {A : Around} {E : Value → Shared → Prop} {s : Shared} {T : String} {r d : Addr} {n : Nat} {P : Nat → Value → Prop} {OK : Heap → Prop} {Q : Value → Shared → Prop}
end
section
variable {X : Cx}
noncomputable def rEqNil (K : PySem.W.Frag) (neg : Bool) : R2 := fun x y H Q => ∃ a b xs, x = .ref a ∧ y = .ref b ∧ SqL K H a xs ∧ SqL K H b [] ∧ Q (.bl (neg != xs.isEmpty)) H
theorem op_eqNil {k : Nat} {K : PySem.W.Frag} (hr : Room k X.A) (hK : X.K = K := by rfl) : OpR X (compareOp .Eq) (rEqNil K false) := by
 subst hK
 intro pins s σ H x y v u Q I rx ry h
 obtain ⟨a, b, xs, rfl, rfl, h1, h2, q⟩ := h
 cases rx; cases ry
 have hu : X.A.units + 41 < cLine := Nat.lt_of_le_of_lt (by omega) hr.units
 obtain ⟨its, r1, p1, _⟩ := I.list h1
 obtain ⟨its2, r2, p2, _⟩ := I.list h2
 cases r2
 cases r1 with
 | nil =>
  refine SeqAt.eq_listAt (e := fun _ => true) p1.isList p2.isList rfl (by omega) (fun i y1 _ => absurd y1 (Nat.not_lt_zero i)) ?_
  exact ⟨.bl true, H, I, rfl, q⟩
 | cons c t =>
  refine SeqAt.eq_list_lengthsAt p1.isList p2.isList (by simp) (by omega) ?_
  exact ⟨.bl false, H, I, rfl, q⟩
end
end L2
namespace L2
open PySem
inductive Xv where
 | non | bl (b : Bool) | int (i : Int) | str (x : Str) | tup (xs : List Xv) | ct (xs : List Xv) | ref (n : Nat)
inductive Ce where
 | lst (xs : List Xv)
 | frz (xs : List Xv)
 | dk (kvs : List (Key × Xv))
 | dt (kvs : List (List Key × Xv))
 | ins (nm : Str) (fs : List (Str × Xv))
 | fdk (kvs : List (Key × Xv))
 | dn (kvs : List (NK × Xv × Xv))
noncomputable abbrev Sto := List Ce
noncomputable abbrev Rho := List (Option Xv)
noncomputable def Ce.fz : Ce → Bool
 | .frz _ => true
 | .fdk _ => true
 | _ => false
noncomputable def HO.mu : HO → Bool
 | .lst _ => true
 | .dK _ => true
 | .dT _ => true
 | .dN _ => true
 | .ins _ _ _ => true
 | .set _ _ => true
 | _ => false
noncomputable def KeepI (H H' : Hp) : Prop := ∀ b u, H b = some u → u.mu = false → H' b = some u
theorem KeepI.refl (H : Hp) : KeepI H H := fun _ _ e _ => e
theorem KeepI.trans {H H1 H2 : Hp} (a : KeepI H H1) (b : KeepI H1 H2) : KeepI H H2 := fun x u e m => b x u (a x u e m) m
theorem KeepI.same {H H' : Hp} (S : Same H H') : KeepI H H' := fun b u e _ => S b u e
structure Ext (j : List Addr) (H : Hp) (j' : List Addr) (H' : Hp) : Prop where
 pre : ∀ (n : Nat) a, j[n]? = some a → j'[n]? = some a
 imm : KeepI H H'
theorem Ext.refl {j : List Addr} {H : Hp} : Ext j H j H := ⟨fun _ _ e => e, KeepI.refl _⟩
theorem Ext.trans {j j1 j2 : List Addr} {H H1 H2 : Hp} (a : Ext j H j1 H1) (b : Ext j1 H1 j2 H2) : Ext j H j2 H2 := ⟨fun n x e => b.pre n x (a.pre n x e), a.imm.trans b.imm⟩
theorem Ext.same {j : List Addr} {H H' : Hp} (S : Same H H') : Ext j H j H' := ⟨fun _ _ e => e, KeepI.same S⟩
mutual
inductive Xis (K : PySem.W.Frag) (j : List Addr) (H : Hp) : Xv → V → Prop where
 | non : Xis K j H .non .non
 | bl (b : Bool) : Xis K j H (.bl b) (.bl b)
 | int (i : Int) : Xis K j H (.int i) (.int i)
 | str (x : Str) : Xis K j H (.str x) (.str x)
 | tup {a : Addr} {vs : List V} {xs : List Xv} : H a = some (.tup vs) → XisL K j H xs vs → Xis K j H (.tup xs) (.ref a)
 | ct {a : Addr} {vs : List V} {xs : List Xv} : (∀ H, SqT K H a vs) → XisL K j H xs vs → Xis K j H (.ct xs) (.ref a)
 | ref {n : Nat} {a : Addr} : j[n]? = some a → Xis K j H (.ref n) (.ref a)
inductive XisL (K : PySem.W.Frag) (j : List Addr) (H : Hp) : List Xv → List V → Prop where
 | nil : XisL K j H [] []
 | cons {x : Xv} {v : V} {xs : List Xv} {vs : List V} : Xis K j H x v → XisL K j H xs vs → XisL K j H (x :: xs) (v :: vs)
end
mutual
theorem Xis.mono {K : PySem.W.Frag} {j j' : List Addr} {H H' : Hp} (S : Ext j H j' H') : ∀ {x : Xv} {v : V}, Xis K j H x v → Xis K j' H' x v
 | _, _, .non => .non
 | _, _, .bl b => .bl b
 | _, _, .int i => .int i
 | _, _, .str x => .str x
 | _, _, .tup h l => .tup (S.imm _ _ h rfl) (XisL.mono S l)
 | _, _, .ct h l => .ct h (XisL.mono S l)
 | _, _, .ref h => .ref (S.pre _ _ h)
theorem XisL.mono {K : PySem.W.Frag} {j j' : List Addr} {H H' : Hp} (S : Ext j H j' H') : ∀ {xs : List Xv} {vs : List V}, XisL K j H xs vs → XisL K j' H' xs vs
 | _, _, .nil => .nil
 | _, _, .cons h l => .cons (Xis.mono S h) (XisL.mono S l)
end
section
variable {K : PySem.W.Frag} {j : List Addr} {H : Hp}
theorem XisL.len : ∀ {xs : List Xv} {vs : List V}, XisL K j H xs vs → vs.length = xs.length
 | _, _, .nil => rfl
 | _, _, .cons _ l => by rw [List.length_cons, List.length_cons, l.len]
theorem XisL.get : ∀ {xs : List Xv} {vs : List V} {i : Nat} {x : Xv}, XisL K j H xs vs → xs[i]? = some x → ∃ v, vs[i]? = some v ∧ Xis K j H x v
 | _, _, _, _, .nil, e => by simp at e
 | _, _, 0, _, .cons h _, e => by simp at e; subst e; exact ⟨_, rfl, h⟩
 | _, _, i + 1, x, .cons _ l, e => by
  obtain ⟨v, e1, e2⟩ := l.get (i := i) (x := x) (by simpa using e)
  exact ⟨v, by simpa using e1, e2⟩
theorem XisL.append : ∀ {xs ys : List Xv} {vs ws : List V}, XisL K j H xs vs → XisL K j H ys ws → XisL K j H (xs ++ ys) (vs ++ ws)
 | _, _, _, _, .nil, h => h
 | _, _, _, _, .cons h l, k => .cons h (l.append k)
theorem XisL.one {v : V} {x : Xv} (h : Xis K j H x v) : XisL K j H [x] [v] := .cons h .nil
theorem XisL.take : ∀ {xs : List Xv} {vs : List V} (n : Nat), XisL K j H xs vs → XisL K j H (xs.take n) (vs.take n)
 | _, _, 0, _ => .nil
 | _, _, _ + 1, .nil => .nil
 | _, _, n + 1, .cons h l => .cons h (l.take n)
theorem XisL.drop : ∀ {xs : List Xv} {vs : List V} (n : Nat), XisL K j H xs vs → XisL K j H (xs.drop n) (vs.drop n)
 | _, _, 0, h => h
 | _, _, _ + 1, .nil => .nil
 | _, _, n + 1, .cons h l => l.drop n
theorem XisL.ints : ∀ ns : List Int, XisL K j H (ns.map Xv.int) (ns.map V.int)
 | [] => .nil
 | n :: r => .cons (.int n) (XisL.ints r)
theorem XisL.reverse : ∀ {xs : List Xv} {vs : List V}, XisL K j H xs vs → XisL K j H xs.reverse vs.reverse
 | _, _, .nil => .nil
 | _, _, .cons h l => by
  rw [List.reverse_cons, List.reverse_cons]
  exact l.reverse.append (.one h)
theorem XisL.set {v : V} {x : Xv} (hv : Xis K j H x v) : ∀ {xs : List Xv} {vs : List V} (n : Nat), XisL K j H xs vs → XisL K j H (xs.set n x) (vs.set n v)
 | _, _, _, .nil => .nil
 | _, _, 0, .cons _ l => .cons hv l
 | _, _, n + 1, .cons h l => .cons h (l.set hv n)
theorem XisL.dropLast {xs : List Xv} {vs : List V} (h : XisL K j H xs vs) : XisL K j H xs.dropLast vs.dropLast := by
 rw [List.dropLast_eq_take, List.dropLast_eq_take, h.len]
 exact h.take _
theorem XisL.at_ {xs : List Xv} {vs : List V} {i : Int} {x : Xv} (h : XisL K j H xs vs) (e : atI xs i = some x) : ∃ v, atI vs i = some v ∧ Xis K j H x v := by
 unfold atI at e ⊢
 rw [h.len]
 cases e1 : ixN xs.length i with
 | none => rw [e1] at e; cases e
 | some m =>
  rw [e1] at e
  obtain ⟨v, e3, e4⟩ := h.get (i := m) e
  exact ⟨v, e3, e4⟩
theorem Xis.int_inv {v : V} {i : Int} (h : Xis K j H (.int i) v) : v = .int i := by cases h; rfl
theorem Xis.bl_inv {v : V} {b : Bool} (h : Xis K j H (.bl b) v) : v = .bl b := by cases h; rfl
theorem Xis.str_inv {v : V} {b : Str} (h : Xis K j H (.str b) v) : v = .str b := by cases h; rfl
theorem Xis.non_inv {v : V} (h : Xis K j H .non v) : v = .non := by cases h; rfl
theorem Xis.ref_inv {v : V} {n : Nat} (h : Xis K j H (.ref n) v) : ∃ a, v = .ref a ∧ j[n]? = some a := by cases h with | ref e => exact ⟨_, rfl, e⟩
theorem Xis.tup_inv {v : V} {xs : List Xv} (h : Xis K j H (.tup xs) v) : ∃ a vs, v = .ref a ∧ H a = some (.tup vs) ∧ XisL K j H xs vs := by cases h with | tup a b => exact ⟨_, _, rfl, a, b⟩
theorem XisL.cons_inv {vs : List V} {x : Xv} {xs : List Xv} (h : XisL K j H (x :: xs) vs) : ∃ v r, vs = v :: r ∧ Xis K j H x v ∧ XisL K j H xs r := by cases h with | cons a b => exact ⟨_, _, rfl, a, b⟩
theorem XisL.nil_inv {vs : List V} (h : XisL K j H [] vs) : vs = [] := by cases h; rfl
theorem XisL.d1 {vs : List V} {a : Xv} (h : XisL K j H [a] vs) : ∃ x, vs = [x] ∧ Xis K j H a x := by
 obtain ⟨x, r, rfl, hx, h⟩ := h.cons_inv
 obtain rfl := h.nil_inv
 exact ⟨x, rfl, hx⟩
theorem XisL.d2 {vs : List V} {a b : Xv} (h : XisL K j H [a, b] vs) : ∃ x y, vs = [x, y] ∧ Xis K j H a x ∧ Xis K j H b y := by
 obtain ⟨x, r, rfl, hx, h⟩ := h.cons_inv
 obtain ⟨y, rfl, hy⟩ := h.d1
 exact ⟨x, y, rfl, hx, hy⟩
noncomputable def Xv.tupOf : Xv → Option (List Xv)
 | .tup xs => some xs
 | .ct xs => some xs
 | _ => none
theorem Xis.tupO {v : V} {x : Xv} {xs : List Xv} (h : Xis K j H x v) (e : x.tupOf = some xs) : ∃ a vs, v = .ref a ∧ SqT K H a vs ∧ XisL K j H xs vs := by
 cases h with
 | tup h l => simp [Xv.tupOf] at e; subst e; exact ⟨_, _, rfl, SqT.of h, l⟩
 | ct h l => simp [Xv.tupOf] at e; subst e; exact ⟨_, _, rfl, h H, l⟩
 | _ => simp [Xv.tupOf] at e
end
inductive KX {κ : Type} (K : PySem.W.Frag) (j : List Addr) (H : Hp) : List (κ × Xv) → List (κ × V) → Prop where
 | nil : KX K j H [] []
 | cons {k : κ} {x : Xv} {v : V} {r : List (κ × Xv)} {rs : List (κ × V)} : Xis K j H x v → KX K j H r rs → KX K j H ((k, x) :: r) ((k, v) :: rs)
theorem KX.mono {κ : Type} {K : PySem.W.Frag} {j j' : List Addr} {H H' : Hp} (S : Ext j H j' H') : ∀ {xs : List (κ × Xv)} {vs : List (κ × V)}, KX K j H xs vs → KX K j' H' xs vs
 | _, _, .nil => .nil
 | _, _, .cons h l => .cons (h.mono S) (l.mono S)
mutual
noncomputable def xkey : Xv → Option NK
 | .int i => some (.int i)
 | .str x => some (.str x)
 | .tup l => (xkeyL l).map .tup
 | .ct l => (xkeyL l).map .tup
 | .non => none
 | .bl _ => none
 | .ref _ => none
noncomputable def xkeyL : List Xv → Option (List NK)
 | [] => some []
 | x :: r => (xkey x).bind fun k => (xkeyL r).map (k :: ·)
end
inductive NX (K : PySem.W.Frag) (j : List Addr) (H : Hp) : List (NK × Xv × Xv) → List (NK × Addr × V) → Prop where
 | nil : NX K j H [] []
 | cons {k : NK} {x y : Xv} {b : Addr} {v : V} {r : List (NK × Xv × Xv)} {rs : List (NK × Addr × V)} : xkey x = some k ∧ ndep k ≤ 8 → Xis K j H x (.ref b) → Xis K j H y v → NX K j H r rs → NX K j H ((k, x, y) :: r) ((k, b, v) :: rs)
theorem NX.mono {K : PySem.W.Frag} {j j' : List Addr} {H H' : Hp} (S : Ext j H j' H') : ∀ {xs : List (NK × Xv × Xv)} {vs : List (NK × Addr × V)}, NX K j H xs vs → NX K j' H' xs vs
 | _, _, .nil => .nil
 | _, _, .cons e h1 h2 l => .cons e (h1.mono S) (h2.mono S) (l.mono S)
noncomputable def CeIs (K : PySem.W.Frag) (j : List Addr) (H : Hp) (a : Addr) : Ce → Prop
 | .lst xs => ∃ vs, H a = some (.lst vs) ∧ XisL K j H xs vs
 | .frz xs => ∃ vs, ((∃ o, H a = some (.frz o (.lst vs))) ∨ ∀ H, SqX K H a vs) ∧ XisL K j H xs vs
 | .dk kvs => ∃ ks : List (Key × V), H a = some (.dK ks) ∧ KX K j H kvs ks
 | .dt kvs => ∃ ks : List (List Key × V), H a = some (.dT ks) ∧ KX K j H kvs ks
 | .ins nm fs => ∃ (C dx : Addr) (vs : List (Str × V)), PySem.W.nsIn K mainGlobals nm = some (some (.ref C)) ∧ H a = some (.ins C dx vs) ∧ KX K j H fs vs
 | .fdk kvs => ∃ (o : Obj) (ks : List (Key × V)), H a = some (.frz o (.dK ks)) ∧ KX K j H kvs ks
 | .dn kvs => ∃ ks : List (NK × Addr × V), H a = some (.dN ks) ∧ NX K j H kvs ks
theorem CeIs.mu {K : PySem.W.Frag} {j : List Addr} {H : Hp} {a : Addr} : ∀ {c : Ce}, CeIs K j H a c → c.fz = false → ∃ o, H a = some o ∧ o.mu = true
 | .lst _, ⟨_, e, _⟩, _ => ⟨_, e, rfl⟩
 | .frz _, _, z => by cases z
 | .dk _, ⟨_, e, _⟩, _ => ⟨_, e, rfl⟩
 | .dt _, ⟨_, e, _⟩, _ => ⟨_, e, rfl⟩
 | .ins _ _, ⟨_, _, _, _, e, _⟩, _ => ⟨_, e, rfl⟩
 | .fdk _, _, z => by cases z
 | .dn _, ⟨_, e, _⟩, _ => ⟨_, e, rfl⟩
theorem CeIs.mono {K : PySem.W.Frag} {j j' : List Addr} {H H' : Hp} {a : Addr} (S : Ext j H j' H') : ∀ {c : Ce}, (c.fz = false → H' a = H a) → CeIs K j H a c → CeIs K j' H' a c
 | .lst _, h, ⟨_, e, l⟩ => ⟨_, (h rfl).trans e, l.mono S⟩
 | .frz _, _, ⟨_, .inl ⟨o, e⟩, l⟩ => ⟨_, .inl ⟨o, S.imm _ _ e rfl⟩, l.mono S⟩
 | .frz _, _, ⟨_, .inr e, l⟩ => ⟨_, .inr e, l.mono S⟩
 | .dk _, h, ⟨_, e, l⟩ => ⟨_, (h rfl).trans e, l.mono S⟩
 | .dt _, h, ⟨_, e, l⟩ => ⟨_, (h rfl).trans e, l.mono S⟩
 | .ins _ _, h, ⟨_, _, _, n, e, l⟩ => ⟨_, _, _, n, (h rfl).trans e, l.mono S⟩
 | .fdk _, _, ⟨_, _, e, l⟩ => ⟨_, _, S.imm _ _ e rfl, l.mono S⟩
 | .dn _, h, ⟨_, e, l⟩ => ⟨_, (h rfl).trans e, l.mono S⟩
structure Fm where
 H0 : Hp
 j0 : List Addr
 S0 : Sto
structure En (K : PySem.W.Frag) (F : Fm) (j : List Addr) (H : Hp) (σ : St) (ρ : Rho) (S : Sto) : Prop where
 len : σ.length = ρ.length
 slot : ∀ (i : Nat) x, ρ[i]? = some (some x) → ∃ v, σ[i]? = some (some v) ∧ Xis K j H x v
 jl : j.length = S.length
 inj : ∀ (n m : Nat) a c d, j[n]? = some a → j[m]? = some a → S[n]? = some c → S[m]? = some d → c.fz = false → d.fz = false → n = m
 cel : ∀ (n : Nat) c a, S[n]? = some c → j[n]? = some a → CeIs K j H a c
 ext : Ext F.j0 F.H0 j H
 old : ∀ (n : Nat) c, F.S0[n]? = some c → ∃ c', S[n]? = some c' ∧ (c'.fz = false → c.fz = false) ∧ (c.fz = true → c' = c)
 l0 : F.j0.length = F.S0.length
 keep : ∀ b u, F.H0 b = some u → H b = some u ∨ ∃ (n : Nat) (c : Ce), F.j0[n]? = some b ∧ F.S0[n]? = some c ∧ c.fz = false
 fresh : ∀ (n : Nat) a, F.j0.length ≤ n → j[n]? = some a → F.H0 a = none
 dom : ∀ b, H b = none → F.H0 b = none
section
variable {K : PySem.W.Frag} {F : Fm} {j j' : List Addr} {H H' : Hp} {σ σ' : St} {ρ ρ' : Rho} {S S' : Sto} {v : V} {x : Xv} {a p : Addr} {o : HO} {i n : Nat} {c c' : Ce}
theorem En.heap (E : En K F j H σ ρ S) (Sm : Same H H') : En K F j H' σ ρ S := by
 have X : Ext j H j H' := Ext.same Sm
 refine ⟨E.len, fun i x e => ?_, E.jl, E.inj, fun n c a e1 e2 => ?_, E.ext.trans X, E.old, E.l0, fun b u e => ?_, E.fresh, fun b e => E.dom b ?_⟩
 ·obtain ⟨v, e1, e2⟩ := E.slot i x e
  exact ⟨v, e1, e2.mono X⟩
 ·have h := E.cel n c a e1 e2
  refine h.mono X fun z => ?_
  obtain ⟨o, e, _⟩ := h.mu z
  exact (Sm _ _ e).trans e.symm
 ·rcases E.keep b u e with h | h
  ·exact .inl (Sm _ _ h)
  ·exact .inr h
 ·cases e' : H b with
  | none => rfl
  | some u => rw [Sm b u e'] at e; cases e
theorem En.new (E : En K F j H σ ρ S) (h : H p = none) : En K F j (upd H p o) σ ρ S ∧ Ext j H j (upd H p o) := ⟨E.heap (same_upd h), Ext.same (same_upd h)⟩
theorem En.cell (E : En K F j H σ ρ S) (h : H p = none) (hc : CeIs K (j ++ [p]) (upd H p o) p c) : En K F (j ++ [p]) (upd H p o) σ ρ (S ++ [c]) ∧ Ext j H (j ++ [p]) (upd H p o) := by
 have X : Ext j H (j ++ [p]) (upd H p o) := ⟨fun n a e => by rw [List.getElem?_append_left (List.getElem?_eq_some_iff.1 e).1]; exact e, KeepI.same (same_upd h)⟩
 have jat : ∀ {n : Nat} {a : Addr}, (j ++ [p])[n]? = some a → j[n]? = some a ∨ (n = j.length ∧ a = p) := fun {n a} e => by
  by_cases hn : n < j.length
  ·rw [List.getElem?_append_left hn] at e; exact .inl e
  ·rw [List.getElem?_append_right (by omega)] at e
   cases hm : n - j.length with
   | zero => rw [hm] at e; simp at e; exact .inr ⟨by omega, e.symm⟩
   | succ m => rw [hm] at e; simp at e
 have sat : ∀ {n : Nat} {d : Ce}, (S ++ [c])[n]? = some d → S[n]? = some d ∨ (n = S.length ∧ d = c) := fun {n d} e => by
  by_cases hn : n < S.length
  ·rw [List.getElem?_append_left hn] at e; exact .inl e
  ·rw [List.getElem?_append_right (by omega)] at e
   cases hm : n - S.length with
   | zero => rw [hm] at e; simp at e; exact .inr ⟨by omega, e.symm⟩
   | succ m => rw [hm] at e; simp at e
 have lt : ∀ {n : Nat} {d : Ce}, S[n]? = some d → n < S.length := fun e => (List.getElem?_eq_some_iff.1 e).1
 have mine : ∀ {n : Nat} {a : Addr} {d : Ce}, j[n]? = some a → S[n]? = some d → d.fz = false → a ≠ p := fun {n a d} e1 e2 z q => by
  subst q
  obtain ⟨o', e, _⟩ := (E.cel n d a e2 e1).mu z
  rw [h] at e; cases e
 refine ⟨⟨E.len, fun i x e => ?_, by simp [E.jl], fun n m a c1 c2 e1 e2 e3 e4 z1 z2 => ?_, fun n d a e1 e2 => ?_, E.ext.trans X, fun n d e => ?_, E.l0, fun b u e => ?_, fun n a hn e => ?_, fun b e => ?_⟩, X⟩
 ·obtain ⟨v, e1, e2⟩ := E.slot i x e
  exact ⟨v, e1, e2.mono X⟩
 ·rcases sat e3 with e3 | ⟨e3, _⟩
  ·have h1 : j[n]? = some a := by
    rcases jat e1 with h1 | ⟨h1, _⟩
    ·exact h1
    ·have := lt e3; rw [E.jl] at h1; omega
   rcases sat e4 with e4 | ⟨e4, _⟩
   ·have h2 : j[m]? = some a := by
     rcases jat e2 with h2 | ⟨h2, _⟩
     ·exact h2
     ·have := lt e4; rw [E.jl] at h2; omega
    exact E.inj n m a c1 c2 h1 h2 e3 e4 z1 z2
   ·have : a = p := by
     rcases jat e2 with h2 | ⟨_, h2⟩
     ·have := (List.getElem?_eq_some_iff.1 h2).1; rw [E.jl] at this; omega
     ·exact h2
    exact absurd this (mine h1 e3 z1)
  ·have : a = p := by
    rcases jat e1 with h2 | ⟨_, h2⟩
    ·have := (List.getElem?_eq_some_iff.1 h2).1; rw [E.jl] at this; omega
    ·exact h2
   rcases sat e4 with e4 | ⟨e4, _⟩
   ·have h2 : j[m]? = some a := by
     rcases jat e2 with h2 | ⟨h2, _⟩
     ·exact h2
     ·have := lt e4; rw [E.jl] at h2; omega
    exact absurd this (mine h2 e4 z2)
   ·rw [e3, e4]
 ·rcases sat e1 with e1 | ⟨e1, rfl⟩
  ·have h2 : j[n]? = some a := by
    rcases jat e2 with h2 | ⟨h2, _⟩
    ·exact h2
    ·have := lt e1; rw [E.jl] at h2; omega
   have hh := E.cel n d a e1 h2
   exact hh.mono X fun z => upd_ne (mine h2 e1 z)
  ·have : a = p := by
    rcases jat e2 with h2 | ⟨_, h2⟩
    ·have := (List.getElem?_eq_some_iff.1 h2).1; rw [E.jl] at this; omega
    ·exact h2
   subst this
   exact hc
 ·obtain ⟨d', e1, e2⟩ := E.old n d e
  exact ⟨d', by rw [List.getElem?_append_left (lt e1)]; exact e1, e2⟩
 ·rcases E.keep b u e with h' | h'
  ·exact .inl (same_upd h _ _ h')
  ·exact .inr h'
 ·rcases jat e with e | ⟨_, rfl⟩
  ·exact E.fresh n a hn e
  ·exact E.dom _ h
 ·refine E.dom b ?_
  cases e' : H b with
  | none => rfl
  | some u => rw [same_upd h b u e'] at e; cases e
theorem En.writeF (E : En K F j H σ ρ S) (hs : S[n]? = some c) (z : c.fz = false) (hj : j[n]? = some a) (hc : ∀ X : Ext j H j (upd H a o), CeIs K j (upd H a o) a c') : En K F j (upd H a o) σ ρ (S.set n c') ∧ Ext j H j (upd H a o) := by
 obtain ⟨o0, h0, m0⟩ := (E.cel n c a hs hj).mu z
 have X : Ext j H j (upd H a o) := ⟨fun _ _ e => e, fun b u e m => by
  have : b ≠ a := fun q => by subst q; rw [h0] at e; cases e; rw [m] at m0; cases m0
  rw [upd_ne this]; exact e⟩
 have sat : ∀ {m : Nat} {d : Ce}, (S.set n c')[m]? = some d → (m = n ∧ d = c') ∨ (m ≠ n ∧ S[m]? = some d) := fun {m d} e => by
  rw [List.getElem?_set] at e
  split at e
  ·rename_i q
   split at e
   ·cases e; exact .inl ⟨q.symm, rfl⟩
   ·cases e
  ·rename_i q
   exact .inr ⟨fun r => q r.symm, e⟩
 have fzq : ∀ {m : Nat} {d : Ce}, (S.set n c')[m]? = some d → ∃ d', S[m]? = some d' ∧ (d.fz = false → d'.fz = false) := fun {m d} e => by
  rcases sat e with ⟨rfl, rfl⟩ | ⟨_, e⟩
  ·exact ⟨c, hs, fun _ => z⟩
  ·exact ⟨d, e, fun y => y⟩
 refine ⟨⟨E.len, fun i x e => ?_, by simp [E.jl], fun k m b c1 c2 e1 e2 e3 e4 z1 z2 => ?_, fun m d b e1 e2 => ?_, E.ext.trans X, fun m d e => ?_, E.l0, fun b u e => ?_, E.fresh, fun b e => ?_⟩, X⟩
 ·obtain ⟨v, e1, e2⟩ := E.slot i x e
  exact ⟨v, e1, e2.mono X⟩
 ·obtain ⟨d1, f1, g1⟩ := fzq e3
  obtain ⟨d2, f2, g2⟩ := fzq e4
  exact E.inj k m b d1 d2 e1 e2 f1 f2 (g1 z1) (g2 z2)
 ·rcases sat e1 with ⟨rfl, rfl⟩ | ⟨q, e1⟩
  ·rw [hj] at e2
   cases e2
   exact hc X
  ·refine (E.cel m d b e1 e2).mono X fun zd => upd_ne fun r => ?_
   subst r
   exact q (E.inj m n b d c e2 hj e1 hs zd z)
 ·obtain ⟨d', e1, e2, e3⟩ := E.old m d e
  by_cases q : m = n
  ·subst q
   rw [hs] at e1
   cases e1
   refine ⟨c', by rw [List.getElem?_set, if_pos rfl, if_pos (List.getElem?_eq_some_iff.1 hs).1], fun _ => e2 z, fun y => ?_⟩
   rw [e2 z] at y
   cases y
  ·exact ⟨d', by rw [List.getElem?_set, if_neg (fun r => q r.symm)]; exact e1, e2, e3⟩
 ·by_cases q : b = a
  ·subst q
   by_cases hn : n < F.j0.length
   ·have hj0 : F.j0[n]? = some b := by
     have e1 : F.j0[n]? = some F.j0[n] := List.getElem?_eq_getElem hn
     have e2 := E.ext.pre n _ e1
     rw [hj] at e2
     cases e2
     exact e1
    have hn2 : n < F.S0.length := by rw [← E.l0]; exact hn
    obtain ⟨d', f1, f2, _⟩ := E.old n _ (List.getElem?_eq_getElem hn2)
    rw [hs] at f1
    cases f1
    exact .inr ⟨n, _, hj0, List.getElem?_eq_getElem hn2, f2 z⟩
   ·rw [E.fresh n b (by omega) hj] at e
    cases e
  ·rcases E.keep b u e with h | h
   ·exact .inl (by rw [upd_ne q]; exact h)
   ·exact .inr h
 ·by_cases q : b = a
  ·subst q; rw [upd_same] at e; cases e
  ·rw [upd_ne q] at e; exact E.dom b e
theorem En.write (E : En K F j H σ ρ S) (hs : S[n]? = some c) (z : c.fz = false) (hj : j[n]? = some a) (_ : c'.fz = false) (hc : ∀ X : Ext j H j (upd H a o), CeIs K j (upd H a o) a c') : En K F j (upd H a o) σ ρ (S.set n c') ∧ Ext j H j (upd H a o) := E.writeF hs z hj hc
theorem En.slots (E : En K F j H σ ρ S) (hl : σ'.length = ρ'.length) (h : ∀ (i : Nat) x, ρ'[i]? = some (some x) → ∃ v, σ'[i]? = some (some v) ∧ Xis K j H x v) : En K F j H σ' ρ' S :=
 ⟨hl, h, E.jl, E.inj, E.cel, E.ext, E.old, E.l0, E.keep, E.fresh, E.dom⟩
theorem En.set (E : En K F j H σ ρ S) (h : Xis K j H x v) : En K F j H (σ.set i (some v)) (ρ.set i (some x)) S := E.slots (by simp [E.len]) fun k y e => by
 rw [List.getElem?_set] at e ⊢
 split at e
 ·rename_i q
  subst q
  split at e
  ·rename_i hl
   cases e
   rw [if_pos rfl, if_pos (by rw [E.len]; exact hl)]
   exact ⟨v, rfl, h⟩
  ·cases e
 ·rename_i q
  rw [if_neg q]
  exact E.slot k y e
theorem En.enter (E : En K F j H σ ρ S) (hl : σ'.length = ρ'.length) (h : ∀ (i : Nat) x, ρ'[i]? = some (some x) → ∃ v, σ'[i]? = some (some v) ∧ Xis K j H x v) : En K ⟨H, j, S⟩ j H σ' ρ' S :=
 ⟨hl, h, E.jl, E.inj, E.cel, Ext.refl, fun n c e => ⟨c, e, fun z => z, fun _ => rfl⟩, E.jl, fun b u e => .inl e, fun n a hn e => by have := (List.getElem?_eq_some_iff.1 e).1; dsimp only at hn; omega, fun b e => e⟩
theorem En.leave (E : En K F j H σ ρ S) (X : En K ⟨H, j, S⟩ j' H' σ' ρ' S') : En K F j' H' σ ρ S' ∧ Ext j H j' H' := by
 have e : Ext j H j' H' := X.ext
 refine ⟨⟨E.len, fun i x h => ?_, X.jl, X.inj, X.cel, E.ext.trans e, fun n c h => ?_, E.l0, fun b u h => ?_, fun n a hn h => ?_, fun b h => E.dom b (X.dom b h)⟩, e⟩
 ·obtain ⟨v, e1, e2⟩ := E.slot i x h
  exact ⟨v, e1, e2.mono e⟩
 ·obtain ⟨c1, e1, e2, e3⟩ := E.old n c h
  obtain ⟨c2, f1, f2, f3⟩ := X.old n c1 e1
  refine ⟨c2, f1, fun z => e2 (f2 z), fun z => ?_⟩
  obtain rfl := e3 z
  exact f3 z
 ·rcases E.keep b u h with h1 | h1
  ·rcases X.keep b u h1 with h2 | ⟨n, c, h2, h3, h4⟩
   ·exact .inl h2
   ·by_cases hn : n < F.j0.length
    ·have e1 : F.j0[n]? = some F.j0[n] := List.getElem?_eq_getElem hn
     have e2 := E.ext.pre n _ e1
     have h2' : j[n]? = some b := h2
     rw [h2'] at e2
     cases e2
     have hn2 : n < F.S0.length := by rw [← E.l0]; exact hn
     obtain ⟨c1, f1, f2, _⟩ := E.old n _ (List.getElem?_eq_getElem hn2)
     have h3' : S[n]? = some c := h3
     rw [h3'] at f1
     cases f1
     exact .inr ⟨n, _, e1, List.getElem?_eq_getElem hn2, f2 h4⟩
    ·have := E.fresh n b (by omega) h2
     rw [this] at h; cases h
  ·exact .inr h1
 ·by_cases hm : n < j.length
  ·have e1 : j[n]? = some j[n] := List.getElem?_eq_getElem hm
   have e2 := e.pre n _ e1
   rw [h] at e2
   cases e2
   exact E.fresh n _ hn e1
  ·exact E.dom a (X.fresh n a (by dsimp only; omega) h)
theorem En.grow {k : Nat} (E : En K F j H σ ρ S) : En K F j H (σ ++ List.replicate k none) (ρ ++ List.replicate k none) S := E.slots (by simp [E.len]) fun i x e => by
 by_cases hi : i < ρ.length
 ·rw [List.getElem?_append_left hi] at e
  rw [List.getElem?_append_left (by rw [E.len]; exact hi)]
  exact E.slot i x e
 ·rw [List.getElem?_append_right (by omega), List.getElem?_replicate] at e
  split at e
  ·cases e
  ·cases e
end
end L2
namespace L2
open PySem
inductive Rs (α : Type) where
 | ok (a : α) (S : Sto)
 | ex (c : Str) (S : Sto)
noncomputable abbrev TwE := Rho → Sto → Option (Rs Xv)
noncomputable abbrev TwT := Rho → Sto → Option (Rs Bool)
noncomputable abbrev TwL := Rho → Sto → Option (Rs (List Xv))
noncomputable abbrev TwO := Rho → Sto → Option (Rs (Option Int))
noncomputable abbrev TwG := Xv → Rho → Sto → Option (Rs Rho)
noncomputable abbrev TwGs := List Xv → Rho → Sto → Option (Rs Rho)
noncomputable abbrev TwI := Rho → Sto → Option (Rs (Sto → Option (List Xv)))
inductive Fl where
 | nx (ρ : Rho) (S : Sto)
 | bk (ρ : Rho) (S : Sto)
 | ct (ρ : Rho) (S : Sto)
 | rt (x : Xv) (S : Sto)
 | ex (c : Str) (S : Sto)
noncomputable abbrev TwS := Rho → Sto → Option Fl
noncomputable def rb {α β : Type} (m : Option (Rs α)) (f : α → Sto → Option (Rs β)) : Option (Rs β) := match m with
 | some (.ok a S) => f a S
 | some (.ex c S) => some (.ex c S)
 | none => none
noncomputable def sb {α : Type} (m : Option (Rs α)) (f : α → Sto → Option Fl) : Option Fl := match m with
 | some (.ok a S) => f a S
 | some (.ex c S) => some (.ex c S)
 | none => none
theorem rb_some {α β : Type} {m : Option (Rs α)} {f : α → Sto → Option (Rs β)} {r : Rs β} (h : rb m f = some r) : (∃ a S, m = some (.ok a S) ∧ f a S = some r) ∨ ∃ c S, m = some (.ex c S) ∧ r = .ex c S := by
 unfold rb at h
 split at h
 ·exact .inl ⟨_, _, rfl, h⟩
 ·cases h; exact .inr ⟨_, _, rfl, rfl⟩
 ·cases h
theorem sb_some {α : Type} {m : Option (Rs α)} {f : α → Sto → Option Fl} {r : Fl} (h : sb m f = some r) : (∃ a S, m = some (.ok a S) ∧ f a S = some r) ∨ ∃ c S, m = some (.ex c S) ∧ r = .ex c S := by
 unfold sb at h
 split at h
 ·exact .inl ⟨_, _, rfl, h⟩
 ·cases h; exact .inr ⟨_, _, rfl, rfl⟩
 ·cases h
noncomputable def PX (K : PySem.W.Frag) (F : Fm) (j : List Addr) (H : Hp) (E : XK) (c : Str) (S' : Sto) : Prop :=
 ∀ j' H' σ' ρ' C, Ext j H j' H' → En K F j' H' σ' ρ' S' → PySem.W.nsIn K mainGlobals c = some (some (.ref C)) → E (.ref C) none H'
theorem PX.mono {K : PySem.W.Frag} {F : Fm} {j j1 : List Addr} {H H1 : Hp} {E : XK} {c : Str} {S' : Sto} (h : PX K F j H E c S') (e : Ext j H j1 H1) : PX K F j1 H1 E c S' := fun j' H' σ' ρ' C x y z => h j' H' σ' ρ' C (e.trans x) y z
noncomputable def Po {α : Type} (K : PySem.W.Frag) (F : Fm) (j : List Addr) (H : Hp) (σ : St) (ρ : Rho) (E : XK) (P : α → List Addr → Hp → Prop) : Rs α → Prop
 | .ok a S' => ∀ j' H', Ext j H j' H' → En K F j' H' σ ρ S' → P a j' H'
 | .ex c S' => PX K F j H E c S'
theorem Po.step {α : Type} {K : PySem.W.Frag} {F : Fm} {j j1 : List Addr} {H H1 : Hp} {σ : St} {ρ : Rho} {E : XK} {P : α → List Addr → Hp → Prop} : ∀ {r : Rs α}, Po K F j H σ ρ E P r → Ext j H j1 H1 → Po K F j1 H1 σ ρ E P r
 | .ok a S', h, e => fun j' H' x y => h j' H' (e.trans x) y
 | .ex c S', h, e => PX.mono h e
noncomputable abbrev PoV (K : PySem.W.Frag) (Q : VK) : Xv → List Addr → Hp → Prop := fun x j' H' => ∀ v, Xis K j' H' x v → Q v H'
noncomputable def RE (K : PySem.W.Frag) (E : XK) (t : TE) (m : TwE) : Prop := ∀ {F : Fm} {j : List Addr} {σ : St} {H : Hp} {ρ : Rho} {S : Sto} {r : Rs Xv} {Q : VK}, En K F j H σ ρ S → m ρ S = some r → Po K F j H σ ρ E (PoV K Q) r → t σ H Q
noncomputable def RT (K : PySem.W.Frag) (E : XK) (t : TT) (m : TwT) : Prop := ∀ {F : Fm} {j : List Addr} {σ : St} {H : Hp} {ρ : Rho} {S : Sto} {r : Rs Bool} {Q : Bool → Hp → Prop}, En K F j H σ ρ S → m ρ S = some r → Po K F j H σ ρ E (fun b _ H' => Q b H') r → t σ H Q
noncomputable def RL (K : PySem.W.Frag) (E : XK) (t : TA) (m : TwL) : Prop := ∀ {F : Fm} {j : List Addr} {σ : St} {H : Hp} {ρ : Rho} {S : Sto} {r : Rs (List Xv)} {Q : List V → Hp → Prop}, En K F j H σ ρ S → m ρ S = some r → Po K F j H σ ρ E (fun xs j' H' => ∀ vs, XisL K j' H' xs vs → Q vs H') r → t σ H Q
noncomputable def RO (K : PySem.W.Frag) (E : XK) (t : TO) (m : TwO) : Prop := ∀ {F : Fm} {j : List Addr} {σ : St} {H : Hp} {ρ : Rho} {S : Sto} {r : Rs (Option Int)} {Q : Option Int → Hp → Prop}, En K F j H σ ρ S → m ρ S = some r → Po K F j H σ ρ E (fun o _ H' => Q o H') r → t σ H Q
noncomputable def PoG (K : PySem.W.Frag) (F : Fm) (j : List Addr) (H : Hp) (E : XK) (R : St → Hp → Prop) : Rs Rho → Prop
 | .ok ρ' S' => ∀ σ' j' H', Ext j H j' H' → En K F j' H' σ' ρ' S' → R σ' H'
 | .ex c S' => PX K F j H E c S'
theorem PoG.step {K : PySem.W.Frag} {F : Fm} {j j1 : List Addr} {H H1 : Hp} {E : XK} {R : St → Hp → Prop} : ∀ {r : Rs Rho}, PoG K F j H E R r → Ext j H j1 H1 → PoG K F j1 H1 E R r
 | .ok a S', h, e => fun σ' j' H' x y => h σ' j' H' (e.trans x) y
 | .ex c S', h, e => PX.mono h e
noncomputable def RG (K : PySem.W.Frag) (E : XK) (t : TG) (g : TwG) : Prop := ∀ {F : Fm} {j : List Addr} {σ : St} {H : Hp} {ρ : Rho} {S : Sto} {r : Rs Rho} {x : Xv} {v : V} {R : St → Hp → Prop}, En K F j H σ ρ S → Xis K j H x v → g x ρ S = some r → PoG K F j H E R r → t v σ H R
noncomputable def RGs (K : PySem.W.Frag) (E : XK) (t : TGs) (g : TwGs) : Prop := ∀ {F : Fm} {j : List Addr} {σ : St} {H : Hp} {ρ : Rho} {S : Sto} {r : Rs Rho} {xs : List Xv} {vs : List V} {R : St → Hp → Prop}, En K F j H σ ρ S → XisL K j H xs vs → g xs ρ S = some r → PoG K F j H E R r → t vs σ H R
noncomputable def Post (K : PySem.W.Frag) (F : Fm) (j : List Addr) (H : Hp) (E : XK) (D' : Ends) : Fl → Prop
 | .nx ρ S => ∀ σ j' H', Ext j H j' H' → En K F j' H' σ ρ S → D'.nx σ H'
 | .bk ρ S => ∀ σ j' H', Ext j H j' H' → En K F j' H' σ ρ S → D'.bk σ H'
 | .ct ρ S => ∀ σ j' H', Ext j H j' H' → En K F j' H' σ ρ S → D'.ct σ H'
 | .rt x S => ∀ v σ ρ j' H', Ext j H j' H' → En K F j' H' σ ρ S → Xis K j' H' x v → D'.rt v H'
 | .ex c S => PX K F j H E c S
theorem Post.step {K : PySem.W.Frag} {F : Fm} {j j1 : List Addr} {H H1 : Hp} {E : XK} {D' : Ends} : ∀ {fl : Fl}, Post K F j H E D' fl → Ext j H j1 H1 → Post K F j1 H1 E D' fl
 | .nx _ _, h, e => fun σ j' H' x y => h σ j' H' (e.trans x) y
 | .bk _ _, h, e => fun σ j' H' x y => h σ j' H' (e.trans x) y
 | .ct _ _, h, e => fun σ j' H' x y => h σ j' H' (e.trans x) y
 | .rt _ _, h, e => fun v σ ρ j' H' x y z => h v σ ρ j' H' (e.trans x) y z
 | .ex _ _, h, e => PX.mono h e
noncomputable def RS (K : PySem.W.Frag) (E : XK) (t : TS) (m : TwS) : Prop := ∀ {F : Fm} {j : List Addr} {D' : Ends} {σ : St} {H : Hp} {ρ : Rho} {S : Sto} {fl : Fl}, En K F j H σ ρ S → m ρ S = some fl → Post K F j H E D' fl → t D' σ H
noncomputable def ItOk (K : PySem.W.Frag) (j : List Addr) (H : Hp) (J : It) (get : Sto → Option (List Xv)) : Prop := ∀ {F : Fm} {j' : List Addr} {H' : Hp} {σ : St} {ρ : Rho} {S : Sto} {xs : List Xv} (i : Nat), Ext j H j' H' → En K F j' H' σ ρ S → get S = some xs →
 (∀ x, xs[i]? = some x → J.go i H' ∧ ∀ v H'', J.yld i H' v H'' → Same H' H'' ∧ Xis K j' H'' x v) ∧ (i = xs.length → J.stop i H')
noncomputable def RI (K : PySem.W.Frag) (E : XK) (t : TI) (m : TwI) : Prop := ∀ {F : Fm} {j : List Addr} {σ : St} {H : Hp} {ρ : Rho} {S : Sto} {r : Rs (Sto → Option (List Xv))} {R : It → Hp → Prop}, En K F j H σ ρ S → m ρ S = some r → Po K F j H σ ρ E (fun get j' H' => ∀ J, ItOk K j' H' J get → R J H') r → t σ H R
noncomputable abbrev Op2 := Xv → Xv → Sto → Option (Xv × Sto)
noncomputable abbrev Opn := List Xv → Sto → Option (Xv × Sto)
noncomputable def R2Ok (K : PySem.W.Frag) (r : R2) (f : Op2) : Prop := ∀ {F : Fm} {j : List Addr} {σ : St} {H : Hp} {ρ : Rho} {S S' : Sto} {x y z : Xv} {u v : V} {Q : VK}, En K F j H σ ρ S → Xis K j H x u → Xis K j H y v → f x y S = some (z, S') → (∀ w j' H', Ext j H j' H' → En K F j' H' σ ρ S' → Xis K j' H' z w → Q w H') → r u v H Q
noncomputable def R1Ok (K : PySem.W.Frag) (r : V → Hp → VK → Prop) (f : Xv → Sto → Option (Xv × Sto)) : Prop := ∀ {F : Fm} {j : List Addr} {σ : St} {H : Hp} {ρ : Rho} {S S' : Sto} {x z : Xv} {u : V} {Q : VK}, En K F j H σ ρ S → Xis K j H x u → f x S = some (z, S') → (∀ w j' H', Ext j H j' H' → En K F j' H' σ ρ S' → Xis K j' H' z w → Q w H') → r u H Q
noncomputable def RcOk (K : PySem.W.Frag) (r : List V → Hp → VK → Prop) (f : Opn) : Prop := ∀ {F : Fm} {j : List Addr} {σ : St} {H : Hp} {ρ : Rho} {S S' : Sto} {xs : List Xv} {z : Xv} {vs : List V} {Q : VK}, En K F j H σ ρ S → XisL K j H xs vs → f xs S = some (z, S') → (∀ w j' H', Ext j H j' H' → En K F j' H' σ ρ S' → Xis K j' H' z w → Q w H') → r vs H Q
noncomputable def eVar (i : Nat) : TwE := fun ρ S => match ρ[i]? with
 | some (some x) => some (.ok x S)
 | _ => none
noncomputable def eC (x : Xv) : TwE := fun _ S => some (.ok x S)
noncomputable def okP (o : Option (Xv × Sto)) : Option (Rs Xv) := o.map fun p => .ok p.1 p.2
theorem okP_some {o : Option (Xv × Sto)} {r : Rs Xv} (h : okP o = some r) : ∃ z S, o = some (z, S) ∧ r = .ok z S := by
 cases o with
 | none => cases h
 | some p => cases h; exact ⟨_, _, rfl, rfl⟩
noncomputable def eOp (f : Op2) (a b : TwE) : TwE := fun ρ S => rb (a ρ S) fun x S1 => rb (b ρ S1) fun y S2 => okP (f x y S2)
noncomputable def eUn (f : Xv → Sto → Option (Xv × Sto)) (a : TwE) : TwE := fun ρ S => rb (a ρ S) fun x S1 => okP (f x S1)
noncomputable def bE (m : TwE) : TwT := fun ρ S => rb (m ρ S) fun x S1 => match x with
 | .bl b => some (.ok b S1)
 | _ => none
noncomputable def eB (m : TwT) : TwE := fun ρ S => rb (m ρ S) fun b S1 => some (.ok (.bl b) S1)
noncomputable def bAnd (a b : TwT) : TwT := fun ρ S => rb (a ρ S) fun x S1 => if x then b ρ S1 else some (.ok false S1)
noncomputable def bOr (a b : TwT) : TwT := fun ρ S => rb (a ρ S) fun x S1 => if x then some (.ok true S1) else b ρ S1
noncomputable def bNot (a : TwT) : TwT := fun ρ S => rb (a ρ S) fun x S1 => some (.ok (!x) S1)
noncomputable def eAnd (a b : TwE) : TwE := fun ρ S => rb (bE a ρ S) fun x S1 => if x then b ρ S1 else some (.ok (.bl false) S1)
noncomputable def eIf (c : TwT) (a b : TwE) : TwE := fun ρ S => rb (c ρ S) fun x S1 => if x then a ρ S1 else b ρ S1
noncomputable def evL : List TwE → TwL
 | [] => fun _ S => some (.ok [] S)
 | m :: r => fun ρ S => rb (m ρ S) fun x S1 => rb (evL r ρ S1) fun xs S2 => some (.ok (x :: xs) S2)
noncomputable def eTup (ms : List TwE) : TwE := fun ρ S => rb (evL ms ρ S) fun xs S1 => some (.ok (.tup xs) S1)
noncomputable def eLst (ms : List TwE) : TwE := fun ρ S => rb (evL ms ρ S) fun xs S1 => some (.ok (.ref S1.length) (S1 ++ [.lst xs]))
noncomputable def eFn (f : Opn) (ms : List TwE) : TwE := fun ρ S => rb (evL ms ρ S) fun xs S1 => okP (f xs S1)
noncomputable def pur2 (f : Xv → Xv → Option Xv) : Op2 := fun x y S => (f x y).map fun z => (z, S)
noncomputable def pur1 (f : Xv → Option Xv) : Xv → Sto → Option (Xv × Sto) := fun x S => (f x).map fun z => (z, S)
theorem pur_some {o : Option Xv} {S S' : Sto} {z : Xv} (h : (o.map fun z => (z, S)) = some (z, S')) : o = some z ∧ S' = S := by
 cases o with
 | none => cases h
 | some p => cases h; exact ⟨rfl, rfl⟩
section
variable {K : PySem.W.Frag} {E : XK} {F : Fm} {j : List Addr} {H : Hp} {σ : St} {ρ : Rho} {S : Sto}
theorem Po.val {Q : VK} {x : Xv} {v : V} (k : Po K F j H σ ρ E (PoV K Q) (.ok x S)) (En0 : En K F j H σ ρ S) (h : Xis K j H x v) : Q v H := k j H Ext.refl En0 v h
theorem re_var (i : Nat) : RE K E (tVar i) (eVar i) := by
 intro F j σ H ρ S r Q En0 e k
 unfold eVar at e
 split at e
 ·rename_i x ex
  cases e
  obtain ⟨v, e1, e2⟩ := En0.slot i _ ex
  exact ⟨v, e1, k.val En0 e2⟩
 ·cases e
theorem re_c {v : V} {x : Xv} (h : ∀ j H, Xis K j H x v) : RE K E (tC v) (eC x) := fun En0 e k => by
 cases e
 exact k.val En0 (h _ _)
theorem re_int (i : Int) : RE K E (tC (.int i)) (eC (.int i)) := re_c fun _ _ => .int i
theorem re_str (x : Str) : RE K E (tC (.str x)) (eC (.str x)) := re_c fun _ _ => .str x
theorem re_bl (b : Bool) : RE K E (tC (.bl b)) (eC (.bl b)) := re_c fun _ _ => .bl b
theorem re_non : RE K E (tC .non) (eC .non) := re_c fun _ _ => .non
theorem re_op {r : R2} {f : Op2} {ta tb : TE} {a b : TwE} (ho : R2Ok K r f) (ha : RE K E ta a) (hb : RE K E tb b) : RE K E (tOp r ta tb) (eOp f a b) := by
 intro F j σ H ρ S r Q En0 e k
 rcases rb_some e with ⟨x, S1, e1, e⟩ | ⟨c, S1, e1, rfl⟩
 ·refine ha En0 e1 fun j1 H1 X1 E1 u hu => ?_
  rcases rb_some e with ⟨y, S2, e2, e⟩ | ⟨c, S2, e2, rfl⟩
  ·obtain ⟨z, S3, e3, rfl⟩ := okP_some e
   exact hb E1 e2 fun j2 H2 X2 E2 v hv => ho E2 (hu.mono X2) hv e3 fun w j3 H3 X3 E3 hw => k _ _ (X1.trans (X2.trans X3)) E3 _ hw
  ·exact hb E1 e2 (PX.mono k X1)
 ·exact ha En0 e1 k
theorem re_un {r : V → Hp → VK → Prop} {f : Xv → Sto → Option (Xv × Sto)} {ta : TE} {a : TwE} (ho : R1Ok K r f) (ha : RE K E ta a) : RE K E (tUn r ta) (eUn f a) := by
 intro F j σ H ρ S r Q En0 e k
 rcases rb_some e with ⟨x, S1, e1, e⟩ | ⟨c, S1, e1, rfl⟩
 ·obtain ⟨z, S3, e3, rfl⟩ := okP_some e
  exact ha En0 e1 fun j1 H1 X1 E1 u hu => ho E1 hu e3 fun w j3 H3 X3 E3 hw => k _ _ (X1.trans X3) E3 _ hw
 ·exact ha En0 e1 k
theorem rt_e {t : TE} {m : TwE} (h : RE K E t m) : RT K E (tB t) (bE m) := by
 intro F j σ H ρ S r Q En0 e k
 rcases rb_some e with ⟨x, S1, e1, e⟩ | ⟨c, S1, e1, rfl⟩
 ·split at e
  ·cases e
   exact h En0 e1 fun j1 H1 X1 E1 u hu => ⟨_, hu.bl_inv, k _ _ X1 E1⟩
  ·cases e
 ·exact h En0 e1 k
theorem rt_test {t : TE} {m : TwE} (h : RE K E t m) : RT K E (tTest t) (bE m) := rt_e h
theorem rt_and {t u : TT} {a b : TwT} (ha : RT K E t a) (hb : RT K E u b) : RT K E (tAnd t u) (bAnd a b) := by
 intro F j σ H ρ S r Q En0 e k
 rcases rb_some e with ⟨x, S1, e1, e⟩ | ⟨c, S1, e1, rfl⟩
 ·refine ha En0 e1 fun j1 H1 X1 E1 => ?_
  cases x with
  | true => exact hb E1 e (k.step X1)
  | false => cases e; exact k _ _ X1 E1
 ·exact ha En0 e1 k
theorem rt_or {t u : TT} {a b : TwT} (ha : RT K E t a) (hb : RT K E u b) : RT K E (tOr t u) (bOr a b) := by
 intro F j σ H ρ S r Q En0 e k
 rcases rb_some e with ⟨x, S1, e1, e⟩ | ⟨c, S1, e1, rfl⟩
 ·refine ha En0 e1 fun j1 H1 X1 E1 => ?_
  cases x with
  | true => cases e; exact k _ _ X1 E1
  | false => exact hb E1 e (k.step X1)
 ·exact ha En0 e1 k
theorem rt_not {t : TT} {a : TwT} (ha : RT K E t a) : RT K E (tNot t) (bNot a) := by
 intro F j σ H ρ S r Q En0 e k
 rcases rb_some e with ⟨x, S1, e1, e⟩ | ⟨c, S1, e1, rfl⟩
 ·cases e
  exact ha En0 e1 fun j1 H1 X1 E1 => k _ _ X1 E1
 ·exact ha En0 e1 k
theorem re_and {ta tb : TE} {a b : TwE} (ha : RE K E ta a) (hb : RE K E tb b) : RE K E (tAndV ta tb) (eAnd a b) := by
 intro F j σ H ρ S r Q En0 e k
 rcases rb_some e with ⟨x, S1, e1, e⟩ | ⟨c, S1, e1, rfl⟩
 ·rcases rb_some e1 with ⟨y, S2, e2, e1⟩ | ⟨c, S2, e2, z⟩
  ·split at e1
   ·cases e1
    refine ha En0 e2 fun j1 H1 X1 E1 u hu => ⟨_, hu.bl_inv, ?_⟩
    cases x with
    | true => exact hb E1 e (k.step X1)
    | false => cases e; exact k _ _ X1 E1 _ (.bl false)
   ·cases e1
  ·cases z
 ·rcases rb_some e1 with ⟨y, S2, e2, e1⟩ | ⟨c, S2, e2, z⟩
  ·split at e1 <;> cases e1
  ·cases z; exact ha En0 e2 k
theorem re_not {ta : TE} {a : TwE} (ha : RE K E ta a) : RE K E (tNotV ta) (eB (bNot (bE a))) := by
 intro F j σ H ρ S r Q En0 e k
 rcases rb_some e with ⟨x, S1, e1, e⟩ | ⟨c, S1, e1, rfl⟩
 ·rcases rb_some e1 with ⟨y, S2, e2, e1⟩ | ⟨c, S2, e2, z⟩
  ·rcases rb_some e2 with ⟨z, S3, e3, e2⟩ | ⟨c, S3, e3, z⟩
   ·split at e2
    ·cases e2; cases e1; cases e
     exact ha En0 e3 fun j1 H1 X1 E1 u hu => ⟨_, hu.bl_inv, k _ _ X1 E1 _ (.bl _)⟩
    ·cases e2
   ·cases z
  ·cases z
 ·rcases rb_some e1 with ⟨y, S2, e2, e1⟩ | ⟨c, S2, e2, z⟩
  ·cases e1
  ·cases z
   rcases rb_some e2 with ⟨z, S3, e3, e2⟩ | ⟨c, S3, e3, z⟩
   ·split at e2 <;> cases e2
   ·cases z; exact ha En0 e3 k
theorem re_if {t : TT} {c : TwT} {ta tb : TE} {a b : TwE} (hc : RT K E t c) (ha : RE K E ta a) (hb : RE K E tb b) : RE K E (tIf t ta tb) (eIf c a b) := by
 intro F j σ H ρ S r Q En0 e k
 rcases rb_some e with ⟨x, S1, e1, e⟩ | ⟨c, S1, e1, rfl⟩
 ·refine hc En0 e1 fun j1 H1 X1 E1 => ?_
  cases x with
  | true => exact ha E1 e (k.step X1)
  | false => exact hb E1 e (k.step X1)
 ·exact hc En0 e1 k
noncomputable def Xv.isNon : Xv → Bool
 | .non => true
 | _ => false
noncomputable def dIsN : Xv → Sto → Option (Xv × Sto) := pur1 fun x => some (.bl x.isNon)
theorem xis_non {x : Xv} {v : V} (h : Xis K j H x v) : decide (v = .non) = x.isNon := by cases h <;> simp [Xv.isNon]
theorem re_isN {ta : TE} {a : TwE} (ha : RE K E ta a) : RE K E (tIsN ta) (eUn dIsN a) := by
 intro F j σ H ρ S r Q En0 e k
 rcases rb_some e with ⟨x, S1, e1, e⟩ | ⟨c, S1, e1, rfl⟩
 ·cases e
  exact ha En0 e1 fun j1 H1 X1 E1 u hu => k _ _ X1 E1 _ (by rw [xis_non hu]; exact .bl _)
 ·exact ha En0 e1 k
theorem rl_nil : RL K E tNil (evL []) := fun En0 e k => by
 cases e
 exact k _ _ Ext.refl En0 [] .nil
theorem rl_cons {ta : TE} {tr : TA} {m : TwE} {ms : List TwE} (ha : RE K E ta m) (hr : RL K E tr (evL ms)) : RL K E (tCons ta tr) (evL (m :: ms)) := by
 intro F j σ H ρ S r Q En0 e k
 rcases rb_some e with ⟨x, S1, e1, e⟩ | ⟨c, S1, e1, rfl⟩
 ·refine ha En0 e1 fun j1 H1 X1 E1 u hu => ?_
  rcases rb_some e with ⟨xs, S2, e2, e⟩ | ⟨c, S2, e2, rfl⟩
  ·cases e
   exact hr E1 e2 fun j2 H2 X2 E2 vs hv => k _ _ (X1.trans X2) E2 (u :: vs) (.cons (hu.mono X2) hv)
  ·exact hr E1 e2 (PX.mono k X1)
 ·exact ha En0 e1 k
theorem evL_len : ∀ {ms : List TwE} {ρ : Rho} {S S' : Sto} {xs : List Xv}, evL ms ρ S = some (.ok xs S') → xs.length = ms.length
 | [], _, _, _, _, h => by cases h; rfl
 | m :: ms, ρ, S, S', xs, h => by
  rcases rb_some h with ⟨x, S1, e1, h⟩ | ⟨c, S1, e1, z⟩
  ·rcases rb_some h with ⟨ys, S2, e2, h⟩ | ⟨c, S2, e2, z⟩
   ·cases h
    simp [evL_len e2]
   ·cases z
  ·cases z
theorem re_tup {t : TA} {ms : List TwE} (h : RL K E t (evL ms)) (hl : ms.length ≤ 1000 := by simp) : RE K E (tTup t) (eTup ms) := by
 intro F j σ H ρ S r Q En0 e k
 rcases rb_some e with ⟨xs, S1, e1, e⟩ | ⟨c, S1, e1, rfl⟩
 ·cases e
  refine h En0 e1 fun j1 H1 X1 E1 vs hv => ⟨?_, fun p hp => ?_⟩
  ·rw [hv.len, evL_len e1]
   exact Nat.le_trans hl (by decide)
  ·obtain ⟨E2, X2⟩ := E1.new (o := .tup vs) hp
   exact k _ _ (X1.trans X2) E2 _ (.tup upd_same (hv.mono X2))
 ·exact h En0 e1 k
theorem En.lst {xs : List Xv} {vs : List V} {p : Addr} (En0 : En K F j H σ ρ S) (hv : XisL K j H xs vs) (hp : H p = none) : En K F (j ++ [p]) (upd H p (.lst vs)) σ ρ (S ++ [.lst xs]) ∧ Ext j H (j ++ [p]) (upd H p (.lst vs)) ∧ Xis K (j ++ [p]) (upd H p (.lst vs)) (.ref S.length) (.ref p) := by
 have X : Ext j H (j ++ [p]) (upd H p (.lst vs)) := ⟨fun n a e => by rw [List.getElem?_append_left (List.getElem?_eq_some_iff.1 e).1]; exact e, KeepI.same (same_upd hp)⟩
 obtain ⟨E1, _⟩ := En0.cell (o := .lst vs) (c := .lst xs) hp ⟨vs, upd_same, hv.mono X⟩
 exact ⟨E1, X, .ref (by rw [← En0.jl]; simp)⟩
theorem re_lst {t : TA} {ms : List TwE} (h : RL K E t (evL ms)) (hl : ms.length ≤ 1000 := by simp) : RE K E (tLst t) (eLst ms) := by
 intro F j σ H ρ S r Q En0 e k
 rcases rb_some e with ⟨xs, S1, e1, e⟩ | ⟨c, S1, e1, rfl⟩
 ·cases e
  refine h En0 e1 fun j1 H1 X1 E1 vs hv => ⟨?_, fun p hp => ?_⟩
  ·rw [hv.len, evL_len e1]
   exact Nat.le_trans hl (by decide)
  ·obtain ⟨E2, X2, h2⟩ := E1.lst hv hp
   exact k _ _ (X1.trans X2) E2 _ h2
 ·exact h En0 e1 k
theorem re_fn {t : TA} {ms : List TwE} {r : List V → Hp → VK → Prop} {f : Opn} (hr : RcOk K r f) (h : RL K E t (evL ms)) : RE K E (tCB r t) (eFn f ms) := by
 intro F j σ H ρ S r Q En0 e k
 rcases rb_some e with ⟨xs, S1, e1, e⟩ | ⟨c, S1, e1, rfl⟩
 ·obtain ⟨z, S3, e3, rfl⟩ := okP_some e
  exact h En0 e1 fun j1 H1 X1 E1 vs hv => hr E1 hv e3 fun w j3 H3 X3 E3 hw => k _ _ (X1.trans X3) E3 _ hw
 ·exact h En0 e1 k
end
end L2
namespace L2
open PySem
noncomputable def lstAt (S : Sto) : Xv → Option (List Xv)
 | .ref n => match S[n]? with
  | some (.lst xs) => some xs
  | some (.frz xs) => some xs
  | _ => none
 | _ => none
noncomputable def seqAt (S : Sto) (x : Xv) : Option (List Xv) := match x.tupOf with
 | some xs => some xs
 | none => lstAt S x
noncomputable def wlAt (S : Sto) : Xv → Option (Nat × List Xv)
 | .ref n => match S[n]? with
  | some (.lst xs) => some (n, xs)
  | _ => none
 | _ => none
section
variable {K : PySem.W.Frag} {E : XK} {F : Fm} {j : List Addr} {H : Hp} {σ : St} {ρ : Rho} {S : Sto} {x : Xv} {v : V}
theorem En.lstAt {xs : List Xv} (E0 : En K F j H σ ρ S) (hx : Xis K j H x v) (h : L2.lstAt S x = some xs) : ∃ a vs, v = .ref a ∧ SqX K H a vs ∧ XisL K j H xs vs := by
 cases x <;> simp only [L2.lstAt, reduceCtorEq] at h
 obtain ⟨a, rfl, hj⟩ := hx.ref_inv
 split at h
 ·cases h
  obtain ⟨vs, e1, e2⟩ := E0.cel _ _ _ (by assumption) hj
  exact ⟨a, vs, rfl, SqX.of e1, e2⟩
 ·cases h
  obtain ⟨vs, e1, e2⟩ := E0.cel _ _ _ (by assumption) hj
  refine ⟨a, vs, rfl, ?_, e2⟩
  rcases e1 with ⟨o, e1⟩ | e1
  ·exact .inl (.inr ⟨o, e1⟩)
  ·exact e1 H
 ·cases h
theorem En.seqAt {xs : List Xv} (E0 : En K F j H σ ρ S) (hx : Xis K j H x v) (h : L2.seqAt S x = some xs) : ∃ a vs, v = .ref a ∧ (SqX K H a vs ∨ SqT K H a vs) ∧ XisL K j H xs vs := by
 unfold L2.seqAt at h
 split at h
 ·cases h
  obtain ⟨a, vs, e1, e2, e3⟩ := hx.tupO (by assumption)
  exact ⟨a, vs, e1, .inr e2, e3⟩
 ·obtain ⟨a, vs, e1, e2, e3⟩ := E0.lstAt hx h
  exact ⟨a, vs, e1, .inl e2, e3⟩
theorem wlAt_some {n : Nat} {xs : List Xv} (h : wlAt S x = some (n, xs)) : x = .ref n ∧ S[n]? = some (.lst xs) := by
 cases x <;> simp only [wlAt, reduceCtorEq] at h
 split at h
 ·cases h; exact ⟨rfl, by assumption⟩
 ·cases h
theorem En.wl {n : Nat} {xs : List Xv} (E0 : En K F j H σ ρ S) (hx : Xis K j H x v) (h : wlAt S x = some (n, xs)) : ∃ a vs, v = .ref a ∧ j[n]? = some a ∧ H a = some (.lst vs) ∧ XisL K j H xs vs := by
 obtain ⟨rfl, hs⟩ := wlAt_some h
 obtain ⟨a, rfl, hj⟩ := hx.ref_inv
 obtain ⟨vs, e1, e2⟩ := E0.cel _ _ _ hs hj
 exact ⟨a, vs, rfl, hj, e1, e2⟩
theorem En.wr {n : Nat} {xs ys : List Xv} {ws : List V} {a : Addr} (E0 : En K F j H σ ρ S) (h : wlAt S x = some (n, xs)) (hj : j[n]? = some a) (hw : XisL K j H ys ws) : En K F j (upd H a (.lst ws)) σ ρ (S.set n (.lst ys)) ∧ Ext j H j (upd H a (.lst ws)) :=
 E0.write (wlAt_some h).2 rfl hj rfl fun X => ⟨ws, upd_same, hw.mono X⟩
theorem tyL {a : Addr} {vs : List V} (h : SqL K H a vs) : tyV K "list" (.ref a) H := .inl ⟨rfl, vs, h⟩
noncomputable def dIxT : Op2 := fun x y S => match x.tupOf, y with
 | some xs, .int i => (atI xs i).map fun z => (z, S)
 | _, _ => none
noncomputable def dIxL : Op2 := fun x y S => match lstAt S x, y with
 | some xs, .int i => (atI xs i).map fun z => (z, S)
 | _, _ => none
noncomputable def dIxS : Op2 := pur2 fun x y => match x, y with
 | .str z, .int i => if z.length ≤ sizeLine then (atI z.cps.toList i).map fun c => .str ⟨#[c]⟩ else none
 | _, _ => none
theorem r2_ixT : R2Ok K (rIxT K) dIxT := by
 intro F j σ H ρ S S' x y z u v Q E0 hx hy h k
 unfold dIxT at h
 split at h
 ·rename_i xs i ex
  cases e : atI xs i with
  | none => rw [e] at h; cases h
  | some z' =>
   rw [e] at h
   cases h
   obtain ⟨a, vs, rfl, h1, h2⟩ := hx.tupO ex
   obtain ⟨w, e1, e2⟩ := h2.at_ e
   exact ⟨a, vs, _, w, rfl, hy.int_inv, h1, e1, k _ _ _ Ext.refl E0 e2⟩
 ·cases h
theorem r2_ixL : R2Ok K (rIxL K) dIxL := by
 intro F j σ H ρ S S' x y z u v Q E0 hx hy h k
 unfold dIxL at h
 split at h
 ·rename_i xs i ex
  cases e : atI xs i with
  | none => rw [e] at h; cases h
  | some z' =>
   rw [e] at h
   cases h
   obtain ⟨a, vs, rfl, h1, h2⟩ := E0.lstAt hx ex
   obtain ⟨w, e1, e2⟩ := h2.at_ e
   exact ⟨a, vs, _, w, rfl, hy.int_inv, h1.sql, e1, k _ _ _ Ext.refl E0 e2⟩
 ·cases h
theorem r2_ixS : R2Ok K rIxS dIxS := by
 intro F j σ H ρ S S' x y z u v Q E0 hx hy h k
 obtain ⟨h', rfl⟩ := pur_some h
 dsimp only at h'
 split at h'
 ·split at h'
  ·rename_i zz i hz
   cases e : atI zz.cps.toList i with
   | none => rw [e] at h'; cases h'
   | some c =>
    rw [e] at h'
    cases h'
    exact ⟨zz, i, c, hx.str_inv, hy.int_inv, hz, e, k _ _ _ Ext.refl E0 (.str _)⟩
  ·cases h'
 ·cases h'
noncomputable def dIxA : Op2 := fun x y S => match seqAt S x, y with
 | some xs, .int i => (atI xs i).map fun z => (z, S)
 | _, _ => none
theorem r2_ixA : R2Ok K (rIx K) dIxA := by
 intro F j σ H ρ S S' x y z u v Q E0 hx hy h k
 unfold dIxA at h
 split at h
 ·rename_i xs i ex
  cases e : atI xs i with
  | none => rw [e] at h; cases h
  | some z' =>
   rw [e] at h
   cases h
   obtain ⟨a, vs, rfl, h1, h2⟩ := E0.seqAt hx ex
   obtain ⟨w, e1, e2⟩ := h2.at_ e
   rcases h1 with h1 | h1
   ·exact .inl ⟨a, vs, _, w, rfl, hy.int_inv, h1.sql, e1, k _ _ _ Ext.refl E0 e2⟩
   ·exact .inr (.inl ⟨a, vs, _, w, rfl, hy.int_inv, h1, e1, k _ _ _ Ext.refl E0 e2⟩)
 ·cases h
noncomputable def oNo : TwO := fun _ S => some (.ok none S)
noncomputable def oSome (m : TwE) : TwO := fun ρ S => rb (m ρ S) fun x S1 => match x with
 | .int i => some (.ok (some i) S1)
 | _ => none
theorem ro_no : RO K E tNoPart oNo := fun E0 e k => by
 cases e
 exact k _ _ Ext.refl E0
theorem ro_some {t : TE} {m : TwE} (h : RE K E t m) : RO K E (tPart t) (oSome m) := by
 intro F j σ H ρ S r Q En0 e k
 rcases rb_some e with ⟨x, S1, e1, e⟩ | ⟨c, S1, e1, rfl⟩
 ·split at e
  ·cases e
   exact h En0 e1 fun j1 H1 X1 E1 u hu => ⟨_, hu.int_inv, k _ _ X1 E1⟩
  ·cases e
 ·exact h En0 e1 k
noncomputable def cutD {α : Type} (xs : List α) (lo hi : Option Int) : List α := (xs.drop (HT.sIx xs.length 0 lo)).take (HT.sIx xs.length xs.length hi - HT.sIx xs.length 0 lo)
theorem XisL.cut {xs : List Xv} {vs : List V} (h : XisL K j H xs vs) (lo hi : Option Int) : XisL K j H (cutD xs lo hi) (cutV vs lo hi) := by
 unfold cutV cutD
 rw [h.len]
 exact (h.drop _).take _
noncomputable def eSl (f : Xv → Option Int → Option Int → Sto → Option (Xv × Sto)) (m : TwE) (lo hi : TwO) : TwE := fun ρ S => rb (m ρ S) fun x S1 => rb (lo ρ S1) fun y S2 => rb (hi ρ S2) fun z S3 => okP (f x y z S3)
noncomputable def RslOk (K : PySem.W.Frag) (r : V → Option Int → Option Int → Hp → VK → Prop) (f : Xv → Option Int → Option Int → Sto → Option (Xv × Sto)) : Prop := ∀ {F : Fm} {j : List Addr} {σ : St} {H : Hp} {ρ : Rho} {S S' : Sto} {x z : Xv} {lo hi : Option Int} {u : V} {Q : VK}, En K F j H σ ρ S → Xis K j H x u → f x lo hi S = some (z, S') → (∀ w j' H', Ext j H j' H' → En K F j' H' σ ρ S' → Xis K j' H' z w → Q w H') → r u lo hi H Q
theorem re_sl {r : V → Option Int → Option Int → Hp → VK → Prop} {f : Xv → Option Int → Option Int → Sto → Option (Xv × Sto)} {te : TE} {tl th : TO} {m : TwE} {lo hi : TwO} (ho : RslOk K r f) (hm : RE K E te m) (hl : RO K E tl lo) (hh : RO K E th hi) : RE K E (tSl r te tl th) (eSl f m lo hi) := by
 intro F j σ H ρ S r Q En0 e k
 rcases rb_some e with ⟨x, S1, e1, e⟩ | ⟨c, S1, e1, rfl⟩
 ·refine hm En0 e1 fun j1 H1 X1 E1 u hu => ?_
  rcases rb_some e with ⟨y, S2, e2, e⟩ | ⟨c, S2, e2, rfl⟩
  ·refine hl E1 e2 fun j2 H2 X2 E2 => ?_
   rcases rb_some e with ⟨z, S3, e3, e⟩ | ⟨c, S3, e3, rfl⟩
   ·obtain ⟨w, S4, e4, rfl⟩ := okP_some e
    exact hh E2 e3 fun j3 H3 X3 E3 => ho E3 (hu.mono (X2.trans X3)) e4 fun w j4 H4 X4 E4 hw => k _ _ (X1.trans (X2.trans (X3.trans X4))) E4 _ hw
   ·exact hh E2 e3 (PX.mono k (X1.trans X2))
  ·exact hl E1 e2 (PX.mono k X1)
 ·exact hm En0 e1 k
noncomputable def dSlL : Xv → Option Int → Option Int → Sto → Option (Xv × Sto) := fun x lo hi S => (lstAt S x).map fun xs => (.ref S.length, S ++ [.lst (cutD xs lo hi)])
theorem rsl_L : RslOk K (rSlL K) dSlL := by
 intro F j σ H ρ S S' x z lo hi u Q E0 hx h k
 unfold dSlL at h
 cases e : lstAt S x with
 | none => rw [e] at h; cases h
 | some xs =>
  rw [e] at h
  cases h
  obtain ⟨a, vs, rfl, h1, h2⟩ := E0.lstAt hx e
  refine ⟨a, vs, rfl, h1.sql, fun p hp => ?_⟩
  obtain ⟨E1, X1, h3⟩ := E0.lst (h2.cut lo hi) hp
  exact k _ _ _ X1 E1 h3
noncomputable def dSlS : Xv → Option Int → Option Int → Sto → Option (Xv × Sto) := fun x lo hi S => match x with
 | .str z => if z.length ≤ sizeLine then some (.str (Txt.slice z lo hi), S) else none
 | _ => none
theorem rsl_S : RslOk K rSlS dSlS := by
 intro F j σ H ρ S S' x z lo hi u Q E0 hx h k
 unfold dSlS at h
 split at h
 ·split at h
  ·cases h
   exact ⟨_, hx.str_inv, by assumption, k _ _ _ Ext.refl E0 (.str _)⟩
  ·cases h
 ·cases h
theorem re_slL {te : TE} {tl th : TO} {m : TwE} {lo hi : TwO} (hm : RE K E te m) (hl : RO K E tl lo) (hh : RO K E th hi) : RE K E (tSl (rSlL K) te tl th) (eSl dSlL m lo hi) := @re_sl K E (rSlL K) dSlL te tl th m lo hi (@rsl_L K) hm hl hh
theorem re_slS {te : TE} {tl th : TO} {m : TwE} {lo hi : TwO} (hm : RE K E te m) (hl : RO K E tl lo) (hh : RO K E th hi) : RE K E (tSl rSlS te tl th) (eSl dSlS m lo hi) := @re_sl K E rSlS dSlS te tl th m lo hi (@rsl_S K) hm hl hh
noncomputable abbrev OpM := Xv → List Xv → Sto → Option (Xv × Sto)
noncomputable def RmOk (K : PySem.W.Frag) (r : V → List V → Hp → VK → Prop) (f : OpM) : Prop := ∀ {F : Fm} {j : List Addr} {σ : St} {H : Hp} {ρ : Rho} {S S' : Sto} {x z : Xv} {ys : List Xv} {u : V} {vs : List V} {Q : VK}, En K F j H σ ρ S → Xis K j H x u → XisL K j H ys vs → f x ys S = some (z, S') → (∀ w j' H', Ext j H j' H' → En K F j' H' σ ρ S' → Xis K j' H' z w → Q w H') → r u vs H Q
noncomputable def eMt (f : OpM) (o : TwE) (ms : List TwE) : TwE := fun ρ S => rb (o ρ S) fun x S1 => (lstAt S1 x).bind fun _ => rb (evL ms ρ S1) fun ys S2 => okP (f x ys S2)
theorem re_mt {r : V → List V → Hp → VK → Prop} {f : OpM} {to : TE} {t : TA} {o : TwE} {ms : List TwE} (hr : RmOk K r f) (ho : RE K E to o) (ht : RL K E t (evL ms)) : RE K E (tBM K "list" r to t) (eMt f o ms) := by
 intro F j σ H ρ S r Q En0 e k
 rcases rb_some e with ⟨x, S1, e1, e⟩ | ⟨c, S1, e1, rfl⟩
 ·refine ho En0 e1 fun j1 H1 X1 E1 u hu => ?_
  cases el : L2.lstAt S1 x with
  | none => rw [el] at e; cases e
  | some l =>
   rw [el] at e
   obtain ⟨a, vs, rfl, h1, _⟩ := E1.lstAt hu el
   refine ⟨tyL h1.sql, ?_⟩
   rcases rb_some e with ⟨ys, S2, e2, e⟩ | ⟨c, S2, e2, rfl⟩
   ·obtain ⟨z, S3, e3, rfl⟩ := okP_some e
    exact ht E1 e2 fun j2 H2 X2 E2 ws hw => hr E2 (hu.mono X2) hw e3 fun w j3 H3 X3 E3 hz => k _ _ (X1.trans (X2.trans X3)) E3 _ hz
   ·exact ht E1 e2 (PX.mono k X1)
 ·exact ho En0 e1 k
theorem re_mt0 {r : V → List V → Hp → VK → Prop} {f : OpM} {to : TE} {o : TwE} (hr : RmOk K r f) (ho : RE K E to o) : RE K E (tBM0 K "list" r to) (eMt f o []) := by
 intro F j σ H ρ S r Q En0 e k
 exact re_mt hr ho rl_nil En0 e k
noncomputable def mAppend : OpM := fun x ys S => match wlAt S x, ys with
 | some (n, xs), [y] => if xs.length < sizeLine then some (.non, S.set n (.lst (xs ++ [y]))) else none
 | _, _ => none
theorem rm_append : RmOk K rAppend mAppend := by
 intro F j σ H ρ S S' x z ys u vs Q E0 hx hy h k
 unfold mAppend at h
 split at h
 ·rename_i n xs y e
  split at h
  ·rename_i hl
   cases h
   obtain ⟨a, ws, rfl, hj, h1, h2⟩ := E0.wl hx e
   obtain ⟨w, rfl, hw⟩ := hy.d1
   obtain ⟨E1, X1⟩ := E0.wr e hj (h2.append (.one hw))
   exact ⟨a, ws, w, rfl, rfl, h1, by rw [h2.len]; exact hl, k _ _ _ X1 E1 .non⟩
  ·cases h
 ·cases h
noncomputable def mPop : OpM := fun x ys S => match wlAt S x, ys with
 | some (n, xs), [] => (xs[xs.length - 1]?).map fun y => (y, S.set n (.lst xs.dropLast))
 | _, _ => none
theorem rm_pop : RmOk K rPop mPop := by
 intro F j σ H ρ S S' x z ys u vs Q E0 hx hy h k
 unfold mPop at h
 split at h
 ·rename_i n xs e
  cases e1 : xs[xs.length - 1]? with
  | none => rw [e1] at h; cases h
  | some y =>
   rw [e1] at h
   cases h
   obtain ⟨a, ws, rfl, hj, h1, h2⟩ := E0.wl hx e
   obtain rfl := hy.nil_inv
   obtain ⟨w, f1, f2⟩ := h2.get e1
   obtain ⟨E1, X1⟩ := E0.wr e hj h2.dropLast
   exact ⟨a, ws, w, rfl, rfl, h1, by rw [h2.len]; exact f1, k _ _ _ X1 E1 (f2.mono X1)⟩
 ·cases h
noncomputable def sSeq (a b : TwS) : TwS := fun ρ S => match a ρ S with
 | some (.nx ρ1 S1) => b ρ1 S1
 | r => r
noncomputable def sNext : TwS := fun ρ S => some (.nx ρ S)
noncomputable def sAsg (m : TwE) (g : TwG) : TwS := fun ρ S => sb (m ρ S) fun x S1 => sb (g x ρ S1) fun ρ1 S2 => some (.nx ρ1 S2)
noncomputable def sExpr (m : TwE) : TwS := fun ρ S => sb (m ρ S) fun _ S1 => some (.nx ρ S1)
noncomputable def sRet (m : TwE) : TwS := fun ρ S => sb (m ρ S) fun x S1 => some (.rt x S1)
noncomputable def sIf (c : TwT) (a b : TwS) : TwS := fun ρ S => sb (c ρ S) fun x S1 => if x then a ρ S1 else b ρ S1
noncomputable def turn (r : Option Fl) (go : Rho → Sto → Option Fl) : Option Fl := match r with
 | some (.nx ρ S) => go ρ S
 | some (.ct ρ S) => go ρ S
 | some (.bk ρ S) => some (.nx ρ S)
 | r => r
noncomputable def forTw (get : Sto → Option (List Xv)) (g : TwG) (b : TwS) : Nat → Nat → Rho → Sto → Option Fl
 | 0, _, _, _ => none
 | f + 1, i, ρ, S => (get S).bind fun xs => match xs[i]? with
  | none => if i = xs.length then some (.nx ρ S) else none
  | some x => sb (g x ρ S) fun ρ1 S1 => turn (b ρ1 S1) fun ρ2 S2 => forTw get g b f (i + 1) ρ2 S2
noncomputable def sFor (m : TwI) (g : TwG) (b : TwS) : TwS := fun ρ S => sb (m ρ S) fun get S1 => (get S1).bind fun xs => forTw get g b (xs.length + 1) 0 ρ S1
noncomputable def whTw (c : TwT) (b : TwS) : Nat → Rho → Sto → Option Fl
 | 0, _, _ => none
 | n + 1, ρ, S => sb (c ρ S) fun x S1 => if x then turn (b ρ S1) fun ρ2 S2 => whTw c b n ρ2 S2 else some (.nx ρ S1)
noncomputable def sWh (n : Nat) (c : TwT) (b : TwS) : TwS := fun ρ S => whTw c b n ρ S
noncomputable def gN (i : Nat) : TwG := fun x ρ S => some (.ok (ρ.set i (some x)) S)
noncomputable def gsNil : TwGs := fun xs ρ S => match xs with
 | [] => some (.ok ρ S)
 | _ => none
noncomputable def gsCons (g : TwG) (gs : TwGs) : TwGs := fun xs ρ S => match xs with
 | x :: r => rb (g x ρ S) fun ρ1 S1 => gs r ρ1 S1
 | _ => none
noncomputable def gT (n : Nat) (gs : TwGs) : TwG := fun x ρ S => x.tupOf.bind fun l => if l.length = n then gs l ρ S else none
noncomputable def gStore (o mi : TwE) : TwG := fun d ρ S => rb (o ρ S) fun x S1 => rb (mi ρ S1) fun y S2 => match wlAt S2 x, y with
 | some (n, xs), .int i => (ixN xs.length i).map fun k => .ok ρ (S2.set n (.lst (xs.set k d)))
 | _, _ => none
theorem rg_name {i : Nat} : RG K E (gName i) (gN i) := fun E0 hx e k => by
 cases e
 exact k _ _ _ Ext.refl (E0.set hx)
theorem rgs_nil : RGs K E gNil gsNil := by
 intro F j σ H ρ S r xs vs R E0 hv e k
 unfold gsNil at e
 split at e
 ·cases e
  obtain rfl := hv.nil_inv
  exact ⟨rfl, k _ _ _ Ext.refl E0⟩
 ·cases e
theorem rgs_cons {t : TG} {u : TGs} {g : TwG} {gs : TwGs} (h1 : RG K E t g) (h2 : RGs K E u gs) : RGs K E (gCons t u) (gsCons g gs) := by
 intro F j σ H ρ S r xs vs R E0 hv e k
 unfold gsCons at e
 split at e
 ·obtain ⟨w, ws, rfl, hw, hws⟩ := hv.cons_inv
  rcases rb_some e with ⟨ρ1, S1, e1, e⟩ | ⟨c, S1, e1, rfl⟩
  ·exact ⟨w, ws, rfl, h1 E0 hw e1 fun σ1 j1 H1 X1 E1 => h2 E1 (hws.mono X1) e (k.step X1)⟩
  ·exact ⟨w, ws, rfl, h1 E0 hw e1 k⟩
 ·cases e
theorem rg_tup {n : Nat} {t : TGs} {gs : TwGs} (h : RGs K E t gs) : RG K E (gTup K n t) (gT n gs) := by
 intro F j σ H ρ S r x v R E0 hx e k
 unfold gT at e
 cases ex : x.tupOf with
 | none => rw [ex] at e; cases e
 | some l =>
  rw [ex] at e
  dsimp only [Option.bind] at e
  split at e
  ·rename_i hn
   obtain ⟨a, vs, rfl, h1, h2⟩ := hx.tupO ex
   exact ⟨a, vs, rfl, h1, by rw [h2.len]; exact hn, h E0 h2 e k⟩
  ·cases e
theorem rg_store {to ti : TE} {o mi : TwE} (ho : RE K E to o) (hi : RE K E ti mi) : RG K E (gSub to ti rSetL) (gStore o mi) := by
 intro F j σ H ρ S r d vd R E0 hd e k
 rcases rb_some e with ⟨x, S1, e1, e⟩ | ⟨c, S1, e1, rfl⟩
 ·refine ho E0 e1 fun j1 H1 X1 E1 u hu => ?_
  rcases rb_some e with ⟨y, S2, e2, e⟩ | ⟨c, S2, e2, rfl⟩
  ·refine hi E1 e2 fun j2 H2 X2 E2 w hw => ?_
   split at e
   ·rename_i n xs i ex
    cases e3 : ixN xs.length i with
    | none => rw [e3] at e; cases e
    | some m =>
     rw [e3] at e
     cases e
     obtain ⟨a, vs, rfl, hj, h1, h2⟩ := E2.wl (hu.mono X2) ex
     obtain ⟨E3, X3⟩ := E2.wr ex hj (h2.set (hd.mono (X1.trans X2)) m)
     exact ⟨a, vs, i, m, rfl, hw.int_inv, h1, by rw [h2.len]; exact e3, k _ _ _ (X1.trans (X2.trans X3)) E3⟩
   ·cases e
  ·exact hi E1 e2 (PX.mono k X1)
 ·exact ho E0 e1 k
theorem rs_next : RS K E tNext sNext := fun E0 e k => by
 cases e
 exact k _ _ _ Ext.refl E0
theorem rs_seq {t u : TS} {a b : TwS} (ha : RS K E t a) (hb : RS K E u b) : RS K E (tSeq t u) (sSeq a b) := by
 intro F j D' σ H ρ S fl E0 e k
 unfold sSeq at e
 split at e
 ·rename_i ρ1 S1 e1
  exact ha (D' := { D' with nx := u D' }) E0 e1 fun σ1 j1 H1 X1 E1 => hb E1 e (k.step X1)
 ·rename_i hn
  refine ha (D' := { D' with nx := u D' }) E0 e ?_
  cases fl with
  | nx ρ1 S1 => exact absurd e (hn ρ1 S1)
  | bk ρ1 S1 => exact k
  | ct ρ1 S1 => exact k
  | rt x S1 => exact k
  | ex c S1 => exact k
theorem rs_asg {te : TE} {g : TG} {m : TwE} {g' : TwG} (h : RE K E te m) (hg : RG K E g g') : RS K E (tAsg te g) (sAsg m g') := by
 intro F j D' σ H ρ S fl E0 e k
 rcases sb_some e with ⟨x, S1, e1, e⟩ | ⟨c, S1, e1, rfl⟩
 ·refine h E0 e1 fun j1 H1 X1 E1 u hu => ?_
  rcases sb_some e with ⟨ρ1, S2, e2, e⟩ | ⟨c, S2, e2, rfl⟩
  ·cases e
   exact hg E1 hu e2 fun σ2 j2 H2 X2 E2 => k _ _ _ (X1.trans X2) E2
  ·exact hg E1 hu e2 (PX.mono k X1)
 ·exact h E0 e1 k
theorem rs_expr {te : TE} {m : TwE} (h : RE K E te m) : RS K E (tDrop te) (sExpr m) := by
 intro F j D' σ H ρ S fl E0 e k
 rcases sb_some e with ⟨x, S1, e1, e⟩ | ⟨c, S1, e1, rfl⟩
 ·cases e
  exact h E0 e1 fun j1 H1 X1 E1 u hu => k _ _ _ X1 E1
 ·exact h E0 e1 k
theorem rs_ret {te : TE} {m : TwE} (h : RE K E te m) : RS K E (tRet te) (sRet m) := by
 intro F j D' σ H ρ S fl E0 e k
 rcases sb_some e with ⟨x, S1, e1, e⟩ | ⟨c, S1, e1, rfl⟩
 ·cases e
  exact h E0 e1 fun j1 H1 X1 E1 u hu => k _ _ _ _ _ X1 E1 hu
 ·exact h E0 e1 k
theorem rs_if {c : TT} {t u : TS} {m : TwT} {a b : TwS} (hc : RT K E c m) (ha : RS K E t a) (hb : RS K E u b) : RS K E (tIfS c t u) (sIf m a b) := by
 intro F j D' σ H ρ S fl E0 e k
 rcases sb_some e with ⟨x, S1, e1, e⟩ | ⟨c, S1, e1, rfl⟩
 ·refine hc E0 e1 fun j1 H1 X1 E1 => ?_
  cases x with
  | true => exact ha E1 e (k.step X1)
  | false => exact hb E1 e (k.step X1)
 ·exact hc E0 e1 k
theorem turn_some {r : Option Fl} {go : Rho → Sto → Option Fl} {fl : Fl} (h : turn r go = some fl) : ∃ f, r = some f ∧ ((∃ ρ S, (f = .nx ρ S ∨ f = .ct ρ S) ∧ go ρ S = some fl) ∨ (∃ ρ S, f = .bk ρ S ∧ fl = .nx ρ S) ∨ (f = fl ∧ ((∃ x S, fl = .rt x S) ∨ ∃ c S, fl = .ex c S))) := by
 unfold turn at h
 split at h
 ·exact ⟨_, rfl, .inl ⟨_, _, .inl rfl, h⟩⟩
 ·exact ⟨_, rfl, .inl ⟨_, _, .inr rfl, h⟩⟩
 ·cases h; exact ⟨_, rfl, .inr (.inl ⟨_, _, rfl, rfl⟩)⟩
 ·rename_i n1 n2 n3
  refine ⟨fl, h, .inr (.inr ⟨rfl, ?_⟩)⟩
  cases fl with
  | nx ρ S => exact absurd h (n1 ρ S)
  | ct ρ S => exact absurd h (n2 ρ S)
  | bk ρ S => exact absurd h (n3 ρ S)
  | rt x S => exact .inl ⟨x, S, rfl⟩
  | ex c S => exact .inr ⟨c, S, rfl⟩
theorem rs_for {wi : TI} {g : TG} {tb : TS} {m : TwI} {g' : TwG} {b : TwS} (hi : RI K E wi m) (hg : RG K E g g') (hb : RS K E tb b) : RS K E (tFor wi g tb) (sFor m g' b) := by
 intro F j D' σ H ρ S fl E0 e k
 rcases sb_some e with ⟨get, S1, e1, e⟩ | ⟨c, S1, e1, rfl⟩
 ·refine hi E0 e1 fun j1 H1 X1 E1 J ok => ?_
  cases eg : get S1 with
  | none => rw [eg] at e; cases e
  | some xs =>
   rw [eg] at e
   refine ⟨fun i n σ H => ∃ j2 ρ2 S2, Ext j1 H1 j2 H ∧ En K F j2 H σ ρ2 S2 ∧ forTw get g' b n i ρ2 S2 = some fl, ⟨xs.length + 1, j1, ρ, S1, Ext.refl, E1, e⟩, ?_⟩
   rintro i n σ2 H2 ⟨j2, ρ2, S2, X2, E2, e2⟩
   cases n with
   | zero => cases e2
   | succ n =>
    unfold forTw at e2
    cases eg2 : get S2 with
    | none => rw [eg2] at e2; cases e2
    | some ys =>
     rw [eg2] at e2
     dsimp only [Option.bind] at e2
     obtain ⟨go, stop⟩ := ok i X2 E2 eg2
     split at e2
     ·split at e2
      ·rename_i hl
       cases e2
       exact .inl ⟨stop hl, k _ _ _ (X1.trans X2) E2⟩
      ·cases e2
     ·rename_i x ex
      obtain ⟨g1, g2⟩ := go x ex
      refine .inr ⟨g1, fun σ' H' => ∃ j3 ρ3 S3, Ext j1 H1 j3 H' ∧ En K F j3 H' σ' ρ3 S3 ∧ forTw get g' b n (i + 1) ρ3 S3 = some fl, fun _ _ z => ⟨n, Nat.lt_succ_self _, z⟩, fun v H3 hy => ?_⟩
      obtain ⟨Sm, hv⟩ := g2 v H3 hy
      have E3 := E2.heap Sm
      have X3 : Ext j2 H2 j2 H3 := Ext.same Sm
      rcases sb_some e2 with ⟨ρ4, S4, e4, e2⟩ | ⟨c, S4, e4, rfl⟩
      ·refine hg E3 hv e4 fun σ4 j4 H4 X4 E4 => ?_
       obtain ⟨f5, e5, h5⟩ := turn_some e2
       refine hb E4 e5 ?_
       have X14 := X2.trans (X3.trans X4)
       rcases h5 with ⟨ρ6, S6, h6, e6⟩ | ⟨ρ6, S6, rfl, rfl⟩ | ⟨rfl, h6⟩
       ·rcases h6 with rfl | rfl
        ·exact fun σ5 j5 H5 X5 E5 => ⟨j5, ρ6, S6, X14.trans X5, E5, e6⟩
        ·exact fun σ5 j5 H5 X5 E5 => ⟨j5, ρ6, S6, X14.trans X5, E5, e6⟩
       ·exact fun σ5 j5 H5 X5 E5 => k _ _ _ (X1.trans (X14.trans X5)) E5
       ·rcases h6 with ⟨x6, S6, rfl⟩ | ⟨c6, S6, rfl⟩
        ·exact fun v σ5 ρ5 j5 H5 X5 E5 hv => k v σ5 ρ5 _ _ (X1.trans (X14.trans X5)) E5 hv
        ·exact PX.mono k (X1.trans X14)
      ·exact hg E3 hv e4 (PX.mono k (X1.trans (X2.trans X3)))
 ·exact hi E0 e1 k
theorem rs_while {c : TT} {tb : TS} {m : TwT} {b : TwS} {n : Nat} (hc : RT K E c m) (hb : RS K E tb b) : RS K E (tWhile c tb) (sWh n m b) := by
 intro F j D' σ H ρ S fl E0 e k
 refine ⟨fun n σ2 H2 => ∃ j2 ρ2 S2, Ext j H j2 H2 ∧ En K F j2 H2 σ2 ρ2 S2 ∧ whTw m b n ρ2 S2 = some fl, ⟨n, j, ρ, S, Ext.refl, E0, e⟩, ?_⟩
 rintro n σ2 H2 ⟨j2, ρ2, S2, X2, E2, e2⟩
 cases n with
 | zero => cases e2
 | succ n =>
  unfold whTw at e2
  rcases sb_some e2 with ⟨x, S3, e3, e2⟩ | ⟨c, S3, e3, rfl⟩
  ·refine hc E2 e3 fun j3 H3 X3 E3 => ?_
   have X13 := X2.trans X3
   cases x with
   | false => cases e2; exact k _ _ _ X13 E3
   | true =>
    obtain ⟨f5, e5, h5⟩ := turn_some e2
    refine ⟨fun σ' H' => ∃ j3 ρ3 S3, Ext j H j3 H' ∧ En K F j3 H' σ' ρ3 S3 ∧ whTw m b n ρ3 S3 = some fl, fun σ' H' z => ⟨n, Nat.lt_succ_self _, z⟩, hb E3 e5 ?_⟩
    rcases h5 with ⟨ρ6, S6, h6, e6⟩ | ⟨ρ6, S6, rfl, rfl⟩ | ⟨rfl, h6⟩
    ·rcases h6 with rfl | rfl
     ·exact fun σ5 j5 H5 X5 E5 => ⟨j5, ρ6, S6, X13.trans X5, E5, e6⟩
     ·exact fun σ5 j5 H5 X5 E5 => ⟨j5, ρ6, S6, X13.trans X5, E5, e6⟩
    ·exact fun σ5 j5 H5 X5 E5 => k _ _ _ (X13.trans X5) E5
    ·rcases h6 with ⟨x6, S6, rfl⟩ | ⟨c6, S6, rfl⟩
     ·exact fun v σ5 ρ5 j5 H5 X5 E5 hv => k v σ5 ρ5 _ _ (X13.trans X5) E5 hv
     ·exact PX.mono k X13
  ·exact hc E2 e3 (PX.mono k X2)
noncomputable def iL (m : TwE) : TwI := fun ρ S => rb (m ρ S) fun x S1 => (lstAt S1 x).map fun _ => .ok (fun S => lstAt S x) S1
noncomputable def iT (m : TwE) : TwI := fun ρ S => rb (m ρ S) fun x S1 => x.tupOf.map fun l => .ok (fun _ => some l) S1
theorem ri_list {t : TE} {m : TwE} (h : RE K E t m) : RI K E (iList K t) (iL m) := by
 intro F j σ H ρ S r R En0 e k
 rcases rb_some e with ⟨x, S1, e1, e⟩ | ⟨c, S1, e1, rfl⟩
 ·cases el : lstAt S1 x with
  | none => rw [el] at e; cases e
  | some l =>
   rw [el] at e
   cases e
   refine h En0 e1 fun j1 H1 X1 E1 u hu => ?_
   obtain ⟨a, vs, rfl, h1, _⟩ := E1.lstAt hu el
   refine ⟨a, rfl, ⟨vs, h1.sql⟩, k _ _ X1 E1 _ ?_⟩
   intro F2 j2 H2 σ2 ρ2 S2 xs i X2 E2 e2
   obtain ⟨a', ws, ea, g1, g2⟩ := E2.lstAt (hu.mono X2) e2
   cases ea
   refine ⟨fun y ey => ?_, fun hle => ⟨ws, g1.sql, by rw [g2.len]; omega⟩⟩
   obtain ⟨w, f1, f2⟩ := g2.get ey
   refine ⟨⟨ws, w, g1.sql, f1⟩, ?_⟩
   rintro v' H' ⟨rfl, hx⟩
   have := hx ws g1.sql
   rw [f1] at this
   cases this
   exact ⟨Same.refl _, f2⟩
 ·exact h En0 e1 k
theorem ri_tup {t : TE} {m : TwE} (h : RE K E t m) : RI K E (iTup K t) (iT m) := by
 intro F j σ H ρ S r R En0 e k
 rcases rb_some e with ⟨x, S1, e1, e⟩ | ⟨c, S1, e1, rfl⟩
 ·cases el : x.tupOf with
  | none => rw [el] at e; cases e
  | some l =>
   rw [el] at e
   cases e
   refine h En0 e1 fun j1 H1 X1 E1 u hu => ?_
   obtain ⟨a, vs, rfl, h1, _⟩ := hu.tupO el
   refine ⟨a, rfl, ⟨vs, h1⟩, k _ _ X1 E1 _ ?_⟩
   intro F2 j2 H2 σ2 ρ2 S2 xs i X2 E2 e2
   cases e2
   obtain ⟨a', ws, ea, g1, g2⟩ := (hu.mono X2).tupO el
   cases ea
   refine ⟨fun y ey => ?_, fun hle => ⟨ws, g1, by rw [g2.len]; omega⟩⟩
   obtain ⟨w, f1, f2⟩ := g2.get ey
   refine ⟨⟨ws, w, g1, f1⟩, ?_⟩
   rintro v' H' ⟨rfl, hx⟩
   have := hx ws g1
   rw [f1] at this
   cases this
   exact ⟨Same.refl _, f2⟩
 ·exact h En0 e1 k
noncomputable def rangeX (lo : Int) (n : Nat) : List Xv := (List.range n).map fun (k : Nat) => Xv.int (lo + (k : Int))
noncomputable def iR1 (m : TwE) : TwI := fun ρ S => rb (m ρ S) fun x S1 => match x with
 | .int j => if -(2 ^ 62) ≤ j ∧ j < 2 ^ 62 then some (.ok (fun _ => some (rangeX 0 j.toNat)) S1) else none
 | _ => none
theorem it_range {lo : Int} {n : Nat} : ItOk K j H (Itr lo n) (fun _ => some (rangeX lo n)) := by
 intro F2 j2 H2 σ2 ρ2 S2 xs i X2 E2 e2
 cases e2
 refine ⟨fun d hd => ?_, fun hle => ?_⟩
 ·unfold rangeX at hd
  rw [List.getElem?_map] at hd
  have hi : i < n := by
   apply Classical.byContradiction
   intro hn
   rw [List.getElem?_eq_none (by simp; omega)] at hd
   cases hd
  rw [List.getElem?_range hi] at hd
  cases hd
  refine ⟨hi, ?_⟩
  rintro x H' ⟨rfl, rfl⟩
  exact ⟨Same.refl _, .int _⟩
 ·unfold rangeX at hle
  simp at hle
  show n ≤ i
  omega
theorem ri_range1 {t : TE} {m : TwE} (h : RE K E t m) : RI K E (iRng1 (tCons t tNil)) (iR1 m) := by
 intro F j σ H ρ S r R En0 e k
 rcases rb_some e with ⟨x, S1, e1, e⟩ | ⟨c, S1, e1, rfl⟩
 ·split at e
  ·split at e
   ·rename_i hb
    cases e
    exact h En0 e1 fun j1 H1 X1 E1 u hu => ⟨_, by rw [hu.int_inv], hb.1, hb.2, k _ _ X1 E1 _ it_range⟩
   ·cases e
  ·cases e
 ·exact h En0 e1 k
end
end L2
namespace L2
open PySem
noncomputable def rn {α β : Type} (m : Option (Rs α)) (f : α → Sto → Option β) : Option β := match m with
 | some (.ok a S) => f a S
 | _ => none
theorem rn_some {α β : Type} {m : Option (Rs α)} {f : α → Sto → Option β} {r : β} (h : rn m f = some r) : ∃ a S, m = some (.ok a S) ∧ f a S = some r := by
 unfold rn at h
 split at h
 ·exact ⟨_, _, rfl, h⟩
 ·cases h
noncomputable def capR (cap : List (Option Nat)) (ρ : Rho) : Rho := cap.map fun o => o.bind fun i => (ρ[i]?).join
noncomputable def compTw (get : Sto → Option (List Xv)) (g : TwG) (c : TwT) (e : TwE) (ρc : Rho) : Nat → Nat → List Xv → Sto → Option (Rs Xv)
 | 0, _, _, _ => none
 | f + 1, i, es, S => (get S).bind fun xs => match xs[i]? with
  | none => if i = xs.length then some (.ok (.ref S.length) (S ++ [.lst es])) else none
  | some x => rn (g x ρc S) fun ρ1 S1 => rn (c ρ1 S1) fun b S2 => if b then rn (e ρ1 S2) fun y S3 => if es.length < sizeLine then compTw get g c e ρc f (i + 1) (es ++ [y]) S3 else none
    else compTw get g c e ρc f (i + 1) es S2
noncomputable def eComp (cap : List (Option Nat)) (m : TwI) (g : TwG) (c : TwT) (e : TwE) : TwE := fun ρ S => rb (m ρ S) fun get S1 => (get S1).bind fun xs => compTw get g c e (capR cap ρ) (xs.length + 1) 0 [] S1
noncomputable def bTrue : TwT := fun _ S => some (.ok true S)
section
variable {K : PySem.W.Frag} {E : XK} {F : Fm} {j j' : List Addr} {H H' : Hp} {σ σ' : St} {ρ ρ' : Rho} {S S' : Sto} {x : Xv} {v : V} {a : Addr} {o : HO}
theorem rt_true : RT K E (fun _ H Q => Q true H) bTrue := fun E1 e k => by
 cases e
 exact k _ _ Ext.refl E1
noncomputable def NotIn (j : List Addr) (S : Sto) (a : Addr) : Prop := ∀ (n : Nat) c, j[n]? = some a → S[n]? = some c → c.fz = true
theorem En.notIn (E1 : En K F j H σ ρ S) (h : H a = none) : NotIn j S a := fun n c e1 e2 => by
 cases z : c.fz with
 | true => rfl
 | false =>
  obtain ⟨o, e, _⟩ := (E1.cel n c a e2 e1).mu z
  rw [h] at e; cases e
theorem En.outside (E1 : En K F j H σ ρ S) (h : NotIn j S a) {o0 : HO} (h0 : H a = some o0) (m0 : o0.mu = true) (hf : F.H0 a = none) : En K F j (upd H a o) σ ρ S ∧ Ext j H j (upd H a o) := by
 have X : Ext j H j (upd H a o) := ⟨fun _ _ e => e, fun b u e m => by
  have : b ≠ a := fun q => by subst q; rw [h0] at e; cases e; rw [m] at m0; cases m0
  rw [upd_ne this]; exact e⟩
 refine ⟨⟨E1.len, fun i x e => ?_, E1.jl, E1.inj, fun n c b e1 e2 => ?_, E1.ext.trans X, E1.old, E1.l0, fun b u e => ?_, E1.fresh, fun b e => ?_⟩, X⟩
 ·obtain ⟨v, e1, e2⟩ := E1.slot i x e
  exact ⟨v, e1, e2.mono X⟩
 ·refine (E1.cel n c b e1 e2).mono X fun z => upd_ne fun q => ?_
  subst q
  rw [h n c e2 e1] at z; cases z
 ·have hb : b ≠ a := fun q => by subst q; rw [hf] at e; cases e
  rcases E1.keep b u e with h | h
  ·exact .inl (by rw [upd_ne hb]; exact h)
  ·exact .inr h
 ·have hb : b ≠ a := fun q => by subst q; rw [upd_same] at e; cases e
  rw [upd_ne hb] at e
  exact E1.dom b e
theorem En.adopt {c : Ce} (E1 : En K F j H σ ρ S) (h : NotIn j S a) (hf : F.H0 a = none) (hc : CeIs K (j ++ [a]) H a c) : En K F (j ++ [a]) H σ ρ (S ++ [c]) ∧ Ext j H (j ++ [a]) H := by
 have X : Ext j H (j ++ [a]) H := ⟨fun n b e => by rw [List.getElem?_append_left (List.getElem?_eq_some_iff.1 e).1]; exact e, KeepI.refl _⟩
 have lt : ∀ {n : Nat} {d : Ce}, S[n]? = some d → n < S.length := fun e => (List.getElem?_eq_some_iff.1 e).1
 have at_ : ∀ {n : Nat} {b : Addr} {d : Ce}, (j ++ [a])[n]? = some b → (S ++ [c])[n]? = some d → (j[n]? = some b ∧ S[n]? = some d) ∨ (n = S.length ∧ b = a ∧ d = c) := fun {n b d} e1 e2 => by
  by_cases hn : n < S.length
  ·rw [List.getElem?_append_left hn] at e2
   rw [List.getElem?_append_left (by rw [E1.jl]; exact hn)] at e1
   exact .inl ⟨e1, e2⟩
  ·rw [List.getElem?_append_right (by omega)] at e2
   rw [List.getElem?_append_right (by rw [E1.jl]; omega), E1.jl] at e1
   cases hm : n - S.length with
   | zero => rw [hm] at e1 e2; simp at e1 e2; exact .inr ⟨by omega, e1.symm, e2.symm⟩
   | succ m => rw [hm] at e1; simp at e1
 refine ⟨⟨E1.len, fun i x e => ?_, by simp [E1.jl], fun n m b c1 c2 e1 e2 e3 e4 z1 z2 => ?_, fun n d b e1 e2 => ?_, E1.ext.trans X, fun n d e => ?_, E1.l0, E1.keep, fun n b hn e => ?_, E1.dom⟩, X⟩
 ·obtain ⟨v, e1, e2⟩ := E1.slot i x e
  exact ⟨v, e1, e2.mono X⟩
 ·rcases at_ e1 e3 with ⟨f1, f2⟩ | ⟨f1, f2, f3⟩
  ·rcases at_ e2 e4 with ⟨g1, g2⟩ | ⟨g1, g2, g3⟩
   ·exact E1.inj n m b c1 c2 f1 g1 f2 g2 z1 z2
   ·subst g2
    rw [h n c1 f1 f2] at z1; cases z1
  ·rcases at_ e2 e4 with ⟨g1, g2⟩ | ⟨g1, g2, g3⟩
   ·subst f2
    rw [h m c2 g1 g2] at z2; cases z2
   ·rw [f1, g1]
 ·rcases at_ e2 e1 with ⟨f1, f2⟩ | ⟨f1, rfl, rfl⟩
  ·exact (E1.cel n d b f2 f1).mono X fun _ => rfl
  ·exact hc
 ·obtain ⟨d', e1, e2⟩ := E1.old n d e
  exact ⟨d', by rw [List.getElem?_append_left (lt e1)]; exact e1, e2⟩
 ·by_cases hm : n < j.length
  ·rw [List.getElem?_append_left hm] at e
   exact E1.fresh n b hn e
  ·rw [List.getElem?_append_right (by omega)] at e
   cases hk : n - j.length with
   | zero => rw [hk] at e; simp at e; subst e; exact hf
   | succ m => rw [hk] at e; simp at e
theorem cap_slots {cap : List (Option Nat)} (E1 : En K F j H σ ρ S) : (capSt cap σ).length = (capR cap ρ).length ∧ ∀ (i : Nat) x, (capR cap ρ)[i]? = some (some x) → ∃ v, (capSt cap σ)[i]? = some (some v) ∧ Xis K j H x v := by
 refine ⟨by simp [capSt, capR], fun i x h => ?_⟩
 unfold capR at h
 unfold capSt
 rw [List.getElem?_map] at h ⊢
 cases e : cap[i]? with
 | none => rw [e] at h; cases h
 | some o =>
  rw [e] at h
  cases o with
  | none => simp at h
  | some k =>
   simp only [Option.map_some, Option.bind_some, Option.some.injEq] at h ⊢
   cases q : ρ[k]? with
   | none => rw [q] at h; simp at h
   | some z =>
    rw [q] at h
    simp at h
    subst h
    obtain ⟨v, e1, e2⟩ := E1.slot k x q
    exact ⟨v, by rw [e1]; rfl, e2⟩
theorem re_comp {cap : List (Option Nat)} {wi : TI} {g : TG} {tt : TT} {te : TE} {m : TwI} {g' : TwG} {c : TwT} {e : TwE} (hi : RI K E wi m) (hg : RG K E0 g g') (hc : RT K E0 tt c) (he : RE K E0 te e) : RE K E (tComp cap wi g tt te) (eComp cap m g' c e) := by
 intro F j σ H ρ S r Q En0 h k
 rcases rb_some h with ⟨get, S1, e1, h⟩ | ⟨c1, S1, e1, rfl⟩
 ·refine hi En0 e1 fun j1 H1 X1 E1 J ok acc hacc => ?_
  cases eg : get S1 with
  | none => rw [eg] at h; cases h
  | some xs =>
   rw [eg] at h
   have hf : F.H0 acc = none := E1.dom acc hacc
   obtain ⟨Ea, Xa⟩ := E1.new (o := .lst []) hacc
   refine ⟨fun i n ys H2 => ∃ j2 S2 es, Ext j1 H1 j2 H2 ∧ En K F j2 H2 σ ρ S2 ∧ H2 acc = some (.lst ys) ∧ XisL K j2 H2 es ys ∧ NotIn j2 S2 acc ∧ compTw get g' c e (capR cap ρ) n i es S2 = some r,
    ⟨xs.length + 1, j1, S1, [], Xa, Ea, upd_same, .nil, E1.notIn hacc, h⟩, ?_⟩
   rintro i n ys H2 ⟨j2, S2, es, X2, E2, h2, hes, nin, e2⟩
   cases n with
   | zero => cases e2
   | succ n =>
    unfold compTw at e2
    cases eg2 : get S2 with
    | none => rw [eg2] at e2; cases e2
    | some zs =>
     rw [eg2] at e2
     dsimp only [Option.bind] at e2
     obtain ⟨go, stop⟩ := ok i X2 E2 eg2
     split at e2
     ·split at e2
      ·rename_i hl
       cases e2
       obtain ⟨E3, X3⟩ := E2.adopt (c := .lst es) nin hf ⟨ys, h2, hes.mono ⟨fun n b e => by rw [List.getElem?_append_left (List.getElem?_eq_some_iff.1 e).1]; exact e, KeepI.refl _⟩⟩
       exact .inl ⟨stop hl, k _ _ (X1.trans (X2.trans X3)) E3 _ (.ref (by rw [← E2.jl]; simp))⟩
      ·cases e2
     ·rename_i x ex
      obtain ⟨g1, g2⟩ := go x ex
      refine .inr ⟨g1, fun v H3 hy => ?_⟩
      obtain ⟨Sm, hv⟩ := g2 v H3 hy
      have E3 := E2.heap Sm
      have X3 : Ext j2 H2 j2 H3 := Ext.same Sm
      have h3 : H3 acc = some (.lst ys) := Sm _ _ h2
      obtain ⟨cl, cs⟩ := cap_slots (cap := cap) E3
      have I0 := E3.enter cl cs
      obtain ⟨ρ4, S4, e4, e2⟩ := rn_some e2
      obtain ⟨b, S5, e5, e2⟩ := rn_some e2
      have behind : ∀ {j6 : List Addr} {H6 : Hp} {σ6 : St} {ρ6 : Rho} {S6 : Sto}, En K ⟨H3, j2, S2⟩ j6 H6 σ6 ρ6 S6 → En K F j6 H6 σ ρ S6 ∧ Ext j2 H2 j6 H6 ∧ H6 acc = some (.lst ys) ∧ NotIn j6 S6 acc := fun {j6 H6 σ6 ρ6 S6} X => by
       obtain ⟨E6, X6⟩ := E3.leave X
       refine ⟨E6, X3.trans X6, ?_, fun n d q1 q2 => ?_⟩
       ·rcases X.keep acc _ h3 with q | ⟨n, d, q1, q2, q3⟩
        ·exact q
        ·rw [nin n d q1 q2] at q3; cases q3
       ·by_cases hn : n < j2.length
        ·have p1 : j2[n]? = some j2[n] := List.getElem?_eq_getElem hn
         have p2 := X6.pre n _ p1
         rw [q1] at p2
         cases p2
         have hn2 : n < S2.length := by rw [← E2.jl]; exact hn
         obtain ⟨d', f1, _, f3⟩ := X.old n _ (List.getElem?_eq_getElem hn2)
         rw [q2] at f1
         cases f1
         have hz := nin n _ p1 (List.getElem?_eq_getElem hn2)
         rw [f3 hz]
         exact hz
        ·have q := X.fresh n acc (by dsimp only; omega) q1
         have q : H3 acc = none := q
         rw [h3] at q; cases q
      refine hg I0 hv e4 fun σ4 j4 H4 X4 I4 => hc I4 e5 fun j5 H5 X5 I5 => ?_
      cases b with
      | true =>
       rw [if_pos rfl]
       rw [if_pos rfl] at e2
       obtain ⟨y, S6, e6, e2⟩ := rn_some e2
       split at e2
       ·rename_i hsz
        refine he I5 e6 fun j6 H6 X6 I6 w hw => ?_
        obtain ⟨E6, X26, h6, nin6⟩ := behind I6
        obtain ⟨E7, X7⟩ := E6.outside (o := .lst (ys ++ [w])) nin6 h6 rfl hf
        refine ⟨h6, by rw [hes.len]; exact hsz, n, Nat.lt_succ_self _, j6, S6, es ++ [y], X2.trans (X26.trans X7), E7, upd_same, ((hes.mono X26).append (.one hw)).mono X7, nin6, e2⟩
       ·cases e2
      | false =>
       rw [if_neg (by simp)]
       rw [if_neg (by simp)] at e2
       obtain ⟨E6, X26, h6, nin6⟩ := behind I5
       exact ⟨n, Nat.lt_succ_self _, j5, S5, es, X2.trans X26, E6, h6, hes.mono X26, nin6, e2⟩
 ·exact hi En0 e1 k
theorem rs_setComp {i : Nat} {cap : List (Option Nat)} {wi : TI} {g : TG} {tt : TT} {te : TE} {m : TwE} (h : RE K E (tComp cap wi g tt te) m) : RS K E (tSetComp i cap wi g tt te) (sAsg m (gN i)) := by
 intro F j D' σ H ρ S fl E1 e k
 rcases sb_some e with ⟨x, S1, e1, e⟩ | ⟨c, S1, e1, rfl⟩
 ·cases e
  exact h (Q := fun v H2 => D'.nx (σ.set i (some v)) H2) E1 e1 fun j1 H1 X1 E1 u hu => k _ _ _ X1 (E1.set hu)
 ·exact h (Q := fun v H2 => D'.nx (σ.set i (some v)) H2) E1 e1 k
noncomputable abbrev TwF := List Xv → Sto → Option (Rs Xv)
noncomputable def runTw (n k : Nat) (b : TwS) : TwF := fun xs S => if xs.length = n then match b (xs.map some ++ List.replicate k none) S with
  | some (.rt x S') => some (.ok x S')
  | some (.nx _ S') => some (.ok .non S')
  | some (.ex c S') => some (.ex c S')
  | _ => none
 else none
noncomputable def RetOk (K : PySem.W.Frag) (F : Fm) (Q : VK) (E : XK) : Rs Xv → Prop
 | .ok x S' => ∀ v j' H' σ ρ, En K F j' H' σ ρ S' → Xis K j' H' x v → Q v H'
 | .ex c S' => ∀ j' H' σ ρ C, En K F j' H' σ ρ S' → PySem.W.nsIn K mainGlobals c = some (some (.ref C)) → E (.ref C) none H'
noncomputable def sTw (K : PySem.W.Frag) (n : Nat) (tw : TwF) : Sp := fun vs H Q E => vs.length = n ∧ ∃ (j : List Addr) (S : Sto) (xs : List Xv) (r : Rs Xv), En K ⟨H, j, S⟩ j H (vs.map some) (xs.map some) S ∧ tw xs S = some r ∧ RetOk K ⟨H, j, S⟩ Q E r
theorem fn_tw {n k : Nat} {N : List Str} {t : TS} {b : TwS} {vs : List V} {Q : VK} (hN : N.length = n + k) (h : RS K E t b) (hs : sTw K n (runTw n k b) vs H Q E) : t { nx := fun _ H' => Q .non H', rt := Q } (start N vs) H := by
 obtain ⟨hn, j, S, xs, r, E1, e, ret⟩ := hs
 have es : start N vs = vs.map some ++ List.replicate k none := by
  unfold start
  rw [hN, hn, Nat.add_sub_cancel_left]
 rw [es]
 unfold runTw at e
 split at e
 ·split at e
  ·rename_i x S' e1
   cases e
   exact h E1.grow e1 fun v σ ρ j' H' X E' hv => ret _ _ _ _ _ E' hv
  ·rename_i ρ' S' e1
   cases e
   exact h E1.grow e1 fun σ j' H' X E' => ret _ _ _ _ _ E' .non
  ·rename_i c S' e1
   cases e
   exact h E1.grow e1 fun j' H' σ' ρ' C X E' hC => ret _ _ _ _ _ E' hC
  ·cases e
 ·cases e
theorem fn_none {P : Program} {w : World} {mg : Str → Option Value} {base : Heap} {CX : CXT} {k n : Nat} {f : Addr} {fd : FuncData} {ps : List Str} (hl : ps.length = n := by rfl) : FnOk P w K mg base CX k f fd ps (sTw K n fun _ _ => none) :=
 ⟨fun vs H Q E h => h.1.trans hl.symm, fun A outer s H args us vs Q E hr he hb hv hs => by
  obtain ⟨_, _, _, _, _, _, z, _⟩ := hs
  cases z⟩
noncomputable def eCall (tw : TwF) (ms : List TwE) : TwE := fun ρ S => rb (evL ms ρ S) fun xs S1 => tw xs S1
theorem args_slots {xs : List Xv} {vs : List V} (hv : XisL K j H xs vs) : (vs.map some).length = (xs.map some).length ∧ ∀ (i : Nat) x, (xs.map some)[i]? = some (some x) → ∃ v, (vs.map some)[i]? = some (some v) ∧ Xis K j H x v := by
 refine ⟨by simp [hv.len], fun i x h => ?_⟩
 rw [List.getElem?_map] at h ⊢
 cases e : xs[i]? with
 | none => rw [e] at h; cases h
 | some y =>
  rw [e] at h
  simp at h
  subst h
  obtain ⟨v, e1, e2⟩ := hv.get e
  exact ⟨v, by rw [e1]; rfl, e2⟩
theorem call_core {n : Nat} {tw : TwF} {xs : List Xv} {vs : List V} {r : Rs Xv} {Q : VK} {E' : XK} (E1 : En K F j H σ ρ S) (hv : XisL K j H xs vs) (hn : vs.length = n) (et : tw xs S = some r) (k : Po K F j H σ ρ E' (PoV K Q) r) : sTw K n tw vs H Q E' := by
 obtain ⟨l, s⟩ := args_slots hv
 refine ⟨hn, j, S, xs, r, E1.enter l s, et, ?_⟩
 cases r with
 | ok x S' =>
  intro v j' H' σ' ρ' X hx
  obtain ⟨E2, X2⟩ := E1.leave X
  exact k j' H' X2 E2 v hx
 | ex c S' =>
  intro j' H' σ' ρ' C X hC
  obtain ⟨E2, X2⟩ := E1.leave X
  exact k j' H' σ ρ C X2 E2 hC
theorem re_call {n : Nat} {tw : TwF} {ms : List TwE} {t : TA} (h : RL K E t (evL ms)) (hn : ms.length = n := by rfl) : RE K E (tCall (sTw K n tw) [] E t) (eCall tw ms) := by
 intro F j σ H ρ S r Q En0 e k
 rcases rb_some e with ⟨xs, S1, e1, e⟩ | ⟨c, S1, e1, rfl⟩
 ·refine h En0 e1 fun j1 H1 X1 E1 vs hv => ?_
  rw [List.append_nil]
  exact call_core E1 hv (by rw [hv.len, evL_len e1, hn]) e (k.step X1)
 ·exact h En0 e1 k
end
noncomputable def spLawX (K : PySem.W.Frag) : Sp := fun vs H Q _ => ∃ (a : Addr) (ns : List Int), vs = [V.ref a] ∧ Only H ∧ SqX K H a (ns.map V.int) ∧ ns.length ≤ 63 ∧ ∀ H', Q (.bl true) H'
theorem law_tw {P : Program} {w : World} {K : PySem.W.Frag} {mg : Str → Option Value} {base : Heap} {CX : CXT} {k : Nat} {f : Addr} {fd : FuncData} {ps : List Str} {tw : TwF} (Fn : FnOk P w K mg base CX k f fd ps (sTw K 1 tw))
  (h : ∀ ns : List Int, ns.length ≤ 63 → ∃ S, tw [.ref 0] [.frz (ns.map Xv.int)] = some (.ok (.bl true) S)) : FnOk P w K mg base CX k f fd ps (spLawX K) := by
 refine Fn.imp ?_
 rintro vs H Q E ⟨a, ns, rfl, hO, hS, hl, q⟩
 obtain ⟨S', e⟩ := h ns hl
 refine ⟨rfl, [a], [.frz (ns.map Xv.int)], [.ref 0], _, ?_, e, fun v j' H' σ ρ E' hv => ?_⟩
 ·refine ⟨rfl, fun i x e => ?_, rfl, fun n m b c d _ _ e3 _ z _ => ?_, fun n c b e1 e2 => ?_, Ext.refl, fun n c e => ⟨c, e, fun z => z, fun _ => rfl⟩, rfl, fun b u e => .inl e, fun n b hn e => ?_, fun b e => e⟩
  ·cases i with
   | zero => simp at e; subst e; exact ⟨_, rfl, .ref rfl⟩
   | succ i => simp at e
  ·cases n with
   | zero => simp at e3; subst e3; cases z
   | succ n => simp at e3
  ·cases n with
   | zero =>
    simp at e1 e2
    subst e1 e2
    refine ⟨ns.map V.int, ?_, XisL.ints ns⟩
    rcases hS with (hS | ⟨o, hS⟩) | hS
    ·rcases hO a with z | ⟨o, xs, z⟩
     ·rw [z] at hS; cases hS
     ·rw [z] at hS; cases hS
    ·exact .inl ⟨o, hS⟩
    ·exact .inr fun H => .inr hS
   | succ n => simp at e1
  ·dsimp only at hn
   have := (List.getElem?_eq_some_iff.1 e).1
   omega
 ·rw [hv.bl_inv]
  exact q H'
end L2
namespace L2
open PySem PySem.Spec PyProof.Rows
open PySem.Builtin.Int (intBits)
noncomputable def xI (g : Int → Int → Xv) : Op2 := fun x y S => match x, y with
 | .int a, .int b => some (g a b, S)
 | _, _ => none
noncomputable def xIC (c : Int → Int → Bool) (g : Int → Int → Xv) : Op2 := fun x y S => match x, y with
 | .int a, .int b => if c a b then some (g a b, S) else none
 | _, _ => none
noncomputable def dAdd : Op2 := xI fun i j => .int (i + j)
noncomputable def dSub : Op2 := xI fun i j => .int (i - j)
noncomputable def dMul : Op2 := xIC (fun i j => decide ((-(2 ^ 64) < i ∧ i < 2 ^ 64) ∨ (-(2 ^ 64) < j ∧ j < 2 ^ 64))) fun i j => .int (i * j)
noncomputable def dMulB : Op2 := xIC (fun i j => decide (intBits i + intBits j ≤ 134217728)) fun i j => .int (i * j)
noncomputable def dMod : Op2 := xIC (fun _ j => decide (0 < j)) fun i j => .int (i % j)
noncomputable def dFdiv : Op2 := xIC (fun _ j => decide (0 < j ∧ j < 1073741824)) fun i j => .int (i / j)
noncomputable def dFdivB : Op2 := xIC (fun _ j => decide (j ≠ 0 ∧ intBits j ≤ 9000)) fun i j => .int (i.fdiv j)
noncomputable def dPow : Op2 := xIC (fun i j => decide (0 ≤ j ∧ j ≤ 1000000 ∧ i.natAbs < 2 ^ 64)) fun i j => .int (i ^ j.toNat)
noncomputable def dLt : Op2 := xI fun i j => .bl (decide (i < j))
noncomputable def dGt : Op2 := xI fun i j => .bl (decide (j < i))
noncomputable def dEqI : Op2 := xI fun i j => .bl (decide (i = j))
noncomputable def dNeI : Op2 := xI fun i j => .bl (!decide (i = j))
noncomputable def dNeg : Xv → Sto → Option (Xv × Sto) := fun x S => match x with
 | .int i => some (.int (-i), S)
 | _ => none
section
variable {K : PySem.W.Frag} {E : XK} {F : Fm} {j j' : List Addr} {H H' : Hp} {σ σ' : St} {ρ ρ' : Rho} {S S' : Sto} {x : Xv} {v : V} {ta tb : TE} {a b : TwE}
theorem r2_I0 {g : Int → Int → V} {g' : Int → Int → Xv} (hg : ∀ i k j H, Xis K j H (g' i k) (g i k)) : R2Ok K (rI0 g) (xI g') := by
 intro F j σ H ρ S S' x y z u v Q E1 hx hy h k
 unfold xI at h
 split at h
 ·cases h
  exact ⟨_, _, hx.int_inv, hy.int_inv, k _ _ _ Ext.refl E1 (hg _ _ _ _)⟩
 ·cases h
theorem r2_I {C : Int → Int → Prop} {c : Int → Int → Bool} {g : Int → Int → V} {g' : Int → Int → Xv} (hc : ∀ i j, c i j = true → C i j) (hg : ∀ i k j H, Xis K j H (g' i k) (g i k)) : R2Ok K (rI C g) (xIC c g') := by
 intro F j σ H ρ S S' x y z u v Q E1 hx hy h k
 unfold xIC at h
 split at h
 ·split at h
  ·cases h
   exact ⟨_, _, hx.int_inv, hy.int_inv, hc _ _ (by assumption), k _ _ _ Ext.refl E1 (hg _ _ _ _)⟩
  ·cases h
 ·cases h
theorem re_cmp {p : Int → Int → Bool} (ha : RE K E ta a) (hb : RE K E tb b) : RE K E (tCmp p ta tb) (eOp (xI fun i j => .bl (p i j)) a b) :=
 re_op (r := rI0 fun i j => .bl (p i j)) (r2_I0 fun i k _ _ => .bl _) ha hb
theorem r2_add : R2Ok K (rI0 fun i j => .int (i + j)) dAdd := r2_I0 fun _ _ _ _ => .int _
theorem r2_sub : R2Ok K (rI0 fun i j => .int (i - j)) dSub := r2_I0 fun _ _ _ _ => .int _
theorem r2_mul : R2Ok K (rI CMul fun i j => .int (i * j)) dMul := r2_I (fun i j h => by simpa [CMul] using h) fun _ _ _ _ => .int _
theorem r2_mulB : R2Ok K (rI CMulB fun i j => .int (i * j)) dMulB := r2_I (fun i j h => ⟨intBits i, intBits j, Nat.le_refl _, Nat.le_refl _, by simpa using h⟩) fun _ _ _ _ => .int _
theorem r2_mod : R2Ok K (rI (fun _ j => 0 < j) fun i j => .int (i % j)) dMod := r2_I (fun i j h => by simpa using h) fun _ _ _ _ => .int _
theorem r2_fdiv : R2Ok K (rI CDiv fun i j => .int (i / j)) dFdiv := r2_I (fun i j h => by simpa [CDiv] using h) fun _ _ _ _ => .int _
theorem r2_fdivB : R2Ok K (rI CDivB fun i j => .int (i.fdiv j)) dFdivB := r2_I (fun i j h => by simpa [CDivB] using h) fun _ _ _ _ => .int _
theorem r2_pow : R2Ok K (rI CPow fun i j => .int (i ^ j.toNat)) dPow := r2_I (fun i j h => by simpa [CPow] using h) fun _ _ _ _ => .int _
theorem re_lt (ha : RE K E ta a) (hb : RE K E tb b) : RE K E (tLt ta tb) (eOp dLt a b) := re_cmp ha hb
theorem re_gt (ha : RE K E ta a) (hb : RE K E tb b) : RE K E (tGt ta tb) (eOp dGt a b) := re_cmp ha hb
theorem re_eqI (ha : RE K E ta a) (hb : RE K E tb b) : RE K E (tEqI ta tb) (eOp dEqI a b) := re_cmp ha hb
theorem re_neI (ha : RE K E ta a) (hb : RE K E tb b) : RE K E (tNeI ta tb) (eOp dNeI a b) := re_cmp ha hb
theorem r1_neg : R1Ok K (rU fun i => .int (-i)) dNeg := by
 intro F j σ H ρ S S' x z u Q E1 hx h k
 unfold dNeg at h
 split at h
 ·cases h
  exact ⟨_, hx.int_inv, k _ _ _ Ext.refl E1 (.int _)⟩
 ·cases h
noncomputable def dCatS : Op2 := fun x y S => match x, y with
 | .str a, .str b => if a.length + b.length ≤ sizeLine then some (.str (a ++ b), S) else none
 | _, _ => none
theorem r2_catS : R2Ok K (fun x y H Q => ∃ i j, x = .str i ∧ y = .str j ∧ i.length + j.length ≤ sizeLine ∧ Q (.str (i ++ j)) H) dCatS := by
 intro F j σ H ρ S S' x y z u v Q E1 hx hy h k
 unfold dCatS at h
 split at h
 ·split at h
  ·cases h
   exact ⟨_, _, hx.str_inv, hy.str_inv, by assumption, k _ _ _ Ext.refl E1 (.str _)⟩
  ·cases h
 ·cases h
noncomputable def dCatT : Op2 := fun x y S => match x, y with
 | .tup a, .tup b => if a.length + b.length ≤ sizeLine then some (.tup (a ++ b), S) else none
 | _, _ => none
theorem r2_catT : R2Ok K (rCatA K) dCatT := by
 intro F j σ H ρ S S' x y z u v Q E1 hx hy h k
 unfold dCatT at h
 split at h
 ·split at h
  ·rename_i hz
   cases h
   obtain ⟨p, xs, rfl, h1, h2⟩ := hx.tup_inv
   obtain ⟨q, ys, rfl, g1, g2⟩ := hy.tup_inv
   refine ⟨p, q, xs, ys, rfl, rfl, SqT.of h1, SqT.of g1, by rw [h2.len, g2.len]; exact hz, fun e => ?_, fun _ e => ?_, fun _ _ l hl => ?_⟩
   ·subst e
    obtain rfl := List.length_eq_zero_iff.1 h2.len.symm
    exact k _ _ _ Ext.refl E1 hy
   ·subst e
    obtain rfl := List.length_eq_zero_iff.1 g2.len.symm
    refine k _ _ _ Ext.refl E1 ?_
    rw [List.append_nil]
    exact hx
   ·obtain ⟨E2, X2⟩ := E1.new (o := .tup (xs ++ ys)) hl
    exact k _ _ _ X2 E2 (.tup upd_same ((h2.append g2).mono X2))
  ·cases h
 ·cases h
noncomputable def xInt1 (g : Int → Xv) : Opn := fun xs S => match xs with
 | [.int i] => some (g i, S)
 | _ => none
theorem rc_int1 {g : Int → V} {g' : Int → Xv} (hg : ∀ i j H, Xis K j H (g' i) (g i)) : RcOk K (fun xs H Q => ∃ i, xs = [V.int i] ∧ Q (g i) H) (xInt1 g') := by
 intro F j σ H ρ S S' xs z vs Q E1 hv h k
 unfold xInt1 at h
 split at h
 ·cases h
  obtain ⟨x, rfl, hx⟩ := hv.d1
  exact ⟨_, by rw [hx.int_inv], k _ _ _ Ext.refl E1 (hg _ _ _)⟩
 ·cases h
noncomputable def xInt2 (g : Int → Int → Xv) : Opn := fun xs S => match xs with
 | [.int i, .int j] => some (g i j, S)
 | _ => none
theorem rc_int2 {g : Int → Int → V} {g' : Int → Int → Xv} (hg : ∀ i k j H, Xis K j H (g' i k) (g i k)) : RcOk K (fun xs H Q => ∃ i j, xs = [V.int i, V.int j] ∧ Q (g i j) H) (xInt2 g') := by
 intro F j σ H ρ S S' xs z vs Q E1 hv h k
 unfold xInt2 at h
 split at h
 ·cases h
  obtain ⟨x, y, rfl, hx, hy⟩ := hv.d2
  exact ⟨_, _, by rw [hx.int_inv, hy.int_inv], k _ _ _ Ext.refl E1 (hg _ _ _ _)⟩
 ·cases h
noncomputable def dAbs : Opn := xInt1 fun i => .int (if i < 0 then -i else i)
noncomputable def dMin : Opn := xInt2 fun i j => .int (if j < i then j else i)
theorem rc_abs : RcOk K (fun xs H Q => ∃ i, xs = [V.int i] ∧ Q (.int (if i < 0 then -i else i)) H) dAbs := rc_int1 fun _ _ _ => .int _
theorem rc_min : RcOk K (fun xs H Q => ∃ i j, xs = [V.int i, V.int j] ∧ Q (.int (if j < i then j else i)) H) dMin := rc_int2 fun _ _ _ _ => .int _
noncomputable def dLen : Opn := fun xs S => match xs with
 | [x] => (seqAt S x).map fun l => (.int l.length, S)
 | _ => none
theorem rc_len : RcOk K (fun xs H Q => ∃ p ys, xs = [V.ref p] ∧ (SqL K H p ys ∨ SqT K H p ys) ∧ Q (.int ys.length) H) dLen := by
 intro F j σ H ρ S S' xs z vs Q E1 hv h k
 unfold dLen at h
 split at h
 ·rename_i x
  cases e : seqAt S x with
  | none => rw [e] at h; cases h
  | some l =>
   rw [e] at h
   cases h
   obtain ⟨w, rfl, hx⟩ := hv.d1
   obtain ⟨a, ws, rfl, h1, h2⟩ := E1.seqAt hx e
   refine ⟨a, ws, rfl, ?_, k _ _ _ Ext.refl E1 (by rw [h2.len]; exact .int _)⟩
   rcases h1 with h1 | h1
   ·exact .inl h1.sql
   ·exact .inr h1
 ·cases h
noncomputable def dList : Opn := fun xs S => match xs with
 | [x] => (seqAt S x).map fun l => (.ref S.length, S ++ [.lst l])
 | _ => none
theorem rc_list : RcOk K (fun xs H Q => ∃ p ys, xs = [V.ref p] ∧ (SqL K H p ys ∨ SqT K H p ys) ∧ ∀ l, H l = none → Q (.ref l) (upd H l (.lst ys))) dList := by
 intro F j σ H ρ S S' xs z vs Q E1 hv h k
 unfold dList at h
 split at h
 ·rename_i x
  cases e : seqAt S x with
  | none => rw [e] at h; cases h
  | some l =>
   rw [e] at h
   cases h
   obtain ⟨w, rfl, hx⟩ := hv.d1
   obtain ⟨a, ws, rfl, h1, h2⟩ := E1.seqAt hx e
   refine ⟨a, ws, rfl, ?_, fun p hp => ?_⟩
   ·rcases h1 with h1 | h1
    ·exact .inl h1.sql
    ·exact .inr h1
   ·obtain ⟨E2, X2, h3⟩ := E1.lst h2 hp
    exact k _ _ _ X2 E2 h3
 ·cases h
noncomputable def dTuple : Opn := fun xs S => match xs with
 | [.tup l] => some (.tup l, S)
 | [x] => (lstAt S x).map fun l => (.tup l, S)
 | _ => none
theorem rc_tuple : RcOk K (fun xs H Q => ∃ p ys, xs = [V.ref p] ∧ ((SqL K H p ys ∧ ∀ l, H l = none → Q (.ref l) (upd H l (.tup ys))) ∨ (SqT K H p ys ∧ Q (.ref p) H))) dTuple := by
 intro F j σ H ρ S S' xs z vs Q E1 hv h k
 unfold dTuple at h
 split at h
 ·cases h
  obtain ⟨w, rfl, hx⟩ := hv.d1
  obtain ⟨a, ws, rfl, h1, h2⟩ := hx.tup_inv
  exact ⟨a, ws, rfl, .inr ⟨SqT.of h1, k _ _ _ Ext.refl E1 hx⟩⟩
 ·rename_i x _
  cases e : lstAt S x with
  | none => rw [e] at h; cases h
  | some l =>
   rw [e] at h
   cases h
   obtain ⟨w, rfl, hx⟩ := hv.d1
   obtain ⟨a, ws, rfl, h1, h2⟩ := E1.lstAt hx e
   refine ⟨a, ws, rfl, .inl ⟨h1.sql, fun p hp => ?_⟩⟩
   obtain ⟨E2, X2⟩ := E1.new (o := .tup ws) hp
   exact k _ _ _ X2 E2 (.tup upd_same (h2.mono X2))
 ·cases h
noncomputable def bolsX : List Xv → Option (List Bool)
 | [] => some []
 | .bl i :: r => (bolsX r).map (i :: ·)
 | _ :: _ => none
theorem bolsX_is : ∀ {xs : List Xv} {ns : List Bool} {vs : List V}, bolsX xs = some ns → XisL K j H xs vs → vs = ns.map V.bl
 | [], ns, vs, e, h => by cases e; exact h.nil_inv
 | x :: r, ns, vs, e, h => by
  obtain ⟨v, ws, rfl, h1, h2⟩ := h.cons_inv
  cases x <;> simp only [bolsX, reduceCtorEq] at e
  cases e2 : bolsX r with
  | none => rw [e2] at e; cases e
  | some ms =>
   rw [e2] at e
   cases e
   rw [h1.bl_inv, bolsX_is e2 h2]
   rfl
noncomputable def dAll : Opn := fun xs S => match xs with
 | [x] => ((lstAt S x).bind bolsX).map fun ns => (.bl (ns.all id), S)
 | _ => none
theorem rc_all : RcOk K (rAll K) dAll := by
 intro F j σ H ρ S S' xs z vs Q E1 hv h k
 unfold dAll at h
 split at h
 ·rename_i x
  cases e : lstAt S x with
  | none => rw [e] at h; cases h
  | some l =>
   rw [e] at h
   cases e2 : bolsX l with
   | none => simp [e2] at h
   | some ns =>
    simp only [Option.bind_some, e2, Option.map_some, Option.some.injEq, Prod.mk.injEq] at h
    obtain ⟨rfl, rfl⟩ := h
    obtain ⟨w, rfl, hx⟩ := hv.d1
    obtain ⟨p, ws, rfl, h1, h2⟩ := E1.lstAt hx e
    refine ⟨p, ns, rfl, ?_, k _ _ _ Ext.refl E1 (.bl _)⟩
    rw [← bolsX_is e2 h2]
    exact h1.sql
 ·cases h
noncomputable def dEqS (neg : Bool) : Op2 := fun x y S => match x, y with
 | .int a, .int b => some (.bl (neg != decide (a = b)), S)
 | .str a, .str b => some (.bl (neg != decide (a = b)), S)
 | .bl a, .bl b => some (.bl (neg != decide (a = b)), S)
 | .non, .non => some (.bl (neg != true), S)
 | .int _, .str _ => some (.bl (neg != false), S)
 | .str _, .int _ => some (.bl (neg != false), S)
 | _, _ => none
theorem r2_eqS : R2Ok K rEq (dEqS false) := by
 intro F j σ H ρ S S' x y z u v Q E1 hx hy h k
 cases hx <;> cases hy <;> simp only [dEqS, reduceCtorEq, Option.some.injEq, Prod.mk.injEq, Bool.false_bne] at h <;> obtain ⟨rfl, rfl⟩ := h <;> refine ⟨rfl, k _ _ _ Ext.refl E1 ?_⟩ <;> simp <;> exact .bl _
theorem r2_neS : R2Ok K rNe (dEqS true) := by
 intro F j σ H ρ S S' x y z u v Q E1 hx hy h k
 cases hx <;> cases hy <;> simp only [dEqS, reduceCtorEq, Option.some.injEq, Prod.mk.injEq, Bool.true_bne] at h <;> obtain ⟨rfl, rfl⟩ := h <;> refine ⟨rfl, k _ _ _ Ext.refl E1 ?_⟩ <;> simp <;> exact .bl _
noncomputable def tellL (f : Xv → Option D) : List Xv → Option (List D)
 | [] => some []
 | x :: r => (f x).bind fun d => (tellL f r).map (d :: ·)
noncomputable def tell (S : Sto) : Nat → Xv → Option D
 | 0, x => match x with
  | .non => some .non
  | .bl b => some (.bl b)
  | .int i => some (.int i)
  | .str s => some (.str s)
  | _ => none
 | n + 1, x => match x with
  | .non => some .non
  | .bl b => some (.bl b)
  | .int i => some (.int i)
  | .str s => some (.str s)
  | .tup l => (tellL (tell S n) l).map .tup
  | .ct l => (tellL (tell S n) l).map .tup
  | .ref m => (lstAt S (.ref m)).bind fun l => (tellL (tell S n) l).map .lst
theorem tellL_is {f : Xv → Option D} {n : Nat} (hf : ∀ x v d, Xis K j H x v → f x = some d → Is K H v d ∧ D.depth d ≤ n) : ∀ {xs : List Xv} {vs : List V} {ds : List D}, XisL K j H xs vs → tellL f xs = some ds → IsL K H vs ds ∧ D.depths ds ≤ n
 | _, _, _, .nil, e => by cases e; exact ⟨.nil, by simp [D.depths]⟩
 | x :: r, _, ds, .cons h l, e => by
  unfold tellL at e
  cases e1 : f x with
  | none => rw [e1] at e; cases e
  | some d =>
   rw [e1] at e
   cases e2 : tellL f r with
   | none => simp [e2] at e
   | some es =>
    simp [e2] at e
    subst e
    obtain ⟨a1, a2⟩ := hf _ _ _ h e1
    obtain ⟨b1, b2⟩ := tellL_is hf l e2
    exact ⟨.cons a1 b1, by unfold D.depths; omega⟩
theorem tell_is (E1 : En K F j H σ ρ S) : ∀ (n : Nat) (x : Xv) (v : V) (d : D), Xis K j H x v → tell S n x = some d → Is K H v d ∧ D.depth d ≤ n
 | 0, x, v, d, h, e => by
  cases h <;> simp only [tell, Option.some.injEq, reduceCtorEq] at e <;> subst e <;> refine ⟨by constructor, by simp [D.depth]⟩
 | n + 1, x, v, d, h, e => by
  have ih := tell_is E1 n
  cases h with
  | non => simp only [tell, Option.some.injEq] at e; subst e; exact ⟨.non, by simp [D.depth]⟩
  | bl b => simp only [tell, Option.some.injEq] at e; subst e; exact ⟨.bl b, by simp [D.depth]⟩
  | int b => simp only [tell, Option.some.injEq] at e; subst e; exact ⟨.int b, by simp [D.depth]⟩
  | str b => simp only [tell, Option.some.injEq] at e; subst e; exact ⟨.str b, by simp [D.depth]⟩
  | @tup a vs l h1 h2 =>
   simp only [tell] at e
   cases e2 : tellL (tell S n) l with
   | none => rw [e2] at e; cases e
   | some ds =>
    rw [e2] at e
    cases e
    obtain ⟨a1, a2⟩ := tellL_is ih h2 e2
    exact ⟨.tup (SqT.of h1) a1, by unfold D.depth; omega⟩
  | @ct a vs l h1 h2 =>
   simp only [tell] at e
   cases e2 : tellL (tell S n) l with
   | none => rw [e2] at e; cases e
   | some ds =>
    rw [e2] at e
    cases e
    obtain ⟨a1, a2⟩ := tellL_is ih h2 e2
    exact ⟨.tup (h1 H) a1, by unfold D.depth; omega⟩
  | @ref m a h1 =>
   simp only [tell] at e
   cases e1 : lstAt S (.ref m) with
   | none => rw [e1] at e; cases e
   | some l =>
    rw [e1] at e
    cases e2 : tellL (tell S n) l with
    | none => simp [e2] at e
    | some ds =>
     simp [e2] at e
     subst e
     obtain ⟨a', vs, ea, g1, g2⟩ := E1.lstAt (.ref h1) e1
     cases ea
     obtain ⟨a1, a2⟩ := tellL_is ih g2 e2
     exact ⟨.lst g1.sql a1, by unfold D.depth; omega⟩
noncomputable def D.many : D → Bool
 | .tup _ => true
 | .lst _ => true
 | _ => false
noncomputable def isiX (c : String) (S : Sto) : Xv → Option Bool
 | .non => some false
 | .int _ => some (c == "int")
 | .bl _ => some (c == "bool" || c == "int")
 | .str _ => some (c == "str")
 | .tup _ => some (c == "tuple")
 | .ct _ => some (c == "tuple")
 | .ref n => (lstAt S (.ref n)).map fun _ => c == "list"
structure IsiOk (c : String) : Prop where
 non : ∀ K, PySem.W.kitOne K (.type "NoneType") (.type c) = some false
 bl : ∀ K, PySem.W.kitOne K (.type "bool") (.type c) = some (c == "bool" || c == "int")
 int : ∀ K, PySem.W.kitOne K (.type "int") (.type c) = some (c == "int")
 str : ∀ K, PySem.W.kitOne K (.type "str") (.type c) = some (c == "str")
 tup : ∀ K, PySem.W.kitOne K (.type "tuple") (.type c) = some (c == "tuple")
 lst : ∀ K, PySem.W.kitOne K (.type "list") (.type c) = some (c == "list")
theorem kitN (a b : String) (K : PySem.W.Frag) (h1 : (Value.type a == Value.type b) = false) (h : (fastBuiltinMro a).map (·.contains (.type b)) = some false) (hm : PySem.W.kitMeta b = true) : PySem.W.kitOne K (.type a) (.type b) = some false := kit_no h1 h hm rfl
theorem isi_int : IsiOk "int" := ⟨fun K => kitN _ _ K (by decide) (by decide +kernel) (by decide +kernel), fun K => kit_bool_int, fun K => kit_same, fun K => kitN _ _ K (by decide) (by decide +kernel) (by decide +kernel), fun K => kitN _ _ K (by decide) (by decide +kernel) (by decide +kernel), fun K => kitN _ _ K (by decide) (by decide +kernel) (by decide +kernel)⟩
theorem isi_bool : IsiOk "bool" := ⟨fun K => kitN _ _ K (by decide) (by decide +kernel) (by decide +kernel), fun K => kit_same, fun K => kit_int_bool, fun K => kitN _ _ K (by decide) (by decide +kernel) (by decide +kernel), fun K => kitN _ _ K (by decide) (by decide +kernel) (by decide +kernel), fun K => kitN _ _ K (by decide) (by decide +kernel) (by decide +kernel)⟩
theorem isi_str : IsiOk "str" := ⟨fun K => kitN _ _ K (by decide) (by decide +kernel) (by decide +kernel), fun K => kitN _ _ K (by decide) (by decide +kernel) (by decide +kernel), fun K => kitN _ _ K (by decide) (by decide +kernel) (by decide +kernel), fun K => kit_same, fun K => kitN _ _ K (by decide) (by decide +kernel) (by decide +kernel), fun K => kitN _ _ K (by decide) (by decide +kernel) (by decide +kernel)⟩
theorem isi_tuple : IsiOk "tuple" := ⟨fun K => kitN _ _ K (by decide) (by decide +kernel) (by decide +kernel), fun K => kitN _ _ K (by decide) (by decide +kernel) (by decide +kernel), fun K => kitN _ _ K (by decide) (by decide +kernel) (by decide +kernel), fun K => kitN _ _ K (by decide) (by decide +kernel) (by decide +kernel), fun K => kit_same, fun K => kitN _ _ K (by decide) (by decide +kernel) (by decide +kernel)⟩
theorem isi_list : IsiOk "list" := ⟨fun K => kitN _ _ K (by decide) (by decide +kernel) (by decide +kernel), fun K => kitN _ _ K (by decide) (by decide +kernel) (by decide +kernel), fun K => kitN _ _ K (by decide) (by decide +kernel) (by decide +kernel), fun K => kitN _ _ K (by decide) (by decide +kernel) (by decide +kernel), fun K => kitN _ _ K (by decide) (by decide +kernel) (by decide +kernel), fun K => kit_same⟩
noncomputable def dIsi (c : String) : Xv → Sto → Option (Xv × Sto) := fun x S => (isiX c S x).map fun b => (.bl b, S)
theorem isi_xis {c : String} (ok : IsiOk c) (E1 : En K F j H σ ρ S) {b : Bool} {Q : VK} (h : Xis K j H x v) (e : isiX c S x = some b) (k : Q (.bl b) H) : rIsi K [v, .ty c] H Q := by
 cases h with
 | non => cases e; exact ⟨_, _, _, _, _, rfl, rfl, .of .non, ok.non K, k⟩
 | bl b => cases e; exact ⟨_, _, _, _, _, rfl, rfl, .of (.bl b), ok.bl K, k⟩
 | int i => cases e; exact ⟨_, _, _, _, _, rfl, rfl, .of (.int i), ok.int K, k⟩
 | str z => cases e; exact ⟨_, _, _, _, _, rfl, rfl, .of (.str z), ok.str K, k⟩
 | tup h l => cases e; exact ⟨_, _, _, _, _, rfl, rfl, .sqt (SqT.of h), ok.tup K, k⟩
 | ct h l => cases e; exact ⟨_, _, _, _, _, rfl, rfl, .sqt (h H), ok.tup K, k⟩
 | @ref n a h =>
  simp only [isiX] at e
  cases e1 : lstAt S (.ref n) with
  | none => rw [e1] at e; cases e
  | some l =>
   rw [e1] at e
   cases e
   obtain ⟨a', vs, ea, g1, g2⟩ := E1.lstAt (.ref h) e1
   cases ea
   exact ⟨_, _, _, _, _, rfl, rfl, .sql g1.sql, ok.lst K, k⟩
theorem re_isi {c : String} {t : TE} {m : TwE} (ok : IsiOk c) (h : RE K E t m) : RE K E (tCB (rIsi K) (tCons t (tCons (tC (.ty c)) tNil))) (eUn (dIsi c) m) := by
 intro F j σ H ρ S r Q En0 e k
 rcases rb_some e with ⟨x, S1, e1, e⟩ | ⟨c, S1, e1, rfl⟩
 ·obtain ⟨z, S3, e3, rfl⟩ := okP_some e
  unfold dIsi at e3
  cases e4 : isiX c S1 x with
  | none => rw [e4] at e3; cases e3
  | some b =>
   rw [e4] at e3
   cases e3
   exact h En0 e1 fun j1 H1 X1 E1 u hu => isi_xis ok E1 hu e4 (k _ _ X1 E1 _ (.bl _))
 ·exact h En0 e1 k
noncomputable def dListRev : Xv → Sto → Option (Xv × Sto) := fun x S => (lstAt S x).map fun l => (.ref S.length, S ++ [.lst l.reverse])
theorem re_listRev {t : TE} {m : TwE} (h : RE K E t m) : RE K E (tListRev K t) (eUn dListRev m) := by
 intro F j σ H ρ S r Q En0 e k
 rcases rb_some e with ⟨x, S1, e1, e⟩ | ⟨c, S1, e1, rfl⟩
 ·obtain ⟨z, S3, e3, rfl⟩ := okP_some e
  unfold dListRev at e3
  cases e4 : lstAt S1 x with
  | none => rw [e4] at e3; cases e3
  | some l =>
   rw [e4] at e3
   cases e3
   refine h En0 e1 fun j1 H1 X1 E1 u hu => ?_
   obtain ⟨p, ys, rfl, h1, h2⟩ := E1.lstAt hu e4
   refine ⟨p, ys, rfl, h1, fun l hl => ?_⟩
   obtain ⟨E2, X2, h3⟩ := E1.lst h2.reverse hl
   exact k _ _ (X1.trans X2) E2 _ h3
 ·exact h En0 e1 k
end
end L2
namespace L2
open PySem PySem.Spec PyProof.Rows
noncomputable def keyX : Xv → Option Key
 | .int i => some (.inl i)
 | .str z => some (.inr z)
 | _ => none
noncomputable def dkAt (S : Sto) : Xv → Option (Nat × List (Key × Xv))
 | .ref n => match S[n]? with
  | some (.dk kvs) => some (n, kvs)
  | _ => none
 | _ => none
noncomputable def valX {κ : Type} [DecidableEq κ] (kvs : List (κ × Xv)) (k : κ) : Option Xv := (kvs.find? fun kv => decide (kv.1 = k)).map (·.2)
noncomputable def putX {κ : Type} [DecidableEq κ] (kvs : List (κ × Xv)) (k : κ) (x : Xv) : List (κ × Xv) :=
 if (kvs.any fun kv => decide (kv.1 = k)) = true then kvs.map (fun kv => if kv.1 = k then (kv.1, x) else kv) else kvs ++ [(k, x)]
section
variable {K : PySem.W.Frag} {E : XK} {F : Fm} {j : List Addr} {H : Hp} {σ : St} {ρ : Rho} {S : Sto} {x : Xv} {v : V} {κ : Type}
theorem keyX_is {k : Key} (h : Xis K j H x v) (e : keyX x = some k) : v = kV k := by
 cases h <;> simp only [keyX, Option.some.injEq, reduceCtorEq] at e <;> subst e <;> rfl
theorem dkAt_some {n : Nat} {kvs : List (Key × Xv)} (h : dkAt S x = some (n, kvs)) : x = .ref n ∧ S[n]? = some (.dk kvs) := by
 cases x <;> simp only [dkAt, reduceCtorEq] at h
 split at h
 ·cases h; exact ⟨rfl, by assumption⟩
 ·cases h
theorem En.dk {n : Nat} {kvs : List (Key × Xv)} (E1 : En K F j H σ ρ S) (hx : Xis K j H x v) (h : dkAt S x = some (n, kvs)) : ∃ a ks, v = .ref a ∧ j[n]? = some a ∧ H a = some (.dK ks) ∧ KX K j H kvs ks := by
 obtain ⟨rfl, hs⟩ := dkAt_some h
 obtain ⟨a, rfl, hj⟩ := hx.ref_inv
 obtain ⟨ks, e1, e2⟩ := E1.cel _ _ _ hs hj
 exact ⟨a, ks, rfl, hj, e1, e2⟩
theorem KX.len : ∀ {kvs : List (κ × Xv)} {ks : List (κ × V)}, KX K j H kvs ks → ks.length = kvs.length
 | _, _, .nil => rfl
 | _, _, .cons _ l => by rw [List.length_cons, List.length_cons, l.len]
theorem KX.val [DecidableEq κ] {k : κ} : ∀ {kvs : List (κ × Xv)} {ks : List (κ × V)}, KX K j H kvs ks → (∀ y, valX kvs k = some y → ∃ w, valV ks k = some w ∧ Xis K j H y w) ∧ (valX kvs k = none → valV ks k = none)
 | _, _, .nil => ⟨fun _ e => by simp [valX] at e, fun _ => rfl⟩
 | (k1, y1) :: r, (_, w1) :: rs, .cons h l => by
  obtain ⟨i1, i2⟩ := KX.val (k := k) l
  by_cases e : k1 = k
  ·subst e
   refine ⟨fun y ey => ?_, fun ey => ?_⟩
   ·simp [valX] at ey
    subst ey
    exact ⟨w1, by simp [valV], h⟩
   ·simp [valX] at ey
  ·have e1 : valX ((k1, y1) :: r) k = valX r k := by simp [valX, List.find?_cons, e]
   have e2 : valV ((k1, w1) :: rs) k = valV rs k := by simp [valV, List.find?_cons, e]
   rw [e1, e2]
   exact ⟨i1, i2⟩
theorem KX.append : ∀ {kvs r : List (κ × Xv)} {ks rs : List (κ × V)}, KX K j H kvs ks → KX K j H r rs → KX K j H (kvs ++ r) (ks ++ rs)
 | _, _, _, _, .nil, h => h
 | _, _, _, _, .cons h l, g => .cons h (l.append g)
theorem KX.any {f : κ → Bool} : ∀ {kvs : List (κ × Xv)} {ks : List (κ × V)}, KX K j H kvs ks → (ks.any fun p => f p.1) = kvs.any fun p => f p.1
 | _, _, .nil => rfl
 | _, _, .cons _ l => by rw [List.any_cons, List.any_cons, l.any]
theorem KX.put [DecidableEq κ] {k : κ} (hx : Xis K j H x v) {kvs : List (κ × Xv)} {ks : List (κ × V)} (h : KX K j H kvs ks) : KX K j H (putX kvs k x) (putK ks k v) := by
 unfold putX putK
 rw [h.any (f := fun a => decide (a = k))]
 split
 ·rename_i hc
  clear hc
  induction h with
  | nil => exact .nil
  | @cons k1 y w r rs h l ih =>
   rw [List.map_cons, List.map_cons]
   by_cases e : k1 = k
   ·rw [if_pos e, if_pos e]; exact .cons hx ih
   ·rw [if_neg e, if_neg e]; exact .cons h ih
 ·exact h.append (.cons hx .nil)
theorem En.wdk {n : Nat} {kvs kvs' : List (Key × Xv)} {ws : List (Key × V)} {a : Addr} (E1 : En K F j H σ ρ S) (h : dkAt S x = some (n, kvs)) (hj : j[n]? = some a) (hw : KX K j H kvs' ws) : En K F j (upd H a (.dK ws)) σ ρ (S.set n (.dk kvs')) ∧ Ext j H j (upd H a (.dK ws)) :=
 E1.write (dkAt_some h).2 rfl hj rfl fun X => ⟨ws, upd_same, hw.mono X⟩
noncomputable def eDict0 : TwE := fun _ S => some (.ok (.ref S.length) (S ++ [.dk []]))
theorem re_dnew : RE K E tDNewK eDict0 := by
 intro F j σ H ρ S r Q En0 e k p hp
 cases e
 have X : Ext j H (j ++ [p]) (upd H p (.dK [])) := ⟨fun n a e => by rw [List.getElem?_append_left (List.getElem?_eq_some_iff.1 e).1]; exact e, KeepI.same (same_upd hp)⟩
 obtain ⟨E1, _⟩ := En0.cell (o := .dK []) (c := .dk []) hp ⟨[], upd_same, .nil⟩
 exact k _ _ X E1 _ (.ref (by rw [← En0.jl]; simp))
theorem dget_of {a : Addr} {ks : List (Key × V)} {kvs : List (Key × Xv)} {key : Key} (f1 : H a = some (.dK ks)) (f2 : KX K j H kvs ks) : ∃ o, DGet H a (kV key) o ∧ o.isSome = (valX kvs key).isSome ∧ ∀ z zd, Xis K j H z zd → Xis K j H ((valX kvs key).getD z) (o.getD zd) := by
 refine ⟨_, DGet.k f1, ?_, fun z zd hz => ?_⟩
 ·cases ev : valX kvs key with
  | none => rw [f2.val.2 ev]; rfl
  | some y => obtain ⟨w, g1, _⟩ := f2.val.1 _ ev; rw [g1]; rfl
 ·cases ev : valX kvs key with
  | none => rw [f2.val.2 ev]; exact hz
  | some y => obtain ⟨w, g1, g2⟩ := f2.val.1 _ ev; rw [g1]; exact g2
noncomputable def dEqNil (neg : Bool) : Op2 := fun x y S => match lstAt S x, lstAt S y with
 | some xs, some [] => some (.bl (neg != xs.isEmpty), S)
 | _, _ => none
theorem r2_eqNil {neg : Bool} : R2Ok K (rEqNil K neg) (dEqNil neg) := by
 intro F j σ H ρ S S' x y z u v Q E1 hx hy h k
 unfold dEqNil at h
 split at h
 ·rename_i xs e1 e2
  cases h
  obtain ⟨a, vs, rfl, h1, h2⟩ := E1.lstAt hx e1
  obtain ⟨b, ws, rfl, g1, g2⟩ := E1.lstAt hy e2
  cases g2
  refine ⟨a, b, vs, rfl, rfl, h1.sql, g1.sql, k _ _ _ Ext.refl E1 ?_⟩
  have : vs.isEmpty = xs.isEmpty := by cases h2 <;> rfl
  rw [this]
  exact .bl _
 ·cases h
end
end L2
namespace L2
open PySem PySem.Spec PyProof.Rows
open PySem.Builtin.Int (intBits)
noncomputable def W {α : Type} (r : Option (Rs α)) (P : α → Sto → Prop) : Prop := ∃ a S, r = some (.ok a S) ∧ P a S
noncomputable def WO (r : Option (Xv × Sto)) (P : Xv → Sto → Prop) : Prop := ∃ a S, r = some (a, S) ∧ P a S
noncomputable def WS (r : Option Fl) (N : Rho → Sto → Prop) (R : Xv → Sto → Prop) : Prop := (∃ ρ S, r = some (.nx ρ S) ∧ N ρ S) ∨ ∃ x S, r = some (.rt x S) ∧ R x S
section
variable {ρ : Rho} {S S' : Sto} {d x y : Xv} {a b m o : TwE} {c : TwT} {s t : TwS} {i k : Nat} {P : Xv → Sto → Prop} {PB : Bool → Sto → Prop} {PL : List Xv → Sto → Prop} {PO : Option Int → Sto → Prop} {N : Rho → Sto → Prop} {R : Xv → Sto → Prop}
theorem W.of {α : Type} {r : Option (Rs α)} {a : α} {P : α → Sto → Prop} (e : r = some (.ok a S)) (h : P a S) : W r P := ⟨a, S, e, h⟩
theorem WO.of {r : Option (Xv × Sto)} (e : r = some (x, S)) (h : P x S) : WO r P := ⟨x, S, e, h⟩
theorem W.imp {α : Type} {r : Option (Rs α)} {P Q : α → Sto → Prop} (h : W r P) (k : ∀ a S, P a S → Q a S) : W r Q := by
 obtain ⟨a, S, e, h⟩ := h
 exact ⟨a, S, e, k _ _ h⟩
theorem WS.nx {r : Option Fl} (e : r = some (.nx ρ S)) (h : N ρ S) : WS r N R := .inl ⟨ρ, S, e, h⟩
theorem WS.rt {r : Option Fl} (e : r = some (.rt x S)) (h : R x S) : WS r N R := .inr ⟨x, S, e, h⟩
theorem W.bind {α β : Type} {r : Option (Rs α)} {f : α → Sto → Option (Rs β)} {P : β → Sto → Prop} (h : W r fun a S => W (f a S) P) : W (rb r f) P := by
 obtain ⟨a, S, rfl, h⟩ := h
 exact h
theorem WS.bind {α : Type} {r : Option (Rs α)} {f : α → Sto → Option Fl} (h : W r fun a S => WS (f a S) N R) : WS (sb r f) N R := by
 obtain ⟨a, S, rfl, h⟩ := h
 exact h
theorem W.okP {r : Option (Xv × Sto)} (h : WO r P) : W (okP r) P := by
 obtain ⟨a, S, rfl, h⟩ := h
 exact ⟨a, S, rfl, h⟩
theorem wx_var (h : ρ[i]? = some (some d)) (k : P d S) : W (eVar i ρ S) P := .of (by unfold eVar; rw [h]) k
theorem wx_c (k : P d S) : W (eC d ρ S) P := .of rfl k
theorem wx_op {f : Op2} (h : W (a ρ S) fun x S1 => W (b ρ S1) fun y S2 => WO (f x y S2) P) : W (eOp f a b ρ S) P := W.bind (h.imp fun _ _ h => W.bind (h.imp fun _ _ h => W.okP h))
theorem wx_un {f : Xv → Sto → Option (Xv × Sto)} (h : W (a ρ S) fun x S1 => WO (f x S1) P) : W (eUn f a ρ S) P := W.bind (h.imp fun _ _ h => W.okP h)
theorem wx_bE (h : W (a ρ S) fun x S1 => ∃ v, x = .bl v ∧ PB v S1) : W (bE a ρ S) PB := W.bind (h.imp fun x S1 h => by obtain ⟨v, rfl, k⟩ := h; exact .of rfl k)
theorem wx_eB (h : W (c ρ S) fun v S1 => P (.bl v) S1) : W (eB c ρ S) P := W.bind (h.imp fun _ _ k => .of rfl k)
theorem wx_not (h : W (c ρ S) fun v S1 => PB (!v) S1) : W (bNot c ρ S) PB := W.bind (h.imp fun _ _ k => .of rfl k)
theorem wx_and {c2 : TwT} (h : W (c ρ S) fun v S1 => (v = true → W (c2 ρ S1) PB) ∧ (v = false → PB false S1)) : W (bAnd c c2 ρ S) PB := W.bind (h.imp fun v S1 k => by
 cases v with
 | true => rw [if_pos rfl]; exact k.1 rfl
 | false => exact .of rfl (k.2 rfl))
theorem wx_or {c2 : TwT} (h : W (c ρ S) fun v S1 => (v = true → PB true S1) ∧ (v = false → W (c2 ρ S1) PB)) : W (bOr c c2 ρ S) PB := W.bind (h.imp fun v S1 k => by
 cases v with
 | true => exact .of rfl (k.1 rfl)
 | false => rw [if_neg (by simp)]; exact k.2 rfl)
theorem wx_eAnd (h : W (a ρ S) fun x S1 => ∃ v, x = .bl v ∧ (v = true → W (b ρ S1) P) ∧ (v = false → P (.bl false) S1)) : W (eAnd a b ρ S) P := W.bind ((wx_bE h).imp fun v S1 k => by
 cases v with
 | true => rw [if_pos rfl]; exact k.1 rfl
 | false => exact .of rfl (k.2 rfl))
theorem wx_eIf (h : W (c ρ S) fun v S1 => (v = true → W (a ρ S1) P) ∧ (v = false → W (b ρ S1) P)) : W (eIf c a b ρ S) P := W.bind (h.imp fun v S1 k => by
 cases v with
 | true => rw [if_pos rfl]; exact k.1 rfl
 | false => rw [if_neg (by simp)]; exact k.2 rfl)
theorem wx_nil (k : PL [] S) : W (evL [] ρ S) PL := .of rfl k
theorem wx_cons {ms : List TwE} (h : W (m ρ S) fun d S1 => W (evL ms ρ S1) fun ds S2 => PL (d :: ds) S2) : W (evL (m :: ms) ρ S) PL := W.bind (h.imp fun _ _ h => W.bind (h.imp fun _ _ k => .of rfl k))
theorem wx_tup {ms : List TwE} (h : W (evL ms ρ S) fun ds S1 => P (.tup ds) S1) : W (eTup ms ρ S) P := W.bind (h.imp fun _ _ k => .of rfl k)
theorem wx_lst {ms : List TwE} (h : W (evL ms ρ S) fun ds S1 => P (.ref S1.length) (S1 ++ [.lst ds])) : W (eLst ms ρ S) P := W.bind (h.imp fun _ _ k => .of rfl k)
theorem wx_fn {f : Opn} {ms : List TwE} (h : W (evL ms ρ S) fun ds S1 => WO (f ds S1) P) : W (eFn f ms ρ S) P := W.bind (h.imp fun _ _ h => W.okP h)
theorem wx_call {tw : TwF} {ms : List TwE} (h : W (evL ms ρ S) fun ds S1 => W (tw ds S1) P) : W (eCall tw ms ρ S) P := W.bind h
theorem wx_oNo (k : PO none S) : W (oNo ρ S) PO := .of rfl k
theorem wx_oSome (h : W (m ρ S) fun x S1 => ∃ k, x = .int k ∧ PO (some k) S1) : W (oSome m ρ S) PO := W.bind (h.imp fun x S1 h => by obtain ⟨v, rfl, k⟩ := h; exact .of rfl k)
theorem wx_sl {f : Xv → Option Int → Option Int → Sto → Option (Xv × Sto)} {lo hi : TwO} (h : W (m ρ S) fun x S1 => W (lo ρ S1) fun u S2 => W (hi ρ S2) fun v S3 => WO (f x u v S3) P) : W (eSl f m lo hi ρ S) P :=
 W.bind (h.imp fun _ _ h => W.bind (h.imp fun _ _ h => W.bind (h.imp fun _ _ h => W.okP h)))
theorem wx_mt {f : OpM} {ms : List TwE} (h : W (o ρ S) fun x S1 => (∃ l, lstAt S1 x = some l) ∧ W (evL ms ρ S1) fun ys S2 => WO (f x ys S2) P) : W (eMt f o ms ρ S) P := W.bind (h.imp fun x S1 h => by
 obtain ⟨⟨l, e⟩, h⟩ := h
 rw [e, Option.bind_some]
 exact W.bind (h.imp fun _ _ h => W.okP h))
theorem wx_dict0 (k : P (.ref S.length) (S ++ [.dk []])) : W (eDict0 ρ S) P := .of rfl k
theorem wx_seq (h : WS (s ρ S) (fun ρ1 S1 => WS (t ρ1 S1) N R) R) : WS (sSeq s t ρ S) N R := by
 unfold sSeq
 rcases h with ⟨ρ1, S1, e, h⟩ | ⟨x, S1, e, h⟩
 ·rw [e]; exact h
 ·rw [e]; exact .rt rfl h
theorem wx_next (h : N ρ S) : WS (sNext ρ S) N R := .nx rfl h
theorem wx_set (h : W (m ρ S) fun d S1 => N (ρ.set i (some d)) S1) : WS (sAsg m (gN i) ρ S) N R := WS.bind (h.imp fun _ _ k => .nx rfl k)
theorem wx_store (h : W (m ρ S) fun d S1 => W (a ρ S1) fun x S2 => W (b ρ S2) fun y S3 => ∃ n l q j, wlAt S3 x = some (n, l) ∧ y = .int q ∧ ixN l.length q = some j ∧ N ρ (S3.set n (.lst (l.set j d)))) : WS (sAsg m (gStore a b) ρ S) N R :=
 WS.bind (h.imp fun d S1 h => WS.bind (W.bind (h.imp fun x S2 h => W.bind (h.imp fun y S3 h => by
  obtain ⟨n, l, q, j, e1, rfl, e2, k⟩ := h
  rw [e1]
  dsimp only
  rw [e2]
  exact .of rfl (.nx rfl k)))))
theorem wx_expr (h : W (m ρ S) fun _ S1 => N ρ S1) : WS (sExpr m ρ S) N R := WS.bind (h.imp fun _ _ k => .nx rfl k)
theorem wx_ret (h : W (m ρ S) fun d S1 => R d S1) : WS (sRet m ρ S) N R := WS.bind (h.imp fun _ _ k => .rt rfl k)
theorem wx_if (h : W (c ρ S) fun v S1 => (v = true → WS (s ρ S1) N R) ∧ (v = false → WS (t ρ S1) N R)) : WS (sIf c s t ρ S) N R := WS.bind (h.imp fun v S1 k => by
 cases v with
 | true => rw [if_pos rfl]; exact k.1 rfl
 | false => rw [if_neg (by simp)]; exact k.2 rfl)
theorem wx_cut {r : Option Fl} (I : Rho → Sto → Prop) (h : WS r I R) (k : ∀ ρ S, I ρ S → N ρ S) : WS r N R := by
 rcases h with ⟨ρ, S, e, h⟩ | h
 ·exact .inl ⟨ρ, S, e, k ρ S h⟩
 ·exact .inr h
theorem wx_wh {n : Nat} (h : WS (whTw c s n ρ S) N R) : WS (sWh n c s ρ S) N R := h
theorem wx_turn {n : Nat} (h : W (c ρ S) fun v S1 => (v = true → WS (s ρ S1) (fun ρ2 S2 => WS (whTw c s n ρ2 S2) N R) R) ∧ (v = false → N ρ S1)) : WS (whTw c s (n + 1) ρ S) N R := by
 unfold whTw
 refine WS.bind (h.imp fun v S1 k => ?_)
 cases v with
 | true =>
  rw [if_pos rfl]
  rcases k.1 rfl with ⟨ρ2, S2, e2, h⟩ | ⟨x, S2, e2, h⟩
  ·rw [e2]; exact h
  ·rw [e2]; exact .rt rfl h
 | false => exact .nx rfl (k.2 rfl)
theorem wx_for {n : TwI} {g : TwG} (h : W (n ρ S) fun get S1 => ∃ xs, get S1 = some xs ∧ WS (forTw get g s (xs.length + 1) 0 ρ S1) N R) : WS (sFor n g s ρ S) N R := WS.bind (h.imp fun get S1 h => by
 obtain ⟨xs, e, h⟩ := h
 rw [e, Option.bind_some]
 exact h)
theorem wx_forI {get : Sto → Option (List Xv)} {g : TwG} {xs : List Xv} (J : Nat → Rho → Sto → Prop) (hg : ∀ i ρ S, i ≤ xs.length → J i ρ S → get S = some xs)
  (h : ∀ (i : Nat) (x : Xv) ρ S, xs[i]? = some x → J i ρ S → W (g x ρ S) fun ρ1 S1 => WS (s ρ1 S1) (fun ρ2 S2 => J (i + 1) ρ2 S2) R) (h0 : J 0 ρ S) (k : ∀ ρ S, J xs.length ρ S → N ρ S) : WS (forTw get g s (xs.length + 1) 0 ρ S) N R := by
 have aux : ∀ (n i : Nat) (ρ : Rho) (S : Sto), i + n = xs.length → J i ρ S → WS (forTw get g s (n + 1) i ρ S) N R := by
  intro n
  induction n with
  | zero =>
   intro i ρ S e hj
   unfold forTw
   rw [hg i ρ S (by omega) hj, Option.bind_some, List.getElem?_eq_none (by omega)]
   dsimp only
   rw [if_pos (by omega)]
   exact .nx rfl (k ρ S (by rw [show xs.length = i by omega]; exact hj))
  | succ n ih =>
   intro i ρ S e hj
   unfold forTw
   have hi : i < xs.length := by omega
   rw [hg i ρ S (by omega) hj, Option.bind_some, List.getElem?_eq_getElem hi]
   refine WS.bind ((h i _ ρ S (List.getElem?_eq_getElem hi) hj).imp fun ρ1 S1 h1 => ?_)
   rcases h1 with ⟨ρ2, S2, e2, h2⟩ | ⟨x, S2, e2, h2⟩
   ·rw [e2]; exact ih (i + 1) ρ2 S2 (by omega) h2
   ·rw [e2]; exact .rt rfl h2
 exact aux xs.length 0 ρ S (by omega) h0
theorem wx_iL (h : W (m ρ S) fun x S1 => ∃ l, lstAt S1 x = some l ∧ Q' (fun S => lstAt S x) S1) : W (iL m ρ S) Q' := W.bind (h.imp fun x S1 h => by
 obtain ⟨l, e, k⟩ := h
 rw [e]
 exact .of rfl k)
theorem wx_iT {Q' : (Sto → Option (List Xv)) → Sto → Prop} (h : W (m ρ S) fun x S1 => ∃ l, x.tupOf = some l ∧ Q' (fun _ => some l) S1) : W (iT m ρ S) Q' := W.bind (h.imp fun x S1 h => by
 obtain ⟨l, e, k⟩ := h
 rw [e]
 exact .of rfl k)
theorem wx_iR1 {Q' : (Sto → Option (List Xv)) → Sto → Prop} (h : W (m ρ S) fun x S1 => ∃ k : Int, x = .int k ∧ (-(2 ^ 62) ≤ k ∧ k < 2 ^ 62) ∧ Q' (fun _ => some (rangeX 0 k.toNat)) S1) : W (iR1 m ρ S) Q' := W.bind (h.imp fun x S1 h => by
 obtain ⟨k, rfl, hk, q⟩ := h
 dsimp only
 rw [if_pos hk]
 exact .of rfl q)
theorem rangeX_at {lo : Int} {n i : Nat} {x : Xv} (h : (rangeX lo n)[i]? = some x) : i < n ∧ x = .int (lo + i) := by
 unfold rangeX at h
 rw [List.getElem?_map] at h
 have hi : i < n := by
  apply Classical.byContradiction
  intro hn
  rw [List.getElem?_eq_none (by simp; omega)] at h
  cases h
 rw [List.getElem?_range hi] at h
 cases h
 exact ⟨hi, rfl⟩
theorem rangeX_len {lo : Int} {n : Nat} : (rangeX lo n).length = n := by simp [rangeX]
theorem wx_comp {cap : List (Option Nat)} {n : TwI} {g : TwG} (h : W (n ρ S) fun get S1 => ∃ xs, get S1 = some xs ∧ W (compTw get g c m (capR cap ρ) (xs.length + 1) 0 [] S1) P) : W (eComp cap n g c m ρ S) P := W.bind (h.imp fun get S1 h => by
 obtain ⟨xs, e, h⟩ := h
 rw [e, Option.bind_some]
 exact h)
theorem wx_compI {get : Sto → Option (List Xv)} {g : TwG} {ρc : Rho} {xs : List Xv} (hl : xs.length ≤ sizeLine) (J : Nat → List Xv → Sto → Prop) (hg : ∀ i es S, i ≤ xs.length → J i es S → get S = some xs)
  (h : ∀ (i : Nat) (x : Xv) es S, xs[i]? = some x → es.length = i → J i es S → W (g x ρc S) fun ρ1 S1 => W (c ρ1 S1) fun b S2 => b = true ∧ W (m ρ1 S2) fun y S3 => J (i + 1) (es ++ [y]) S3) (h0 : J 0 [] S)
  (k : ∀ es S, es.length = xs.length → J xs.length es S → P (.ref S.length) (S ++ [.lst es])) : W (compTw get g c m ρc (xs.length + 1) 0 [] S) P := by
 have aux : ∀ (n i : Nat) (es : List Xv) (S : Sto), i + n = xs.length → es.length = i → J i es S → W (compTw get g c m ρc (n + 1) i es S) P := by
  intro n
  induction n with
  | zero =>
   intro i es S e el hj
   unfold compTw
   rw [hg i es S (by omega) hj, Option.bind_some, List.getElem?_eq_none (by omega)]
   dsimp only
   rw [if_pos (by omega)]
   exact .of rfl (k es S (by omega) (by rw [show xs.length = i by omega]; exact hj))
  | succ n ih =>
   intro i es S e el hj
   unfold compTw
   have hi : i < xs.length := by omega
   rw [hg i es S (by omega) hj, Option.bind_some, List.getElem?_eq_getElem hi]
   obtain ⟨ρ1, S1, e1, b, S2, e2, rfl, y, S3, e3, q⟩ := h i _ es S (List.getElem?_eq_getElem hi) el hj
   dsimp only [rn]
   rw [e1]
   dsimp only [rn]
   rw [e2]
   dsimp only [rn]
   rw [if_pos rfl, e3]
   dsimp only [rn]
   rw [if_pos (by omega)]
   exact ih (i + 1) (es ++ [y]) S3 (by omega) (by simp [el]) q
 exact aux xs.length 0 [] S (by omega) rfl h0
theorem wx_true (k : PB true S) : W (bTrue ρ S) PB := .of rfl k
theorem wx_run {n k : Nat} {xs : List Xv} {ρ0 : Rho} (hn : xs.length = n) (h0 : xs.map some ++ List.replicate k none = ρ0) (h : WS (s ρ0 S) (fun _ S1 => P .non S1) P) : W (runTw n k s xs S) P := by
 unfold runTw
 rw [if_pos hn, h0]
 rcases h with ⟨ρ, S1, e, h⟩ | ⟨x, S1, e, h⟩
 ·rw [e]; exact .of rfl h
 ·rw [e]; exact .of rfl h
variable {p q : Int}
theorem ox_add (k : P (.int (p + q)) S) : WO (dAdd (.int p) (.int q) S) P := .of rfl k
theorem ox_sub (k : P (.int (p - q)) S) : WO (dSub (.int p) (.int q) S) P := .of rfl k
theorem ox_neg (k : P (.int (-p)) S) : WO (dNeg (.int p) S) P := .of rfl k
theorem ox_lt (k : P (.bl (decide (p < q))) S) : WO (dLt (.int p) (.int q) S) P := .of rfl k
theorem ox_gt (k : P (.bl (decide (q < p))) S) : WO (dGt (.int p) (.int q) S) P := .of rfl k
theorem ox_eqI (k : P (.bl (decide (p = q))) S) : WO (dEqI (.int p) (.int q) S) P := .of rfl k
theorem ox_neI (k : P (.bl (!decide (p = q))) S) : WO (dNeI (.int p) (.int q) S) P := .of rfl k
theorem ox_mod (h : 0 < q) (k : P (.int (p % q)) S) : WO (dMod (.int p) (.int q) S) P := .of (by unfold dMod xIC; exact if_pos (by simpa using h)) k
theorem ox_mulB (h : intBits p + intBits q ≤ 134217728) (k : P (.int (p * q)) S) : WO (dMulB (.int p) (.int q) S) P := .of (by unfold dMulB xIC; exact if_pos (by simpa using h)) k
theorem ox_mul (h : (-(2 ^ 64) < p ∧ p < 2 ^ 64) ∨ (-(2 ^ 64) < q ∧ q < 2 ^ 64)) (k : P (.int (p * q)) S) : WO (dMul (.int p) (.int q) S) P := .of (by unfold dMul xIC; exact if_pos (decide_eq_true h)) k
theorem ox_pow (h : 0 ≤ q ∧ q ≤ 1000000 ∧ p.natAbs < 2 ^ 64) (k : P (.int (p ^ q.toNat)) S) : WO (dPow (.int p) (.int q) S) P := .of (by unfold dPow xIC; exact if_pos (decide_eq_true h)) k
theorem ox_fdiv (h : 0 < q ∧ q < 1073741824) (k : P (.int (p / q)) S) : WO (dFdiv (.int p) (.int q) S) P := .of (by unfold dFdiv xIC; exact if_pos (decide_eq_true h)) k
theorem ox_fdivB (h : q ≠ 0 ∧ intBits q ≤ 9000) (k : P (.int (p.fdiv q)) S) : WO (dFdivB (.int p) (.int q) S) P := .of (by unfold dFdivB xIC; exact if_pos (decide_eq_true h)) k
theorem ox_min (k : P (.int (if q < p then q else p)) S) : WO (dMin [.int p, .int q] S) P := .of rfl k
theorem ox_len {l : List Xv} (h : lstAt S x = some l) (k : P (.int l.length) S) : WO (dLen [x] S) P := .of (by
 unfold dLen seqAt
 dsimp only
 have : x.tupOf = none := by cases x <;> first | rfl | cases h
 rw [this]
 dsimp only
 rw [h]
 rfl) k
theorem ox_ixL {l : List Xv} {z : Xv} (h : lstAt S x = some l) (e : atI l p = some z) (k : P z S) : WO (dIxL x (.int p) S) P := .of (by unfold dIxL; rw [h]; dsimp only; rw [e]; rfl) k
theorem ox_ixT {l : List Xv} {z : Xv} (h : x.tupOf = some l) (e : atI l p = some z) (k : P z S) : WO (dIxT x (.int p) S) P := .of (by unfold dIxT; rw [h]; dsimp only; rw [e]; rfl) k
theorem atI_0 {β : Type} {x : β} {l : List β} : atI (x :: l) 0 = some x := by
 unfold atI ixN
 rw [if_pos (show (0 : Int) ≤ 0 by decide), if_pos (by simp only [List.length_cons]; omega)]
 rfl
theorem atI_1 {β : Type} {x y : β} {l : List β} : atI (x :: y :: l) 1 = some y := by
 unfold atI ixN
 rw [if_pos (show (0 : Int) ≤ 1 by decide), if_pos (by simp only [List.length_cons]; omega)]
 rfl
theorem atI_nn {β : Type} {l : List β} {k : Int} {z : β} (h0 : 0 ≤ k) (h : l[k.toNat]? = some z) : atI l k = some z := by
 have hk := (List.getElem?_eq_some_iff.1 h).1
 unfold atI ixN
 rw [if_pos h0, if_pos (by omega)]
 exact h
theorem ox_append {n : Nat} {l : List Xv} (h : wlAt S x = some (n, l)) (hz : l.length < sizeLine) (k : P .non (S.set n (.lst (l ++ [y])))) : WO (mAppend x [y] S) P := .of (by unfold mAppend; rw [h]; dsimp only; rw [if_pos hz]) k
theorem ox_slL {l : List Xv} {lo hi : Option Int} (h : lstAt S x = some l) (k : P (.ref S.length) (S ++ [.lst (cutD l lo hi)])) : WO (dSlL x lo hi S) P := .of (by unfold dSlL; rw [h]; rfl) k
theorem ox_list {l : List Xv} (h : lstAt S x = some l) (k : P (.ref S.length) (S ++ [.lst l])) : WO (dList [x] S) P := .of (by
 unfold dList seqAt
 dsimp only
 have : x.tupOf = none := by cases x <;> first | rfl | cases h
 rw [this]
 dsimp only
 rw [h]
 rfl) k
theorem ox_eqNil {neg : Bool} {l : List Xv} (h : lstAt S x = some l) (h2 : lstAt S y = some []) (k : P (.bl (neg != l.isEmpty)) S) : WO (dEqNil neg x y S) P := .of (by unfold dEqNil; rw [h, h2]) k
theorem ox_isi {c : String} {v : Bool} (h : isiX c S x = some v) (k : P (.bl v) S) : WO (dIsi c x S) P := .of (by unfold dIsi; rw [h]; rfl) k
end
theorem lstAt_new {S : Sto} {l : List Xv} : lstAt (S ++ [.lst l]) (.ref S.length) = some l := by simp [lstAt]
theorem wlAt_of {S : Sto} {n : Nat} {l : List Xv} (h : S[n]? = some (.lst l)) : wlAt S (.ref n) = some (n, l) := by simp [wlAt, h]
theorem lstAt_of {S : Sto} {n : Nat} {l : List Xv} (h : S[n]? = some (.lst l)) : lstAt S (.ref n) = some l := by simp [lstAt, h]
theorem dkAt_of {S : Sto} {n : Nat} {l : List (Key × Xv)} (h : S[n]? = some (.dk l)) : dkAt S (.ref n) = some (n, l) := by simp [dkAt, h]
end L2
namespace L2
open PySem PySem.Spec PyProof.Rows PySem.Calls
section
variable {X : Cx}
end
section
variable {K : PySem.W.Frag} {E : XK}
end
end L2
namespace L2
open PySem PySem.Spec PyProof.Rows PySem.Calls
section
variable {K : PySem.W.Frag} {E : XK}
end
end L2
namespace L2
open PySem PySem.Spec PyProof.Rows PySem.Calls
noncomputable def allZ (f : D → D → Option Bool) : List D → List D → Option Bool
 | a :: l, b :: m => (f a b).bind fun x => (allZ f l m).map (x && ·)
 | _, _ => some true
theorem allZ_at {f : D → D → Option Bool} : ∀ {l m : List D} {b : Bool}, allZ f l m = some b → ∃ e : Nat → Bool, (∀ (j : Nat) a c, l[j]? = some a → m[j]? = some c → f a c = some (e j)) ∧ b = (List.range (min l.length m.length)).all e
 | [], m, b, h => by
  unfold allZ at h
  cases h
  exact ⟨fun _ => true, fun j a c ha => by simp at ha, by simp⟩
 | a :: l, [], b, h => by
  unfold allZ at h
  cases h
  exact ⟨fun _ => true, fun j a c ha hc => by simp at hc, by simp⟩
 | a :: l, c :: m, b, h => by
  unfold allZ at h
  cases e1 : f a c with
  | none => rw [e1] at h; cases h
  | some x =>
   rw [e1, Option.bind_some] at h
   cases e2 : allZ f l m with
   | none => rw [e2] at h; cases h
   | some y =>
    rw [e2] at h
    cases h
    obtain ⟨e, k, rfl⟩ := allZ_at e2
    refine ⟨fun j => match j with
     | 0 => x
     | j + 1 => e j, fun j p q hp hq => ?_, ?_⟩
    ·cases j with
     | zero => simp at hp hq; subst hp hq; exact e1
     | succ j => exact k j p q (by simpa using hp) (by simpa using hq)
    ·rw [List.length_cons, List.length_cons, Nat.succ_min_succ, List.range_succ_eq_map, List.all_cons, List.all_map]
     rfl
noncomputable def eqG : Nat → D → D → Option Bool
 | 0, d, e => match d, e with
  | .non, .non => some true
  | .bl a, .bl b => some (a == b)
  | .int a, .int b => some (a == b)
  | .str a, .str b => some (a == b)
  | _, _ => none
 | n + 1, d, e => match d, e with
  | .non, .non => some true
  | .bl a, .bl b => some (a == b)
  | .int a, .int b => some (a == b)
  | .str a, .str b => some (a == b)
  | .tup l, .tup m => (allZ (eqG n) l m).map (· && (l.length == m.length))
  | .lst l, .lst m => if l.length = m.length then allZ (eqG n) l m else some false
  | _, _ => none
section
variable {X : Cx} {pins : List (Addr × Obj)} {σ : St} {H : Hp} {s : Shared}
theorem all_range {n : Nat} {e : Nat → Bool} (h : ∀ j, j < n → e j = true) : (List.range n).all e = true := List.all_eq_true.2 fun j hj => h j (List.mem_range.1 hj)
theorem eqG_self (I : Inv X pins σ H s) : ∀ (n : Nat) {d e : D} {x : V} {b : Bool}, eqG n d e = some b → Is X.K H x d → Is X.K H x e → b = true := by
 intro n
 induction n with
 | zero =>
  intro d e x b h hx hy
  unfold eqG at h
  split at h
  ·cases h; rfl
  ·rw [hx.bl_inv] at hy; cases hy; cases h; simp
  ·rw [hx.int_inv] at hy; cases hy; cases h; simp
  ·rw [hx.str_inv] at hy; cases hy; cases h; simp
  ·cases h
 | succ n ih =>
  intro d e x b h hx hy
  unfold eqG at h
  have items : ∀ {xs : List V} {l m : List D} {b : Bool}, allZ (eqG n) l m = some b → IsL X.K H xs l → IsL X.K H xs m → b = true := fun {xs l m b} ha hl hm => by
   obtain ⟨e, k, rfl⟩ := allZ_at ha
   refine all_range fun j hj => ?_
   have h1 : j < l.length := by omega
   have h2 : j < m.length := by omega
   obtain ⟨x, hx1, hx2⟩ := hl.get (List.getElem?_eq_getElem h1)
   obtain ⟨y, hy1, hy2⟩ := hm.get (List.getElem?_eq_getElem h2)
   rw [hx1] at hy1
   cases hy1
   exact ih (k j _ _ (List.getElem?_eq_getElem h1) (List.getElem?_eq_getElem h2)) hx2 hy2
  split at h
  ·cases h; rfl
  ·rw [hx.bl_inv] at hy; cases hy; cases h; simp
  ·rw [hx.int_inv] at hy; cases hy; cases h; simp
  ·rw [hx.str_inv] at hy; cases hy; cases h; simp
  ·rename_i l m
   cases ha : allZ (eqG n) l m with
   | none => rw [ha] at h; cases h
   | some b' =>
    rw [ha] at h
    cases h
    obtain ⟨a, xs, rfl, h1, h2⟩ := hx.tup_inv
    obtain ⟨a', ys, e, g1, g2⟩ := hy.tup_inv
    cases e
    obtain rfl := I.tuple_inj h1 g1
    rw [items ha h2 g2]
    have e3 := h2.len; have e4 := g2.len
    simp; omega
  ·rename_i l m
   obtain ⟨a, xs, rfl, h1, h2⟩ := hx.lst_inv
   obtain ⟨a', ys, e, g1, g2⟩ := hy.lst_inv
   cases e
   obtain rfl := I.list_inj h1 g1
   have e3 := h2.len; have e4 := g2.len
   rw [if_pos (by omega)] at h
   exact items h h2 g2
  ·cases h
theorem eq_itemsG {A : Around} {xs ys : List V} {its its2 : List Value} {l m : List D} {e : Nat → Bool} (rx : Vals xs its) (ry : Vals ys its2) (hx : IsL X.K H xs l) (hy : IsL X.K H ys m)
  (k : ∀ {x y : V} {u v : Value} {d d' : D} {j : Nat}, l[j]? = some d → m[j]? = some d' → Is X.K H x d → Is X.K H y d' → RelV x u → RelV y v → SeqAt.EqAt A.in1 s u v (e j)) :
  ∀ j (h1 : j < its.toArray.size) (h2 : j < its2.toArray.size), SeqAt.EqAt A.in1 s its.toArray[j] its2.toArray[j] (e j) := by
 intro j h1 h2
 have e1 : j < xs.length := by rw [rx.length]; simpa using h1
 have e2 : j < ys.length := by rw [ry.length]; simpa using h2
 have el : j < l.length := by rw [← hx.len]; exact e1
 have em : j < m.length := by rw [← hy.len]; exact e2
 obtain ⟨x, hx1, hx2⟩ := hx.get (i := j) (d := l[j]) (List.getElem?_eq_getElem el)
 obtain ⟨y, hy1, hy2⟩ := hy.get (i := j) (d := m[j]) (List.getElem?_eq_getElem em)
 obtain ⟨u, hu, ru⟩ := rx.get hx1
 obtain ⟨v, hv, rv⟩ := ry.get hy1
 have g1 : its.toArray[j] = u := by
  have : its[j]? = some its[j] := List.getElem?_eq_getElem (by simpa using h1)
  rw [hu] at this
  simpa using (Option.some.inj this).symm
 have g2 : its2.toArray[j] = v := by
  have : its2[j]? = some its2[j] := List.getElem?_eq_getElem (by simpa using h2)
  rw [hv] at this
  simpa using (Option.some.inj this).symm
 rw [g1, g2]
 exact k (List.getElem?_eq_getElem el) (List.getElem?_eq_getElem em) hx2 hy2 ru rv
theorem eqAt_gen (I : Inv X pins σ H s) : ∀ (n : Nat) {A : Around} {d d' : D} {x y : V} {u v : Value} {b : Bool}, eqG n d d' = some b → A.units + n < cLine → Is X.K H x d → Is X.K H y d' → RelV x u → RelV y v → SeqAt.EqAt A s u v b := by
 intro n
 induction n with
 | zero =>
  intro A d d' x y u v b h hu hx hy ru rv
  unfold eqG at h
  split at h
  ·cases h; rw [hx.non_inv] at ru; rw [hy.non_inv] at rv; cases ru; cases rv; exact SeqAt.EqAt.same _
  ·cases h; rw [hx.bl_inv] at ru; rw [hy.bl_inv] at rv; cases ru; cases rv; exact SeqAt.EqAt.bool_bool _ _
  ·cases h; rw [hx.int_inv] at ru; rw [hy.int_inv] at rv; obtain ⟨t, rfl⟩ := ru; obtain ⟨t', rfl⟩ := rv; exact SeqAt.EqAt.int_int _ _ _ _
  ·cases h; rw [hx.str_inv] at ru; rw [hy.str_inv] at rv; obtain ⟨t, rfl⟩ := ru; obtain ⟨t', rfl⟩ := rv; exact SeqAt.EqAt.str_str _ _ _ _
  ·cases h
 | succ n ih =>
  intro A d d' x y u v b h hu hx hy ru rv
  have hself := fun (e : x = y) => eqG_self I (n + 1) h hx (e ▸ hy)
  unfold eqG at h
  split at h
  ·cases h; rw [hx.non_inv] at ru; rw [hy.non_inv] at rv; cases ru; cases rv; exact SeqAt.EqAt.same _
  ·cases h; rw [hx.bl_inv] at ru; rw [hy.bl_inv] at rv; cases ru; cases rv; exact SeqAt.EqAt.bool_bool _ _
  ·cases h; rw [hx.int_inv] at ru; rw [hy.int_inv] at rv; obtain ⟨t, rfl⟩ := ru; obtain ⟨t', rfl⟩ := rv; exact SeqAt.EqAt.int_int _ _ _ _
  ·cases h; rw [hx.str_inv] at ru; rw [hy.str_inv] at rv; obtain ⟨t, rfl⟩ := ru; obtain ⟨t', rfl⟩ := rv; exact SeqAt.EqAt.str_str _ _ _ _
  ·rename_i l m
   cases ha : allZ (eqG n) l m with
   | none => rw [ha] at h; cases h
   | some b' =>
    rw [ha] at h
    cases h
    obtain ⟨e, k, rfl⟩ := allZ_at ha
    obtain ⟨a, xs, rfl, h1, h2⟩ := hx.tup_inv
    obtain ⟨a', ys, rfl, g1, g2⟩ := hy.tup_inv
    cases ru; cases rv
    by_cases hab : a = a'
    ·subst hab; rw [hself rfl]; exact SeqAt.EqAt.same _
    ·obtain ⟨its, r1, p1, _⟩ := I.tuple h1
     obtain ⟨its2, r2, p2, _⟩ := I.tuple g1
     refine SeqAt.EqAt.of_refs hab ?_
     have := SeqAt.RcAt.tuples (A := A) (e := e) p1 p2 (by omega) (eq_itemsG r1 r2 h2 g2 fun hi hj hx hy ru rv => ih (A := A.in1) (k _ _ _ hi hj) (by show A.units + 1 + n < cLine; omega) hx hy ru rv)
     have s1 : its.toArray.size = l.length := by have e1 := r1.length; have e3 := h2.len; simp; omega
     have s2 : its2.toArray.size = m.length := by have e1 := r2.length; have e3 := g2.len; simp; omega
     rwa [s1, s2] at this
  ·rename_i l m
   obtain ⟨a, xs, rfl, h1, h2⟩ := hx.lst_inv
   obtain ⟨a', ys, rfl, g1, g2⟩ := hy.lst_inv
   cases ru; cases rv
   by_cases hab : a = a'
   ·subst hab; rw [hself rfl]; exact SeqAt.EqAt.same _
   ·obtain ⟨its, r1, p1, _⟩ := I.list h1
    obtain ⟨its2, r2, p2, _⟩ := I.list g1
    have s1 : its.toArray.size = l.length := by have e1 := r1.length; have e3 := h2.len; simp; omega
    have s2 : its2.toArray.size = m.length := by have e1 := r2.length; have e3 := g2.len; simp; omega
    refine SeqAt.EqAt.of_refs hab ?_
    split at h
    ·rename_i hlm
     obtain ⟨e, k, rfl⟩ := allZ_at h
     have := SeqAt.RcAt.lists (A := A) (e := e) p1.isList p2.isList (by omega) (by omega) (eq_itemsG r1 r2 h2 g2 fun hi hj hx hy ru rv => ih (A := A.in1) (k _ _ _ hi hj) (by show A.units + 1 + n < cLine; omega) hx hy ru rv)
     rw [s1] at this
     rwa [show min l.length m.length = l.length by omega]
    ·rename_i hlm
     cases h
     exact SeqAt.RcAt.lists_lengths p1.isList p2.isList (by rw [s1, s2]; simpa using hlm) (by omega)
  ·cases h
noncomputable def rEqG (K : PySem.W.Frag) (neg : Bool) : R2 := fun x y H Q => ∃ (d e : D) (b : Bool), (∃ l m, (d = .tup l ∧ e = .tup m) ∨ (d = .lst l ∧ e = .lst m)) ∧ Is K H x d ∧ Is K H y e ∧ eqG 40 d e = some b ∧ Q (.bl (neg != b)) H
theorem op_eqG {k : Nat} {K : PySem.W.Frag} (hr : Room k X.A) (hK : X.K = K := by rfl) : OpR X (compareOp .Eq) (rEqG K false) := by
 subst hK
 intro pins s σ H x y v u Q I rx ry h
 obtain ⟨d, e, b, ⟨l, m, hd⟩, hx, hy, hb, q⟩ := h
 have hu : X.A.units + 41 < cLine := Nat.lt_of_le_of_lt (by omega) hr.units
 rw [show (false != b) = b by cases b <;> rfl] at q
 unfold eqG at hb
 rcases hd with ⟨rfl, rfl⟩ | ⟨rfl, rfl⟩
 ·dsimp only at hb
  cases ha : allZ (eqG 39) l m with
  | none => rw [ha] at hb; cases hb
  | some b' =>
   rw [ha] at hb
   cases hb
   obtain ⟨e, k, rfl⟩ := allZ_at ha
   obtain ⟨a, xs, rfl, h1, h2⟩ := hx.tup_inv
   obtain ⟨a', ys, rfl, g1, g2⟩ := hy.tup_inv
   cases rx; cases ry
   obtain ⟨its, r1, p1, _⟩ := I.tuple h1
   obtain ⟨its2, r2, p2, _⟩ := I.tuple g1
   have s1 : its.toArray.size = l.length := by have e1 := r1.length; have e3 := h2.len; simp; omega
   have s2 : its2.toArray.size = m.length := by have e1 := r2.length; have e3 := g2.len; simp; omega
   refine SeqAt.eq_tupleAt (e := e) p1 p2 (by omega) (eq_itemsG r1 r2 h2 g2 fun hi hj hx hy ru rv => eqAt_gen I 39 (A := X.A.in1) (k _ _ _ hi hj) (by show X.A.units + 1 + 39 < cLine; omega) hx hy ru rv) ?_
   rw [s1, s2]
   exact ⟨.bl _, H, I, rfl, q⟩
 ·dsimp only at hb
  obtain ⟨a, xs, rfl, h1, h2⟩ := hx.lst_inv
  obtain ⟨a', ys, rfl, g1, g2⟩ := hy.lst_inv
  cases rx; cases ry
  obtain ⟨its, r1, p1, _⟩ := I.list h1
  obtain ⟨its2, r2, p2, _⟩ := I.list g1
  have s1 : its.toArray.size = l.length := by have e1 := r1.length; have e3 := h2.len; simp; omega
  have s2 : its2.toArray.size = m.length := by have e1 := r2.length; have e3 := g2.len; simp; omega
  split at hb
  ·rename_i hlm
   obtain ⟨e, k, rfl⟩ := allZ_at hb
   refine SeqAt.eq_listAt (e := e) p1.isList p2.isList (by omega) (by omega) (eq_itemsG r1 r2 h2 g2 fun hi hj hx hy ru rv => eqAt_gen I 39 (A := X.A.in1) (k _ _ _ hi hj) (by show X.A.units + 1 + 39 < cLine; omega) hx hy ru rv) ?_
   rw [show min l.length m.length = l.length by omega] at q
   rw [s1]
   exact ⟨.bl _, H, I, rfl, q⟩
  ·rename_i hlm
   cases hb
   refine SeqAt.eq_list_lengthsAt p1.isList p2.isList (by rw [s1, s2]; simpa using hlm) (by omega) ?_
   exact ⟨.bl false, H, I, rfl, q⟩
theorem op_neG {k : Nat} {K : PySem.W.Frag} (hr : Room k X.A) (hK : X.K = K := by rfl) : OpR X (compareOp .NotEq) (rEqG K true) := by
 subst hK
 intro pins s σ H x y v u Q I rx ry h
 obtain ⟨d, e, b, ⟨l, m, hd⟩, hx, hy, hb, q⟩ := h
 have hu : X.A.units + 41 < cLine := Nat.lt_of_le_of_lt (by omega) hr.units
 rw [show (true != b) = !b by cases b <;> rfl] at q
 unfold eqG at hb
 rcases hd with ⟨rfl, rfl⟩ | ⟨rfl, rfl⟩
 ·dsimp only at hb
  cases ha : allZ (eqG 39) l m with
  | none => rw [ha] at hb; cases hb
  | some b' =>
   rw [ha] at hb
   cases hb
   obtain ⟨e, k, rfl⟩ := allZ_at ha
   obtain ⟨a, xs, rfl, h1, h2⟩ := hx.tup_inv
   obtain ⟨a', ys, rfl, g1, g2⟩ := hy.tup_inv
   cases rx; cases ry
   obtain ⟨its, r1, p1, _⟩ := I.tuple h1
   obtain ⟨its2, r2, p2, _⟩ := I.tuple g1
   have s1 : its.toArray.size = l.length := by have e1 := r1.length; have e3 := h2.len; simp; omega
   have s2 : its2.toArray.size = m.length := by have e1 := r2.length; have e3 := g2.len; simp; omega
   refine SeqAt.RcNeAt.tuples (e := e) p1 p2 (by omega) (eq_itemsG r1 r2 h2 g2 fun hi hj hx hy ru rv => eqAt_gen I 39 (A := X.A.in1) (k _ _ _ hi hj) (by show X.A.units + 1 + 39 < cLine; omega) hx hy ru rv) _ _ _ _ ?_
   rw [s1, s2]
   exact ⟨.bl _, H, I, rfl, q⟩
 ·dsimp only at hb
  obtain ⟨a, xs, rfl, h1, h2⟩ := hx.lst_inv
  obtain ⟨a', ys, rfl, g1, g2⟩ := hy.lst_inv
  cases rx; cases ry
  obtain ⟨its, r1, p1, _⟩ := I.list h1
  obtain ⟨its2, r2, p2, _⟩ := I.list g1
  have s1 : its.toArray.size = l.length := by have e1 := r1.length; have e3 := h2.len; simp; omega
  have s2 : its2.toArray.size = m.length := by have e1 := r2.length; have e3 := g2.len; simp; omega
  split at hb
  ·rename_i hlm
   obtain ⟨e, k, rfl⟩ := allZ_at hb
   refine SeqAt.RcNeAt.lists (e := e) p1.isList p2.isList (by omega) (by omega) (eq_itemsG r1 r2 h2 g2 fun hi hj hx hy ru rv => eqAt_gen I 39 (A := X.A.in1) (k _ _ _ hi hj) (by show X.A.units + 1 + 39 < cLine; omega) hx hy ru rv) _ _ _ _ ?_
   rw [show min l.length m.length = l.length by omega] at q
   rw [s1]
   exact ⟨.bl _, H, I, rfl, q⟩
  ·rename_i hlm
   cases hb
   refine SeqAt.RcNeAt.lists_lengths p1.isList p2.isList (by rw [s1, s2]; simpa using hlm) (by omega) _ _ _ _ ?_
   exact ⟨.bl true, H, I, rfl, q⟩
end
end L2
namespace L2
open PySem PySem.Spec PyProof.Rows PySem.Calls PySem.W
section
variable {cmp : Nat → Nat → (Bool → Shared → Prop) → Shared → Prop} {r : Nat → Int} {n : Nat} {s : Shared}
end
end L2
namespace L2
open PySem PySem.Spec PyProof.Rows PySem.Calls PySem.W
section
variable {prog : Program} {w : World} {A : Around} {E : Value → Shared → Prop} {s : Shared}
end
end L2
namespace L2
open PySem PySem.Spec PyProof.Rows PySem.Calls PySem.W
open PySem.AutoSeq1 (wpAny_loadPart')
open PySem.MeetsSeq PySem.MeetsSeq2 PySem.MeetsSeq3
section
variable {prog : Program} {w : World} {A : Around} {E : Value → Shared → Prop} {s : Shared}
end
section
variable {X : Cx}
end
end L2
namespace L2
open PySem PySem.Spec PyProof.Rows PySem.Calls PySem.W
section
variable {X : Cx} {pins : List (Addr × Obj)} {σ : St} {H : Hp} {s : Shared} {a : Addr} {d : V} {u r : Value} {A : Around} {E : Value → Shared → Prop} {kvs : List (Key × V)} {k : Key}
end
section
variable {X : Cx} {o e f : Expr} {apos cpos : Pos} {td ty tx : TE}
end
end L2
namespace L2
open PySem PySem.Spec PyProof.Rows PySem.Calls PySem.W
open PySem.AutoSeq1 (wpAny_loadPart')
section
variable {prog : Program} {w : World} {A : Around} {E : Value → Shared → Prop} {s : Shared}
end
section
variable {X : Cx}
end
end L2
namespace L2
open PySem PySem.Spec PyProof.Rows PySem.Calls PySem.W
section
variable {prog : Program} {w : World} {A : Around} {E : Value → Shared → Prop} {s : Shared}
end
section
variable {X : Cx}
end
end L2
namespace L2
open PySem PySem.Spec PyProof.Rows PySem.Calls PySem.W
open PySem.AutoSeq1 (wpAny_loadPart')
section
variable {prog : Program} {w : World} {A : Around} {E : Value → Shared → Prop} {s : Shared}
end
section
variable {X : Cx}
end
end L2
namespace L2
open PySem PySem.Spec PyProof.Rows PySem.Calls
mutual
inductive IsNK (h : Heap) : NK → Value → Prop where
 | int (i : Int) (t : Tok) : IsNK h (.int i) (.int i t)
 | str (x : Str) (t : Tok) : IsNK h (.str x) (.str x t)
 | tup {a : Addr} {o : Obj} {items : Array Value} {n : Nat} {l : List NK} : h.get? a = some o → o.cls = .type "tuple" → o.data = .seq items n → IsNKL h l items.toList → IsNK h (.tup l) (.ref a)
inductive IsNKL (h : Heap) : List NK → List Value → Prop where
 | nil : IsNKL h [] []
 | cons {k : NK} {v : Value} {ks : List NK} {vs : List Value} : IsNK h k v → IsNKL h ks vs → IsNKL h (k :: ks) (v :: vs)
end
mutual
noncomputable def ndraw : NK → Nat
 | .int _ => 1
 | .str _ => 1
 | .tup l => ndrawL l + 1
noncomputable def ndrawL : List NK → Nat
 | [] => 0
 | k :: r => ndraw k + ndrawL r
end
section
variable {h h' : Heap}
mutual
theorem IsNK.inj : ∀ {x y : NK} {v : Value}, IsNK h x v → IsNK h y v → x = y
 | _, _, _, .int i t, hy => by cases hy; rfl
 | _, _, _, .str x t, hy => by cases hy; rfl
 | _, _, _, .tup e1 e2 e3 l1, hy => by
  cases hy with
  | tup f1 f2 f3 l2 =>
   rw [e1] at f1
   cases f1
   rw [e3] at f3
   injection f3 with g1 g2
   subst g1
   rw [IsNKL.inj l1 l2]
theorem IsNKL.inj : ∀ {x y : List NK} {v : List Value}, IsNKL h x v → IsNKL h y v → x = y
 | _, _, _, .nil, hy => by cases hy; rfl
 | _, _, _, .cons a l, hy => by
  cases hy with
  | cons b m => rw [IsNK.inj a b, IsNKL.inj l m]
end
mutual
theorem IsNK.keeps {d : Addr} {o : Obj} {es : Array DictEntry} {ep : Nat} (ho : h.get? d = some o) (hd : o.data = .dict es ep) (hs : Heap.SameBut d h h') : ∀ {x : NK} {v : Value}, IsNK h x v → IsNK h' x v
 | _, _, .int i t => .int i t
 | _, _, .str x t => .str x t
 | _, _, .tup (a := a) e1 e2 e3 l => by
  have hne : a ≠ d := by
   rintro rfl
   rw [ho] at e1
   cases e1
   rw [hd] at e3
   exact nomatch e3
  exact .tup ((hs.2 a hne).trans e1) e2 e3 (IsNKL.keeps ho hd hs l)
theorem IsNKL.keeps {d : Addr} {o : Obj} {es : Array DictEntry} {ep : Nat} (ho : h.get? d = some o) (hd : o.data = .dict es ep) (hs : Heap.SameBut d h h') : ∀ {x : List NK} {v : List Value}, IsNKL h x v → IsNKL h' x v
 | _, _, .nil => .nil
 | _, _, .cons a l => .cons (IsNK.keeps ho hd hs a) (IsNKL.keeps ho hd hs l)
end
theorem IsNKL.len : ∀ {x : List NK} {v : List Value}, IsNKL h x v → x.length = v.length
 | _, _, .nil => rfl
 | _, _, .cons a l => by simp [l.len]
theorem IsNKL.get : ∀ {x : List NK} {v : List Value} {i : Nat} {k : NK}, IsNKL h x v → x[i]? = some k → ∃ u, v[i]? = some u ∧ IsNK h k u
 | _, _, _, _, .nil, e => by simp at e
 | _, _, 0, _, .cons a l, e => by simp at e; subst e; exact ⟨_, rfl, a⟩
 | _, _, i + 1, k, .cons a l, e => by
  obtain ⟨u, e1, e2⟩ := l.get (i := i) (k := k) (by simpa using e)
  exact ⟨u, by simpa using e1, e2⟩
end
theorem ndepL_mem : ∀ {l : List NK} {k : NK}, k ∈ l → ndep k ≤ ndepL l
 | [], _, h => by cases h
 | a :: r, k, h => by
  unfold ndepL
  rcases List.mem_cons.1 h with rfl | h
  ·exact Nat.le_max_left _ _
  ·exact Nat.le_trans (ndepL_mem h) (Nat.le_max_right _ _)
section
variable {prog : Program} {w : World} {E : Value → Shared → Prop}
theorem nk_hash : ∀ (n : Nat) {A : Around} {s : Shared} {k : NK} {v : Value} {Q : Int → Shared → Prop}, ndep k ≤ n → A.units + n < cLine → IsNK s.heap k v → Q (nhash w k) { s with toks := s.toks + ndraw k } → wpAny (model prog w) A (pyHash v) Q E s := by
 intro n
 induction n with
 | zero =>
  intro A s k v Q hn hu hk h
  cases hk with
  | int i t => exact wpAny_pyHash_int (by simpa [nhash, ndraw, keyH] using h)
  | str x t => exact wpAny_pyHash_str (by simpa [nhash, ndraw, keyH] using h)
  | tup _ _ _ _ => unfold ndep at hn; omega
 | succ n ih =>
  intro A s k v Q hn hu hk h
  cases hk with
  | int i t => exact wpAny_pyHash_int (by simpa [nhash, ndraw, keyH] using h)
  | str x t => exact wpAny_pyHash_str (by simpa [nhash, ndraw, keyH] using h)
  | @tup a o items m ks ho hc hd hi =>
   have ty : s.TypeIs (.ref a) "tuple" := ⟨o, ho, hc⟩
   have hnl : ndepL ks ≤ n := by unfold ndep at hn; omega
   have sl := F.slot_tuple_hash
   unfold pyHash
   (try unfold pyHashByItsType)
   have main : ∀ {R : Value → Shared → Prop}, R (.int (Builtin.Tuple.tupleHashOf (nhashL w ks)) (s.toks + ndrawL ks)) { s with toks := s.toks + ndrawL ks + 1 } → wpAny (model prog w) A.in1 (Builtin.«tuple.__hash__» ⟨[.ref a], []⟩) (fun fin s' => ∃ v, fin = PySem.Fin.done (.ret v) ∧ R v s') E s := fun {R} hR => by
    refine wpAny_bind (m := Builtin.Tuple.tupleItemsOf (.ref a)) (wpAny_tupleItemsOf ho hd (wpAny_bind ?_))
    rw [← Array.forIn_toList]
    refine wpAny_forIn_list _ (fun rest (acc : Array Int) s' => ∃ pre post, ks = pre ++ post ∧ IsNKL s.heap post rest ∧ acc.toList = nhashL w pre ∧ s' = { s with toks := s.toks + ndrawL pre }) _ ?_ ?_ _ _ ⟨[], ks, rfl, hi, by simp [nhashL], by simp [ndrawL]⟩
    ·rintro v1 more acc _ ⟨pre, post, rfl, hl, hb, rfl⟩
     cases hl with
     | @cons k _ post' _ h1 hl' =>
      have app : ∀ (l : List NK) (k : NK), nhashL w (l ++ [k]) = nhashL w l ++ [nhash w k] ∧ ndrawL (l ++ [k]) = ndrawL l + ndraw k := fun l k => by
       induction l with
       | nil => simp [nhashL, ndrawL]
       | cons a r ih => refine ⟨by simp [nhashL, ih.1], by simp [ndrawL, ih.2]; omega⟩
      refine wpAny_bind (ih (Nat.le_trans (ndepL_mem (by simp)) hnl) (show A.units + 1 + n < cLine by omega) (show IsNK s.heap k v1 from h1) ?_)
      have goal : ∃ pre2 post2, pre ++ k :: post' = pre2 ++ post2 ∧ IsNKL s.heap post2 more ∧ (acc.push (nhash w k)).toList = nhashL w pre2 ∧ ({ s with toks := s.toks + ndrawL pre + ndraw k } : Shared) = { s with toks := s.toks + ndrawL pre2 } := ⟨pre ++ [k], post', by simp, hl', by rw [(app pre k).1]; simp [hb], by rw [(app pre k).2, Nat.add_assoc]⟩
      first | exact wpAny_pure goal | exact wpAny_bind (wpAny_pure (wpAny_pure goal))
    ·rintro acc _ ⟨pre, post, rfl, hl, hb, rfl⟩
     cases hl
     rw [List.append_nil] at hR
     show wpAny _ _ (retInt (Builtin.Tuple.tupleHashOf acc.toList)) _ _ _
     rw [hb]
     refine wpAny_ret_mkInt ?_
     exact hR
   refine wpAny_bind (wpAny_cRoomFor_or (.inr (show A.units < cLine by omega)) (wpAny_bind (wpAny_specialOf ty sl.lookup ?_)))
   refine wpAny_ite_split (fun z => absurd z (by rw [beq_builtin_none]; decide)) fun _ => wpAny_bind (wpAny_specialOf ty sl.lookup ?_)
   refine wpAny_bind (m := callSpecialIfBoundUnlessNone? (.ref a) "__hash__" _) (wpAny_callSpecialIfBoundUnlessNone?_slot ty sl (wpAny_call_entry sl ty F.entry_tuple_hash (main ?_) (F.args_tuple_hash_1 _)))
   unfold nhash ndraw reduceHash at h
   have en : ({ s with toks := s.toks + ndrawL ks + 1 } : Shared) = { s with toks := s.toks + (ndrawL ks + 1) } := by rw [Nat.add_assoc]
   rw [en]
   refine wpAny_ite_split (fun z => ?_) fun z => wpAny_bind (wpAny_rule ?_)
   ·rw [if_pos z] at h; exact wpAny_pure h
   ·rw [if_neg z] at h; exact wpAny_pure h
theorem nk_flat {A : Around} {s : Shared} {k j : NK} {v u : Value} (hu : A.units < cLine) (hk : IsNK s.heap k v) (hj : IsNK s.heap j u) (hd : (∀ l, k ≠ .tup l) ∨ ∀ l, j ≠ .tup l) : SeqAt.EqAt A s v u (decide (k = j)) := by
 have tp : ∀ {a : Addr} {o : Obj} {items : Array Value} {n : Nat}, s.heap.get? a = some o → o.cls = .type "tuple" → o.data = .seq items n → s.heap.IsTuple a items := fun a b c => ⟨_, a, b, _, c⟩
 cases hk with
 | int i t =>
  cases hj with
  | int j t' =>
   rw [show decide (NK.int i = NK.int j) = (i == j) by rw [Bool.eq_iff_iff, decide_eq_true_iff, beq_iff_eq]; exact ⟨fun e => by cases e; rfl, fun e => by rw [e]⟩]
   exact SeqAt.EqAt.int_int _ _ _ _
  | str y t' => rw [decide_eq_false (by intro e; cases e)]; exact SeqAt.EqAt.int_str _ _ _ _
  | tup a b c _ => rw [decide_eq_false (by intro e; cases e)]; exact SeqAt.EqAt.int_tuple _ _ (tp a b c) hu
 | str x t =>
  cases hj with
  | int j t' => rw [decide_eq_false (by intro e; cases e)]; exact SeqAt.EqAt.str_int _ _ _ _
  | str y t' =>
   rw [show decide (NK.str x = NK.str y) = (x == y) by rw [Bool.eq_iff_iff, decide_eq_true_iff, beq_iff_eq]; exact ⟨fun e => by cases e; rfl, fun e => by rw [e]⟩]
   exact SeqAt.EqAt.str_str _ _ _ _
  | tup a b c _ => rw [decide_eq_false (by intro e; cases e)]; exact SeqAt.EqAt.str_tuple _ _ (tp a b c) hu
 | tup a b c _ =>
  cases hj with
  | int j t' => rw [decide_eq_false (by intro e; cases e)]; exact SeqAt.EqAt.tuple_int _ _ (tp a b c) hu
  | str y t' => rw [decide_eq_false (by intro e; cases e)]; exact SeqAt.EqAt.tuple_str _ _ (tp a b c) hu
  | tup _ _ _ _ =>
   rcases hd with h | h
   ·exact (h _ rfl).elim
   ·exact (h _ rfl).elim
theorem all_eq_list {α : Type} (l m : List α) (e : Nat → Bool) (he : ∀ (j : Nat) a b, l[j]? = some a → m[j]? = some b → (e j = true ↔ a = b)) : ((List.range (min l.length m.length)).all e && (l.length == m.length)) = true ↔ l = m := by
 rw [Bool.and_eq_true, List.all_eq_true, beq_iff_eq]
 constructor
 ·rintro ⟨h1, h2⟩
  refine List.ext_getElem? fun j => ?_
  by_cases hj : j < l.length
  ·have hj2 : j < m.length := by omega
   rw [List.getElem?_eq_getElem hj, List.getElem?_eq_getElem hj2]
   exact congrArg some ((he j _ _ (List.getElem?_eq_getElem hj) (List.getElem?_eq_getElem hj2)).1 (h1 j (List.mem_range.2 (by omega))))
  ·rw [List.getElem?_eq_none (by omega), List.getElem?_eq_none (by omega)]
 ·rintro rfl
  refine ⟨fun j hj => ?_, rfl⟩
  have hj := List.mem_range.1 hj
  have hj : j < l.length := by omega
  exact (he j _ _ (List.getElem?_eq_getElem hj) (List.getElem?_eq_getElem hj)).2 rfl
theorem nk_eq : ∀ (n : Nat) {A : Around} {s : Shared} {k j : NK} {v u : Value}, ndep k ≤ n → A.units + n < cLine → IsNK s.heap k v → IsNK s.heap j u → SeqAt.EqAt A s v u (decide (k = j)) := by
 intro n
 induction n with
 | zero =>
  intro A s k j v u hn hu hk hj
  refine nk_flat (by omega) hk hj (.inl fun l e => ?_)
  subst e
  unfold ndep at hn
  omega
 | succ n ih =>
  intro A s k j v u hn hu hk hj
  cases hk with
  | int i t => exact nk_flat (by omega) (.int i t) hj (.inl fun l e => by cases e)
  | str i t => exact nk_flat (by omega) (.str i t) hj (.inl fun l e => by cases e)
  | @tup a o items m l ho hc hd hi =>
   cases hj with
   | int i t => exact nk_flat (by omega) (.tup ho hc hd hi) (.int i t) (.inr fun l e => by cases e)
   | str i t => exact nk_flat (by omega) (.tup ho hc hd hi) (.str i t) (.inr fun l e => by cases e)
   | @tup a' o' items' m' l' ho' hc' hd' hi' =>
    have hnl : ndepL l ≤ n := by unfold ndep at hn; omega
    by_cases hab : a = a'
    ·subst hab
     have e := (IsNK.tup ho hc hd hi).inj (IsNK.tup ho' hc' hd' hi')
     rw [decide_eq_true e]
     exact SeqAt.EqAt.same _
    ·refine SeqAt.EqAt.of_refs hab ?_
     have s1 : items.size = l.length := by have := hi.len; simpa using this.symm
     have s2 : items'.size = l'.length := by have := hi'.len; simpa using this.symm
     have := SeqAt.RcAt.tuples (A := A) (s := s) (e := fun q => decide (l[q]? = l'[q]?)) ⟨o, ho, hc, m, hd⟩ ⟨o', ho', hc', m', hd'⟩ (by omega) (fun q h1 h2 => by
      have q1 : l[q]? = some l[q] := List.getElem?_eq_getElem (by omega)
      have q2 : l'[q]? = some l'[q] := List.getElem?_eq_getElem (by omega)
      obtain ⟨u1, f1, g1⟩ := hi.get q1
      obtain ⟨u2, f2, g2⟩ := hi'.get q2
      have e1 : items[q] = u1 := by rw [Array.getElem?_toList] at f1; rw [Array.getElem?_eq_getElem h1] at f1; exact Option.some.inj f1
      have e2 : items'[q] = u2 := by rw [Array.getElem?_toList] at f2; rw [Array.getElem?_eq_getElem h2] at f2; exact Option.some.inj f2
      rw [e1, e2]
      have := ih (A := A.in1) (Nat.le_trans (ndepL_mem (List.getElem_mem (by omega))) hnl) (by show A.units + 1 + n < cLine; omega) g1 g2
      rwa [show decide (l[q]? = l'[q]?) = decide (l[q] = l'[q]) by rw [q1, q2, decide_eq_decide, Option.some.injEq]])
     rw [s1, s2] at this
     have hfin : ((List.range (min l.length l'.length)).all (fun q => decide (l[q]? = l'[q]?)) && (l.length == l'.length)) = decide (NK.tup l = NK.tup l') := by
      rw [Bool.eq_iff_iff, decide_eq_true_iff, all_eq_list l l' _ fun j a b ha hb => by rw [decide_eq_true_iff, ha, hb, Option.some.injEq]]
      exact ⟨fun e => by rw [e], fun e => by cases e; rfl⟩
     rwa [hfin] at this
theorem nk_quiet : ∀ (n : Nat) {A : Around} {s : Shared} {k : NK} {v : Value} {Q : Bool → Shared → Prop}, ndep k ≤ n → IsNK s.heap k v → Q true s → wpAny (model prog w) A (eqIsQuiet n v) Q E s := by
 intro n
 induction n with
 | zero =>
  intro A s k v Q hn hk h
  cases hk with
  | int i t => rw [eqIsQuiet_byValue _ rfl]; exact wpAny_pure h
  | str x t => rw [eqIsQuiet_byValue _ rfl]; exact wpAny_pure h
  | tup _ _ _ _ => unfold ndep at hn; omega
 | succ n ih =>
  intro A s k v Q hn hk h
  cases hk with
  | int i t => rw [eqIsQuiet_byValue _ rfl]; exact wpAny_pure h
  | str x t => rw [eqIsQuiet_byValue _ rfl]; exact wpAny_pure h
  | @tup a o items m ks ho hc hd hi =>
   have ty : s.TypeIs (.ref a) "tuple" := ⟨o, ho, hc⟩
   have hnl : ndepL ks ≤ n := by unfold ndep at hn; omega
   unfold eqIsQuiet
   refine wpAny_bind (wpAny_specialOf ty F.slot_tuple_eq.lookup (wpAny_bind (m := isInstance (.ref a) (.type "tuple")) (wpAny_isInstance ty isSubtype_tuple_tuple ?_)))
   refine wpAny_ite_split (fun z => by cases z) fun _ => wpAny_bind (wpAny_seqItems ho hd (wpAny_bind (m := forIn items _ _) ?_))
   rw [← Array.forIn_toList]
   refine wpAny_forIn_list _ (fun rest acc s' => acc.1 = none ∧ s' = s ∧ ∃ post, (∀ k ∈ post, ndep k ≤ n) ∧ IsNKL s.heap post rest) _ ?_ ?_ _ _ ⟨rfl, rfl, ks, fun k hk => Nat.le_trans (ndepL_mem hk) hnl, hi⟩
   ·rintro v1 rest acc _ ⟨ha, rfl, post, hall, hl⟩
    cases hl with
    | @cons k _ post' _ h1 hl' => exact wpAny_bind (ih (hall k (by simp)) h1 (wpAny_ite_split (fun z => by cases z) fun _ => wpAny_pure ⟨rfl, rfl, post', fun u hu => hall u (List.mem_cons_of_mem _ hu), hl'⟩))
   ·rintro ⟨a1, a2⟩ _ ⟨ha, rfl, _⟩
    cases ha
    exact wpAny_pure h
end
noncomputable def nKind (prog : Program) (w : World) : HeapKind prog w NK where
 is := fun h k a => IsNK h k (.ref a) ∧ ndep k ≤ 8
 hash := nhash w
 draws := ndraw
 room := fun A => A.units + 8 < cLine
 inj := fun hx hy => hx.1.inj hy.1
 keeps := fun x ho hd hs => ⟨x.1.keeps ho hd hs, x.2⟩
 pyHash := fun hu hk h => nk_hash 8 hk.2 hu hk.1 h
 eqBool := fun hu hx hy h => nk_eq 8 hx.2 hu hx.1 hy.1 _ _ _ _ h
 quiet := fun hk h => nk_quiet 8 hk.2 hk.1 h
end L2
namespace L2
open PySem PySem.Spec PyProof.Rows PySem.Calls
mutual
inductive NIs (K : PySem.W.Frag) (H : Hp) : V → NK → Prop where
 | int (i : Int) : NIs K H (.int i) (.int i)
 | str (x : Str) : NIs K H (.str x) (.str x)
 | tup {a : Addr} {vs : List V} {l : List NK} : SqT K H a vs → NIsL K H vs l → NIs K H (.ref a) (.tup l)
inductive NIsL (K : PySem.W.Frag) (H : Hp) : List V → List NK → Prop where
 | nil : NIsL K H [] []
 | cons {v : V} {k : NK} {vs : List V} {ks : List NK} : NIs K H v k → NIsL K H vs ks → NIsL K H (v :: vs) (k :: ks)
end
section
variable {X : Cx} {pins : List (Addr × Obj)} {σ : St} {H : Hp} {s : Shared}
mutual
theorem NIs.isNK (I : Inv X pins σ H s) : ∀ {v : V} {k : NK} {u : Value}, NIs X.K H v k → RelV v u → IsNK s.heap k u
 | _, _, _, .int i, r => by obtain ⟨t, rfl⟩ := (show ∃ t, _ = Value.int i t from r); exact .int i t
 | _, _, _, .str x, r => by obtain ⟨t, rfl⟩ := (show ∃ t, _ = Value.str x t from r); exact .str x t
 | _, _, _, .tup (a := a) h l, r => by
  cases (show _ = Value.ref a from r)
  obtain ⟨its, r1, ⟨o, p1, p2, n, p3⟩, _⟩ := I.tuple h
  exact .tup p1 p2 p3 (NIsL.isNK I l (by simpa using r1))
theorem NIsL.isNK (I : Inv X pins σ H s) : ∀ {v : List V} {k : List NK} {u : List Value}, NIsL X.K H v k → Vals v u → IsNKL s.heap k u
 | _, _, _, .nil, r => by cases r; exact .nil
 | _, _, _, .cons h l, r => by
  cases r with
  | cons a b => exact .cons (NIs.isNK I h a) (NIsL.isNK I l b)
end
end
noncomputable def NAll (K : PySem.W.Frag) (H : Hp) (ks : List (NK × Addr × V)) : Prop := ∀ p ∈ ks, NIs K H (.ref p.2.1) p.1 ∧ ndep p.1 ≤ 8
noncomputable def valN (ks : List (NK × Addr × V)) (k : NK) : Option V := (ks.find? fun p => decide (p.1 = k)).map (·.2.2)
noncomputable def putN (ks : List (NK × Addr × V)) (k : NK) (b : Addr) (v : V) : List (NK × Addr × V) := if (valN ks k).isSome = true then ks.map (fun p => if p.1 = k then (p.1, p.2.1, v) else p) else ks ++ [(k, b, v)]
theorem length_putN (ks : List (NK × Addr × V)) (k : NK) (b : Addr) (v : V) : (putN ks k b v).length ≤ ks.length + 1 := by
 unfold putN
 split
 ·rw [List.length_map]; omega
 ·simp
noncomputable abbrev PN : List (NK × Addr × V) → List (NK × Addr × Value) → Prop := Paired fun (p : NK × Addr × V) (q : NK × Addr × Value) => p.1 = q.1 ∧ p.2.1 = q.2.1 ∧ RelV p.2.2 q.2.2
theorem PN.val {ks : List (NK × Addr × V)} {xs : List (NK × Addr × Value)} (r : PN ks xs) (k : NK) : RelO (valN ks k) ((atKey xs k).map (·.2)) := by
 induction r with
 | nil => exact True.intro
 | @cons p q ps qs h t ih =>
  obtain ⟨h1, _, h2⟩ := h
  by_cases e : p.1 = k
  ·have e' : q.1 = k := h1.symm.trans e
   have b : atKey (q :: qs) k = some q.2 := by simp [atKey, List.find?_cons, e']
   have a : valN (p :: ps) k = some p.2.2 := by simp [valN, List.find?_cons, e]
   rw [a, b]; exact h2
  ·have e' : ¬ q.1 = k := fun z => e (h1.trans z)
   have b : atKey (q :: qs) k = atKey qs k := by simp [atKey, List.find?_cons, e']
   have a : valN (p :: ps) k = valN ps k := by simp [valN, List.find?_cons, e]
   rw [a, b]; exact ih
theorem PN.put {ks : List (NK × Addr × V)} {xs : List (NK × Addr × Value)} (r : PN ks xs) (k : NK) {b : Addr} {y : V} {u : Value} (ry : RelV y u) : PN (putN ks k b y) (storedH xs k b u) := by
 have e : (valN ks k).isSome = (atKey xs k).isSome := by rw [(r.val k).isSome_eq, Option.isSome_map]
 unfold putN storedH
 rw [e]
 by_cases q : (atKey xs k).isSome = true
 ·rw [if_pos q, if_pos q]
  clear q e
  induction r with
  | nil => exact .nil
  | @cons p q ps qs h t ih =>
   rw [List.map_cons, List.map_cons]
   refine .cons ?_ ih
   obtain ⟨h1, h2, h3⟩ := h
   unfold putAt
   by_cases e : p.1 = k
   ·rw [if_pos e, if_pos (h1.symm.trans e)]; exact ⟨h1, h2, ry⟩
   ·rw [if_neg e, if_neg (fun z => e (h1.trans z))]; exact ⟨h1, h2, h3⟩
 ·rw [if_neg q, if_neg q]; exact Paired.snoc r ⟨rfl, rfl, ry⟩
theorem PN.all {P : NK → Addr → Prop} {ks : List (NK × Addr × V)} {xs : List (NK × Addr × Value)} (r : PN ks xs) (h : ∀ p ∈ ks, P p.1 p.2.1) : ∀ x ∈ xs, P x.1 x.2.1 := by
 induction r with
 | nil => intro x hx; cases hx
 | @cons p q ps qs h' t ih =>
  intro x hx
  rcases List.mem_cons.1 hx with rfl | hx
  ·obtain ⟨e1, e2, _⟩ := h'
   rw [← e1, ← e2]
   exact h p (by simp)
  ·exact ih (fun p hp => h p (by simp [hp])) x hx
section
variable {X : Cx} {pins : List (Addr × Obj)} {σ : St} {H : Hp} {s : Shared} {a : Addr}
theorem dn_of {ks : List (NK × Addr × V)} (I : Inv X pins σ H s) (e : H a = some (.dN ks)) (hk : NAll X.K H ks) : ks.length ≤ sizeLine ∧ (a == sysModules) = false ∧ ∃ xs, PN ks xs ∧ s.heap.DictOfH (nKind X.prog X.w) a xs := by
 obtain ⟨z, y, xs, r, o, es, ep, h1, h2, h3, h4, h5⟩ := (show ObjOk X.prog X.w H s.heap a (.dN ks) from I.hok a _ e)
 refine ⟨z, y, xs, r, o, es, ep, h1, h2, h3, h4, ?_, h5⟩
 exact PN.all r (P := fun k b => (nKind X.prog X.w).is s.heap k b) fun p hp => ⟨(hk p hp).1.isNK I rfl, (hk p hp).2⟩
theorem dk_nil (I : Inv X pins σ H s) (e : H a = some (.dK [])) : (a == sysModules) = false ∧ s.heap.DictOfH (nKind X.prog X.w) a [] := by
 obtain ⟨z, y, vs, r, o, es, ep, h1, h2, h3, h4, h5, _⟩ := dk_of I.hok e
 cases r
 refine ⟨y, o, es, ep, h1, h2, h3, ?_, by simp, by simp⟩
 have : es.toList = [] := by
  have := h5.length
  simpa using this
 rw [this]
 rfl
end
noncomputable def DGetN (K : PySem.W.Frag) (H : Hp) (a : Addr) (y : V) (r : Option V) : Prop :=
 DGet H a y r ∨ ∃ k b, y = .ref b ∧ NIs K H y k ∧ ndep k ≤ 8 ∧ ((∃ ks, H a = some (.dN ks) ∧ NAll K H ks ∧ r = valN ks k) ∨ (H a = some (.dK []) ∧ r = none))
noncomputable def DPutN (K : PySem.W.Frag) (H : Hp) (a : Addr) (y v : V) (H' : Hp) : Prop :=
 DPut H a y v H' ∨ ∃ k b, y = .ref b ∧ NIs K H y k ∧ ndep k ≤ 8 ∧ ((∃ ks, H a = some (.dN ks) ∧ NAll K H ks ∧ ks.length < sizeLine ∧ H' = upd H a (.dN (putN ks k b v))) ∨ (H a = some (.dK []) ∧ H' = upd H a (.dN [(k, b, v)])))
section
variable {X : Cx} {pins : List (Addr × Obj)} {σ : St} {H : Hp} {s : Shared} {a : Addr} {y v d : V} {u r : Value} {o : Option V} {A : Around} {E : Value → Shared → Prop}
theorem dgN {k : NK} (I : Inv X pins σ H s) (h : (∃ ks, H a = some (.dN ks) ∧ NAll X.K H ks ∧ o = valN ks k) ∨ (H a = some (.dK []) ∧ o = none)) : (a == sysModules) = false ∧ ∃ xs, s.heap.DictOfH (nKind X.prog X.w) a xs ∧ RelO o ((atKey xs k).map (·.2)) := by
 rcases h with ⟨ks, e, hk, rfl⟩ | ⟨e, rfl⟩
 ·obtain ⟨_, hd, xs, rel, dd⟩ := dn_of I e hk
  exact ⟨hd, xs, dd, rel.val k⟩
 ·obtain ⟨hd, dd⟩ := dk_nil I e
  exact ⟨hd, [], dd, True.intro⟩
theorem d_getItemN {Q : Value → Shared → Prop} (hu : A.units + 9 < cLine) (I : Inv X pins σ H s) (g : DGetN X.K H a y (some v)) (ry : RelV y u) (h : ∀ w' s', Inv X pins σ H s' → RelV v w' → Q w' s') : wpAny (model X.prog X.w) A (getItem (.ref a) u) Q E s := by
 rcases g with g | ⟨k, b, rfl, hk, hd, g⟩
 ·exact d_getItem (by omega) I g ry h
 ·cases (show u = Value.ref b from ry)
  obtain ⟨_, xs, dd, rel⟩ := dgN I g
  obtain ⟨w', hw, rw'⟩ := RelO.some_of rel
  obtain ⟨p, hp, hp2⟩ := Option.map_eq_some_iff.mp hw
  refine wpAny_getItem_heap (knd := nKind X.prog X.w) (by show A.units + 1 + 8 < cLine; omega) ⟨hk.isNK I rfl, hd⟩ dd hp ?_
  rw [hp2]
  exact h w' _ (I.tok _) rw'
theorem d_notInN {Q : Value → Shared → Prop} (hu : A.units + 9 < cLine) (I : Inv X pins σ H s) (g : DGetN X.K H a y o) (ry : RelV y u) (h : ∀ s', Inv X pins σ H s' → Q (.bool (!o.isSome)) s') : wpAny (model X.prog X.w) A (compareOp .NotIn u (.ref a)) Q E s := by
 rcases g with g | ⟨k, b, rfl, hk, hd, g⟩
 ·exact d_notIn (by omega) I g ry h
 ·cases (show u = Value.ref b from ry)
  obtain ⟨hs, xs, dd, rel⟩ := dgN I g
  refine wpAny_notIn_heap (knd := nKind X.prog X.w) (by show A.units + 1 + 8 < cLine; omega) ⟨hk.isNK I rfl, hd⟩ hs dd ?_
  have q := rel.isSome_eq
  rw [Option.isSome_map] at q
  rw [← q]
  exact h _ (I.tok _)
theorem d_setItemN {H' : Hp} {Q : Unit → Shared → Prop} (hu : A.units + 9 < cLine) (I : Inv X pins σ H s) (g : DPutN X.K H a y v H') (ry : RelV y u) (rv : RelV v r) (h : ∀ s', Inv X pins σ H' s' → Q () s') :
  wpAny (model X.prog X.w) A (setItem (.ref a) u r) Q E s := by
 rcases g with g | ⟨k, b, rfl, hk, hd, ⟨ks, e, hks, hl, rfl⟩ | ⟨e, rfl⟩⟩
 ·exact d_setItem (by omega) I g ry rv h
 ·cases (show u = Value.ref b from ry)
  obtain ⟨z, hs, xs, rel, dd⟩ := dn_of I e hks
  have hz : xs.length ≤ sizeLine := by rw [← Paired.length rel]; exact z
  have hl2 : (putN ks k b v).length ≤ sizeLine := by have := length_putN ks k b v; omega
  refine wpAny_setItem_heap (knd := nKind X.prog X.w) (hsz := hz) (by show A.units + 1 + 8 < cLine; omega) ⟨hk.isNK I rfl, hd⟩ dd fun h' dd' hs' => h _ ?_
  obtain ⟨q, es, ep, hq, h2, h3, h4, _, h5⟩ := dd'
  exact d_write I (by rw [e]; exact True.intro) hs' ⟨q, hq⟩ ⟨hl2, hs, _, rel.put k rv, q, es, ep, hq, h2, h3, h4, h5⟩
 ·cases (show u = Value.ref b from ry)
  obtain ⟨hs, dd⟩ := dk_nil I e
  refine wpAny_setItem_heap (knd := nKind X.prog X.w) (hsz := Nat.zero_le _) (by show A.units + 1 + 8 < cLine; omega) ⟨hk.isNK I rfl, hd⟩ dd fun h' dd' hs' => h _ ?_
  obtain ⟨q, es, ep, hq, h2, h3, h4, _, h5⟩ := dd'
  refine d_write I (by rw [e]; exact True.intro) hs' ⟨q, hq⟩ ⟨by simp; decide, hs, _, ?_, q, es, ep, hq, h2, h3, h4, h5⟩
  exact .cons ⟨rfl, rfl, rv⟩ .nil
theorem dict_typeIsN (I : Inv X pins σ H s) (g : DGetN X.K H a y o) : s.TypeIs (.ref a) "dict" := by
 rcases g with g | ⟨k, b, rfl, hk, hd, g⟩
 ·exact dict_typeIs I g
 ·obtain ⟨_, xs, dd, _⟩ := dgN I g
  exact dd.typeIs
end
noncomputable def tDGetN (K : PySem.W.Frag) (td ty : TE) : TE := fun σ H Q => td σ H fun x H1 => ty σ H1 fun y H2 => ∃ a v, x = .ref a ∧ DGetN K H2 a y (some v) ∧ Q v H2
noncomputable def tDInN (K : PySem.W.Frag) (neg : Bool) (ty td : TE) : TE := fun σ H Q => ty σ H fun y H1 => td σ H1 fun x H2 => ∃ a o, x = .ref a ∧ DGetN K H2 a y o ∧ Q (.bl (neg != o.isSome)) H2
noncomputable def sDPutN (K : PySem.W.Frag) (td ty tv : TE) : TS := fun D σ H => tv σ H fun v H1 => td σ H1 fun x H2 => ty σ H2 fun y H3 => ∃ a H4, x = .ref a ∧ DPutN K H3 a y v H4 ∧ D.nx σ H4
section
variable {X : Cx} {o i e f value : Expr} {pos pos' tpos apos cpos : Pos} {td ty tv tx : TE} {K : PySem.W.Frag} {r : Nat}
theorem room9 (hr : Room r X.A) : X.A.units + 9 < cLine := by have := hr.un; omega
theorem pe_dgetN (hr : Room r X.A) (ho : PE X o td) (hi : PE X i ty) (hs : NoSl i) (hK : X.K = K := by rfl) : PE X (.Subscript o i pos) (tDGetN K td ty) := by
 subst hK
 intro pins s σ H Q I h
 refine subD_of PySem.F.slot_dict_getitem.lookup hs (thn (ho pins s σ H _ I h) fun u s1 ⟨x, H1, I1, rx, q1⟩ => thn (hi pins s1 σ H1 _ I1 q1) fun iv s2 ⟨y, H2, I2, ry, a, v, ex, g, q2⟩ => ?_)
 subst ex
 obtain rfl : u = Value.ref a := rx
 exact ⟨dict_typeIsN I2 g, d_getItemN (room9 hr) I2 g ry fun w' s3 I3 rw' => ⟨v, H2, I3, rw', q2⟩⟩
theorem pc_dnotinN (hr : Room r X.A) (hi : PE X i ty) (ho : PE X o td) (hK : X.K = K := by rfl) : PC X .NotIn i o (tDInN K true ty td) := by
 subst hK
 intro pins s σ H Q I h
 refine thn (hi pins s σ H _ I h) fun iv s1 ⟨y, H1, I1, ry, q1⟩ => thn (ho pins s1 σ H1 _ I1 q1) fun u s2 ⟨x, H2, I2, rx, a, ov, ex, g, q2⟩ => ?_
 subst ex
 obtain rfl : u = Value.ref a := rx
 exact d_notInN (room9 hr) I2 g ry fun s3 I3 => ⟨.bl (true != ov.isSome), H2, I3, by cases ov.isSome <;> rfl, q2⟩
theorem ps_dputN (hr : Room r X.A) (ho : PE X o td) (hi : PE X i ty) (hv : PE X value tv) (hs : swapsWith value (some (.Subscript o i pos')) pos.line X.env = pure false) (hK : X.K = K := by rfl) :
  PS X (.Assign [.Subscript o i pos'] value pos) (sDPutN K td ty tv) := by
 subst hK
 intro pins s σ H D I h
 refine wpAny_Assign_Subscript (thn (hv pins s σ H _ I h) fun r s1 ⟨v, H1, I1, rv, q1⟩ => thn (ho pins s1 σ H1 _ I1 q1) fun u s2 ⟨x, H2, I2, rx, q2⟩ => thn (hi pins s2 σ H2 _ I2 q2) fun iv s3 ⟨y, H3, I3, ry, a, H4, ex, g, q3⟩ => ?_) hs
 subst ex
 obtain rfl : u = Value.ref a := rx
 exact d_setItemN (room9 hr) I3 g ry rv fun s4 I4 => ⟨σ, H4, I4, q3⟩
end
end L2
namespace L2
open PySem PySem.Spec PyProof.Rows PySem.Calls PySem.W
section
variable {prog : Program} {w : World} {A : Around} {E : Value → Shared → Prop} {s : Shared} {d it : Addr} {es : Array DictEntry} {ep i : Nat}
end
end L2
namespace L2
open PySem PySem.Spec PyProof.Rows PySem.Calls PySem.W
section
variable {prog : Program} {w : World} {A : Around} {E : Value → Shared → Prop} {s : Shared}
end
end L2
namespace L2
open PySem PySem.Spec PyProof.Rows PySem.Calls PySem.W
section
variable {prog : Program} {w : World} {A : Around} {E : Value → Shared → Prop} {s : Shared} {T : String} {r d : Addr} {n : Nat} {P : Nat → Value → Prop} {OK : Heap → Prop} {Q : Value → Shared → Prop}
end
section
variable {X : Cx}
end
end L2
namespace L2
open PySem PySem.Spec PyProof.Rows PySem.Calls
open AutoSeq1 (wpAny_loadPart')
theorem rv_noLen : typeLookup (.type "reversed") "__len__" = pure none := by rw [typeLookup_type, builtinLookup_eq_fast]; kernel_rfl
theorem rv_hint : typeLookup (.type "reversed") "__length_hint__" = pure (some (.builtin "reversed.__length_hint__")) := by rw [typeLookup_type, builtinLookup_eq_fast]; kernel_rfl
section
variable {prog : Program} {w : World} {A : Around} {E : Value → Shared → Prop} {s : Shared} {it t : Addr} {its : Array Value}
theorem rv_walks (hh : A.handled = none) (hne : t ≠ it) (hz : (its.size : Int) < 2 ^ 63) : Walks prog w A it [it, t] [it] its.size (fun i v => its[its.size - 1 - i]? = some v) (fun i h => i ≤ its.size ∧ IsRv h it t ((its.size : Int) - 1 - (i : Int)) ∧ IsTup h t its) where
 sub := fun b hb => by simp at hb; simp [hb]
 frame := fun _ _ _ st hk => ⟨st.1, hk it (by simp) _ st.2.1, by obtain ⟨o, h1, h2⟩ := st.2.2; exact ⟨o, hk t (by simp) _ h1, h2⟩⟩
 item := fun i s Q E hi st hQ => by
  have e : (its.size : Int) - 1 - (i : Int) = ((its.size - 1 - i : Nat) : Int) := by omega
  have hx : its[its.size - 1 - i]? = some (its[its.size - 1 - i]'(by omega)) := Array.getElem?_eq_getElem (by omega)
  have s1 := st.2.1
  rw [e] at s1
  refine rvT_item s1 st.2.2 hx (by omega) fun h' tk hit' sb => ?_
  have e2 : ((its.size - 1 - i : Nat) : Int) - 1 = (its.size : Int) - 1 - ((i + 1 : Nat) : Int) := by omega
  rw [e2] at hit'
  exact hQ _ h' tk hx ⟨hi, hit', by obtain ⟨o, h1, h2⟩ := st.2.2; exact ⟨o, (sb.2 t hne).trans h1, h2⟩⟩ fun b o hb e => (sb.2 b (fun h => hb (by simp [h]))).trans e
 done := fun s Q E st hQ => by
  have s1 := st.2.1
  rw [show (its.size : Int) - 1 - ((its.size : Nat) : Int) = -1 by omega] at s1
  exact rvT_end hh s1 fun h' he' => hQ h' s.toks fun b o hb e => he' b o (fun h => hb (by simp [h])) e
 self := fun _ _ _ _ st hQ => rvT_iter st.2.1 hQ
theorem rv_hintS : Slot "reversed" "__length_hint__" "reversed.__length_hint__" := .of (owner := "reversed") (n := "__length_hint__") (by rw [typeLookup_type, builtinLookup_eq_fast]; kernel_rfl) (by decide +kernel) (by decide +kernel) (by decide +kernel) (by first | exact .inl (by decide +kernel) | exact .inr (by decide +kernel)) (by rw [isSubtype_type]; kernel_rfl)
theorem rv_entryHint : entryFor table "reversed.__length_hint__" = some Builtin.«reversed.__length_hint__» := entryFor_of_tree (by kernel_rfl)
theorem rv_argsHint (a : Value) : argsOk "reversed.__length_hint__" ⟨[a], []⟩ := by
 unfold argsOk; rw [signature?_of (id := "reversed.__length_hint__") (n := ['_', '_', 't', 'n', 'i', 'h', '_', 'h', 't', 'g', 'n', 'e', 'l', '_', '_']) (o := ['d', 'e', 's', 'r', 'e', 'v', 'e', 'r']) (by kernel_rfl) rv_owner]; kernel_rfl
theorem rv_bind (self : Value) : bindSpecial (.builtin "reversed.__length_hint__") self = pure (.builtin "reversed.__length_hint__", [self]) := by
 first | rfl | kernel_rfl | (unfold bindSpecial; kernel_rfl)
theorem rv_hintCall {Q : Value → Shared → Prop} (hit : IsRv s.heap it t ((its.size : Int) - 1)) (ht : IsTup s.heap t its) (hz : (its.size : Int) < 2 ^ 63) (q : ∀ tok tk, Q (.int its.size tok) { s with toks := tk }) : wpAny (model prog w) A (call (.builtin "reversed.__length_hint__") [.ref it]) Q E s := by
 have hT : s.TypeIs (.ref it) "reversed" := ⟨_, hit, rfl⟩
 refine wpAny_call_entry rv_hintS hT rv_entryHint ?_ (rv_argsHint _)
 unfold Builtin.«reversed.__length_hint__»
 refine wpAny_bind (wpAny_of_eq (a := Value.ref it) rfl ?_)
 refine wpAny_bind (wpAny_field hit rfl (x := .ref t) rfl ?_)
 refine wpAny_ite_split (c := (Value.ref t == Value.none) = true) (fun z => by cases z) fun _ => ?_
 refine wpAny_bind (len_tuple ht hz ?_)
 refine wpAny_bind (wpAny_of_eq (a := some (its.size : Int)) rfl ?_)
 dsimp only
 refine wpAny_bind (wpAny_field (s := { s with toks := s.toks + 1 + 1 }) hit rfl (x := rawInt ((its.size : Int) - 1)) rfl ?_)
 show wpAny _ _ (if (its.size : Int) < (its.size : Int) - 1 + 1 then _ else retInt ((its.size : Int) - 1 + 1)) _ _ _
 rw [if_neg (by omega), show (its.size : Int) - 1 + 1 = its.size by omega]
 refine wpAny_ret_mkInt ?_
 exact q _ _
theorem rv_len {Q : Bool → Shared → Prop} (hit : IsRv s.heap it t ((its.size : Int) - 1)) (ht : IsTup s.heap t its) (hn : its.size ≤ sizeLine) (hz : (its.size : Int) < 2 ^ 63) (q : ∀ tk, Q ((its.size : Int) != 0) { s with toks := tk }) : wpAny (model prog w) A (Builtin.List.listLengthHint (.ref it)) Q E s := by
  have ty : s.TypeIs (.ref it) "reversed" := ⟨_, hit, rfl⟩
  unfold Builtin.List.listLengthHint
  refine wpAny_bind (wpAny_specialOf ty rv_noLen ?_)
  refine wpAny_bind (m := specialOf (Value.ref it) (Str.ofString "__length_hint__")) (wpAny_specialOf ty rv_hint ?_)
  (generalize hid : ("reversed.__length_hint__" : String) = id0; (fail_if_success (clear hid id0)); wp_delta; rw [show splitId id0 = some ("reversed", "__length_hint__") from by subst hid; decide +kernel]; subst hid)
  refine wpAny_bind (wpAny_isInstance (b := true) ty (by rw [isSubtype_type]; kernel_rfl) ?_)
  rw [if_neg (by decide)]
  dsimp only
  rw [if_neg (by decide)]
  refine wpAny_bind (wpAny_rule ?_)
  refine wpAny_bind (wpAny_of_eq (rv_bind _) ?_)
  dsimp only
  refine wpAny_bind (wpAny_attempt (rv_hintCall hit ht hz fun tok tk => ?_))
  dsimp only
  have ai : asInt? (Value.int (its.size : Int) tok) = pure (some (its.size : Int)) := rfl
  rw [ai, pure_bind]
  dsimp only
  rw [if_neg (by have h1 : Builtin.List.listFitsIndex (its.size : Int) = true := by unfold Builtin.List.listFitsIndex; rw [Bool.and_eq_true]; exact ⟨decide_eq_true (by omega), decide_eq_true hz⟩
                 rw [h1]; decide), if_neg (by omega), if_neg (by unfold Builtin.List.listTooLong; rw [Int.toNat_natCast]; intro z; exact absurd (of_decide_eq_true z) (Nat.not_lt.2 hn))]
  exact wpAny_pure (q tk)
theorem collect_rv {R : List Value → Shared → Prop} (hh : A.handled = none) (hn : its.size ≤ sizeLine) (hz : (its.size : Int) < 2 ^ 63) (hit : IsRv s.heap it t ((its.size : Int) - 1)) (ht : IsTup s.heap t its) (hne : t ≠ it)
  (q : ∀ (g : Heap) (k : Nat) (xs : Array Value), (∀ b o, b ≠ it → s.heap.get? b = some o → g.get? b = some o) → s.heap.objs.size ≤ g.objs.size → ItemsOf (fun i v => its[its.size - 1 - i]? = some v) xs its.size → R xs.toList { s with heap := g, toks := k }) :
  wpAny (model prog w) A (collect (.ref it)) R E s := by
 have lt1 : it < s.heap.objs.size := Heap.lt_size hit
 have lt2 : t < s.heap.objs.size := let ⟨_, e, _⟩ := ht; Heap.lt_size e
 unfold collect
 refine wpAny_bind (wpAny_runValue (codeAny_builtin entry_proto_collect' ?_))
 rw [Around.under_plainId PySem.F.plain_proto_collect _]
 refine wpAny_bind (m := newList []) (wpAny_newObj_type (wpAny_pure ⟨plainId_quiet PySem.F.plain_list_iadd _, codeAny_builtin entry_list_iadd' ?_⟩))
 rw [Around.under_plainId PySem.F.plain_list_iadd _]
 have at0 : (s.heap.push { cls := .type "list", data := .seq ([] : List Value).toArray }).get? s.heap.objs.size = some { cls := .type "list", data := .seq #[] } := Heap.get?_push_size _ rfl
 have old0 : ∀ b o, s.heap.get? b = some o → (s.heap.push { cls := .type "list", data := .seq ([] : List Value).toArray }).get? b = some o := fun b o e => Heap.get?_push_of_some _ e
 generalize s.heap.push { cls := .type "list", data := .seq ([] : List Value).toArray } = g0 at at0 old0 ⊢
 have hit1 : IsRv g0 it t ((its.size : Int) - 1) := old0 _ _ hit
 have ht1 : IsTup g0 t its := by obtain ⟨o, h1, h2⟩ := ht; exact ⟨o, old0 _ _ h1, h2⟩
 have ty : ({ s with heap := g0 } : Shared).TypeIs (.ref it) "reversed" := ⟨_, hit1, rfl⟩
 have W := (rv_walks (prog := prog) (w := w) (A := A.in1) (it := it) (t := t) (its := its) hh hne hz).toS
 have out : s.heap.objs.size ∉ [it, t] := fun hm => by
  rcases List.mem_cons.mp hm with e | hm
  ·exact Nat.ne_of_gt lt1 e
  ·exact Nat.ne_of_gt lt2 (List.mem_singleton.mp hm)
 have walk : ∀ (g : Heap) (tk c : Nat), (∀ b o, b ≠ s.heap.objs.size → g0.get? b = some o → g.get? b = some o) → g.get? s.heap.objs.size = some { cls := .type "list", dict := none, data := .seq #[] c, slots := #[] } →
   codeAny (model prog w) A (.builtin "list.extend.loop" ⟨[.ref s.heap.objs.size, .ref it, .ref s.heap.objs.size], []⟩) (fun r s' => match r with
    | .ok (.ret v) => wpAny (model prog w) A (match v with
     | .ref a => do
      match (← load a).data with
      | .seq xs _ => pure xs.toList
      | _ => unsupported "internal:collect"
     | _ => unsupported "internal:collect") R E s'
    | .ok _ => False
    | .error e => E e s') { s with heap := g, toks := tk } := by
  intro g tk c hg hS
  have o1 : ∀ b o, s.heap.get? b = some o → g.get? b = some o := fun b o e => hg b o (Nat.ne_of_lt (Heap.lt_size e)) (old0 b o e)
  have st0 : 0 ≤ its.size ∧ IsRv g it t ((its.size : Int) - 1 - ((0 : Nat) : Int)) ∧ IsTup g t its := ⟨Nat.zero_le _, by simpa using o1 _ _ hit, by obtain ⟨o, h1, h2⟩ := ht; exact ⟨o, o1 _ _ h1, h2⟩⟩
  refine codeAny_extend_loopS W hn _ out _ its.size 0 _ _ _ rfl (Nat.zero_le _) st0 hS (ItemsOf.nil _) fun s' acc' c' hm hS' hacc => ?_
  rw [Moved.eq_with hm]
  have kp : ∀ b o, b ≠ it → s.heap.get? b = some o → s'.heap.get? b = some o := fun b o hb e => hm.heap b o (fun hmem => by
   rcases List.mem_cons.mp hmem with e' | hmem
   ·exact Nat.ne_of_lt (Heap.lt_size e) e'
   ·exact hb (List.mem_singleton.mp hmem)) (o1 b o e)
  exact wpAny_bind (wpAny_load hS' (wpAny_pure (q s'.heap s'.toks acc' kp (Nat.le_of_lt (Heap.lt_size hS')) hacc)))
 change wpAny (model prog w) A.in1 (Builtin.List.listExtendWith (.ref s.heap.objs.size) (.ref it) (.ref s.heap.objs.size)) _ _ _
 unfold Builtin.List.listExtendWith
 refine wpAny_bind (wpAny_typeOf (T := "reversed") ty ?_)
 have h1 : Builtin.List.listSameRef (.ref s.heap.objs.size) (.ref it) = false := by simp [Builtin.List.listSameRef]; exact Nat.ne_of_gt lt1
 rw [if_neg (by rw [h1]; decide)]
 refine wpAny_bind (rvT_iter hit1 (wpAny_bind (wpAny_holding (rv_len hit1 ht1 hn hz fun tk => ?_))))
 dsimp only
 refine wpAny_ite_split (fun _ => wpAny_bind (wpAny_rule (wpAny_bind ?_))) fun _ => wpAny_pure ⟨plainId_quiet F.plain_extend_loop _, walk g0 tk 0 (fun b o _ e => e) at0⟩
 unfold Builtin.List.listTouch
 obtain ⟨e1, at1⟩ : ∃ c, (g0.update s.heap.objs.size (Obj.mapSeq (·.push Value.none))).get? s.heap.objs.size = some (seqObj "list" #[Value.none] c) := ⟨_, get?_update_seq at0 (·.push Value.none)⟩
 obtain ⟨e2, at2⟩ : ∃ c, ((g0.update s.heap.objs.size (Obj.mapSeq (·.push Value.none))).update s.heap.objs.size (Obj.mapSeq (·.pop))).get? s.heap.objs.size = some (seqObj "list" #[] c) := ⟨_, get?_update_seq at1 (·.pop)⟩
 refine wpAny_bind (listUpdate_at at0 rfl (listUpdate_at (s := { s with heap := g0.update s.heap.objs.size (Obj.mapSeq (·.push Value.none)), toks := tk }) at1 rfl (wpAny_pure ⟨plainId_quiet F.plain_extend_loop _, walk _ tk e2 (fun b o hb e => ?_) at2⟩) (by decide) (by decide)) (by decide) (by decide))
 rw [Heap.get?_update_ne _ _ _ _ hb, Heap.get?_update_ne _ _ _ _ hb]
 exact e
theorem call_tupleRv {Q : Value → Shared → Prop} (hh : A.handled = none) (hn : its.size ≤ sizeLine) (hz : (its.size : Int) < 2 ^ 63) (hit : IsRv s.heap it t ((its.size : Int) - 1)) (ht : IsTup s.heap t its) (hne : t ≠ it)
  (q : ∀ (g : Heap) (k : Nat) (xs : Array Value), (∀ b o, b ≠ it → s.heap.get? b = some o → g.get? b = some o) → s.heap.objs.size ≤ g.objs.size → ItemsOf (fun i v => its[its.size - 1 - i]? = some v) xs its.size → Q (.ref g.objs.size) { s with heap := g.push { cls := .type "tuple", data := .seq xs }, toks := k }) :
  wpAny (model prog w) A (call (.type "tuple") [.ref it]) Q E s := by
 have ty : s.TypeIs (.ref it) "reversed" := ⟨_, hit, rfl⟩
 refine callType_codes (Q₁ := fun obj s₁ => s₁.TypeIs obj "tuple" ∧ Q obj s₁) F.called_tuple (F.typeCall_tuple_1 _) F.entry_object_init ?_ fun obj s₁ h₁ => ⟨h₁.1, F.args_object_init_2 obj _, object_init_meets F.called_tuple.init.lookup F.called_tuple.made (by decide) prog w A.in1 _ s₁ ⟨h₁.1, rfl, h₁.2⟩⟩
 refine codeAny_of_tree ?_
 show wpAny _ A.in1.in1 (do checkBuiltinCall "tuple.__new__" ⟨[.type "tuple", .ref it], []⟩; again (.builtin "tuple.__new__" ⟨[.type "tuple", .ref it], []⟩)) _ _ s
 have qu := plainId_quiet F.plain_tuple_new ⟨[Value.type "tuple", Value.ref it], []⟩
 refine wpAny_bind (wpAny_of_eq (F.newCall_tuple_1 (.ref it)) (wpAny_pure ⟨qu, codeAny_builtin F.entry_tuple_new ?_⟩))
 rw [Around.under_plainId F.plain_tuple_new _]
 have f1 := sub_tuple_self
 have f2 := init_tuple_lookup
 have f3 := madeHere_tuple
 have coll : ∀ {A' : Around} {E' : Value → Shared → Prop} {R : List Value → Shared → Prop}, A'.handled = none → (∀ (g : Heap) (k : Nat) (xs : Array Value), (∀ b o, b ≠ it → s.heap.get? b = some o → g.get? b = some o) → s.heap.objs.size ≤ g.objs.size → ItemsOf (fun i v => its[its.size - 1 - i]? = some v) xs its.size → R xs.toList { s with heap := g, toks := k }) → wpAny (model prog w) A' (collect (.ref it)) R E' s := fun h q => collect_rv h hn hz hit ht hne q
 wp_walk using wpAny_typeOf ty, coll (A' := A.in1.in1) hh
 intro g k xs kp sz hx
 show wpAny _ _ (Builtin.Tuple.tupleExact xs.toList.toArray >>= fun v => ret v) _ _ _
 unfold Builtin.Tuple.tupleExact
 have e : xs.toList.toArray = xs := by simp
 rw [e]
 exact wpAny_bind (wpAny_newObj_type (wpAny_pure ⟨⟨_, Heap.get?_push_size _ rfl, rfl⟩, q g k xs kp sz hx⟩) (by show xs.size ≤ sizeLine; rw [hx.1]; exact hn))
end
section
variable {X : Cx}
noncomputable def tTupRev (K : PySem.W.Frag) (te : TE) : TE := fun σ H Q => te σ H fun x H1 => ∃ p ys, x = .ref p ∧ SqT K H1 p ys ∧ ∀ l, H1 l = none → Q (.ref l) (upd H1 l (.tup ys.reverse))
theorem pe_tupRev {K : PySem.W.Frag} {e : Expr} {te : TE} {p p2 pos pos2 : Pos} (hc : X.calm = true) (hg : Gl X "tuple") (hm : X.mg "tuple" = none) (hg2 : Gl X "reversed") (hm2 : X.mg "reversed" = none) (ha : PE X e te) (hK : X.K = K := by rfl)
  (he2 : starEach [e] X.env = [(false, eval e X.env)] := by rfl) (he : starEach [.Call (.Name "reversed" p2) [e] [] pos2] X.env = [(false, eval (.Call (.Name "reversed" p2) [e] [] pos2) X.env)] := by rfl) :
  PE X (.Call (.Name "tuple" p) [.Call (.Name "reversed" p2) [e] [] pos2] [] pos) (tTupRev K te) := by
 subst hK
 intro pins s σ H Q I h
 refine wpAny_Call_Name_kw (ld_blt I hg hm boot_tuple ?_ (by decide) (by decide))
 refine PyProof.Rows.callWith_type1 ?_ he rfl
 rw [he]
 show wpAny _ _ (spliced ((false, eval (.Call (.Name "reversed" p2) [e] [] pos2) X.env) :: backTo pos [])) _ _ s
 refine Calls.spliced_cons ?_
 refine wpAny_Call_Name_kw (ld_blt I hg2 hm2 Boot.«reversed» ?_ (by decide) (by decide))
 refine PyProof.Rows.callWith_type1 ?_ he2 rfl
 refine thn (pa_cons ha pa_nil he2 pos2 pins s σ H (fun vs H1 => ∃ p ys, vs = [.ref p] ∧ SqT X.K H1 p ys ∧ ∀ l, H1 l = none → Q (.ref l) (upd H1 l (.tup ys.reverse))) I ?_) fun us s1 ⟨vs, H1, I1, r1, q1⟩ => ?_
 ·have h : te σ H fun x H1 => ∃ p ys, x = .ref p ∧ SqT X.K H1 p ys ∧ ∀ l, H1 l = none → Q (.ref l) (upd H1 l (.tup ys.reverse)) := h
  have e : (fun (x : V) (H1 : Hp) => ∃ p ys, [x] = [V.ref p] ∧ SqT X.K H1 p ys ∧ ∀ l, H1 l = none → Q (.ref l) (upd H1 l (.tup ys.reverse))) = fun x H1 => ∃ p ys, x = .ref p ∧ SqT X.K H1 p ys ∧ ∀ l, H1 l = none → Q (.ref l) (upd H1 l (.tup ys.reverse)) := by
   funext x H1
   simp
  show te σ H fun x H1 => ∃ p ys, [x] = [V.ref p] ∧ SqT X.K H1 p ys ∧ ∀ l, H1 l = none → Q (.ref l) (upd H1 l (.tup ys.reverse))
  rw [e]
  exact h
 obtain ⟨p, ys, rfl, hq, q⟩ := q1
 obtain ⟨u, rfl, ru⟩ := vals1 r1
 cases ru
 obtain ⟨its, r, pt, z⟩ := I1.tuple hq
 have hl := r.length
 have h63 := line63
 have ltp : p < s1.heap.objs.size := let ⟨_, e, _⟩ := pt; Heap.lt_size e
 have hzz : its.toArray.size ≤ sizeLine := by rw [List.size_toArray]; omega
 refine call_rvT pt (by rw [List.size_toArray]; omega) fun tk => ?_
 refine Calls.spliced_nil ?_
 refine call_tupleRv (its := its.toArray) (t := p) (I1.ok.hd hc) hzz (by rw [List.size_toArray]; omega) (Heap.get?_push_size _ rfl) (by obtain ⟨o, h1, h2⟩ := pt; exact ⟨o, Heap.get?_push_of_some _ h1, h2⟩) (Nat.ne_of_lt ltp) fun g tk2 xs hk sz hx => ?_
 have kept : ∀ b o, s1.heap.get? b = some o → (g.push { cls := .type "tuple", data := .seq xs }).get? b = some o := fun b o e => Heap.get?_push_of_some _ (hk b o (Nat.ne_of_lt (Heap.lt_size e)) (Heap.get?_push_of_some _ e))
 have hsz : s1.heap.objs.size ≤ g.objs.size := by
  have : (s1.heap.push (rvObj p ((its.toArray.size : Int) - 1))).objs.size ≤ g.objs.size := sz
  rw [Heap.size_push] at this
  exact Nat.le_of_succ_le this
 have ha : xs.toList = its.reverse := by
  obtain ⟨a1, a2⟩ := hx
  refine List.ext_getElem? fun i => ?_
  by_cases hi : i < its.length
  ·have hi' : i < xs.size := by rw [a1, List.size_toArray]; exact hi
   have e3 : xs.toList[i]? = some xs[i] := by simp [hi']
   have e4 := a2 i xs[i] (by simp [hi'])
   rw [e3, List.getElem?_reverse hi, ← e4]
   simp
  ·rw [List.getElem?_eq_none (by simp [a1]; omega), List.getElem?_eq_none (by simp; omega)]
 refine ⟨.ref _, _, I1.laid (o := .tup ys.reverse) (t' := tk2) kept hsz ⟨by rw [List.length_reverse]; omega, its.reverse, r.reverse, _, Heap.get?_push_size _ rfl, rfl, 0, ?_⟩, rfl, q _ (I1.hok.fresh hsz)⟩
 rw [← ha]
end
end L2
namespace L2
open PySem PySem.Spec PyProof.Rows
section
variable {X : Cx}
noncomputable def iRngD (ta : TA) : TI := fun σ H R => ta σ H fun vs H1 => ∃ i j c : Int, vs = [.int i, .int j, .int c] ∧ (c ≠ 0 ∧ c.natAbs < 1000000) ∧ Builtin.Range.small i j c = true ∧ R (Itr3 i c (Builtin.Range.rangeSize i j c).toNat) H1
theorem pi_rangeD {tg a b c : Expr} {ta : TA} {p pos : Pos} (hg : Gl X "range") (hm : X.mg "range" = none) (ha : PA X [a, b, c] ta) (hs : starEach [a, b, c] X.env = (false, eval a X.env) :: starEach [b, c] X.env := by rfl)
  (hs2 : (backTo pos (starEach [b, c] X.env)).any (·.1) = false := by rfl) :
  PI X tg (.Call (.Name "range" p) [a, b, c] [] pos) (iRngD ta) := by
 intro pins s σ H R I h
 refine Call_ (ld_blt I hg hm boot_range (PyProof.Rows.callWith_type1 (thn (ha pos pins s σ H _ I h) fun us s1 ⟨vs, H1, I1, r1, q1⟩ => ?_) hs hs2))
 obtain ⟨i, j, c, e, ⟨c0, c1⟩, sm, q⟩ := q1
 subst e
 cases r1 with
 | cons r rr =>
  cases rr with
  | cons r' rr =>
   cases rr with
   | cons r'' rr =>
    cases rr
    obtain ⟨t, rfl⟩ := r
    obtain ⟨t', rfl⟩ := r'
    obtain ⟨t'', rfl⟩ := r''
    refine call_range_3 c0 ?_ (.inl (PyProof.noPylong_small (by omega)))
    refine wpAny_pyIter_range (IsRange.new ..) sm ?_
    have I2 : Inv X pins σ H1 { s1 with heap := s1.heap.push { cls := .type "range", data := .fields #[.int i t, .int j t', .int c t''] }, toks := s1.toks } := I1.kept fun b o e => Heap.get?_push_of_some _ e
    refine ⟨(s1.heap.push { cls := .type "range", data := .fields #[.int i t, .int j t', .int c t''] }).objs.size, [(s1.heap.push { cls := .type "range", data := .fields #[.int i t, .int j t', .int c t''] }).objs.size], _, _, H1, rfl,
     I2.kept (t' := s1.toks) fun b o e => Heap.get?_push_of_some _ e, turn_range3 _ i c (Builtin.Range.rangeSize i j c).toNat, ?_, fun b hb => ?_, q⟩
    ·have e1 : i + ((0 : Nat) : Int) * c = i := by simp
     have nn : 0 ≤ Builtin.Range.rangeSize i j c := by
      unfold Builtin.Range.rangeSize
      split
      ·split
       ·have := Int.ediv_nonneg (a := j - i - 1) (b := c) (by omega) (by omega)
        omega
       ·omega
      ·split
       ·have := Int.ediv_nonneg (a := i - j - 1) (b := -c) (by omega) (by omega)
        omega
       ·omega
     have e2 : (((Builtin.Range.rangeSize i j c).toNat : Nat) : Int) - ((0 : Nat) : Int) = Builtin.Range.rangeSize i j c := by omega
     show IsRangeIter _ _ (i + ((0 : Nat) : Int) * c) ((((Builtin.Range.rangeSize i j c).toNat : Nat) : Int) - ((0 : Nat) : Int)) c
     rw [e1, e2]
     exact Heap.get?_push_size _ rfl
    ·have e : b = (s1.heap.push { cls := .type "range", data := .fields #[.int i t, .int j t', .int c t''] }).objs.size := by simpa using hb
     subst e
     exact I2.fpOk (Nat.le_refl _) (I2.hok.fresh (Nat.le_refl _))
end
end L2
namespace L2
open PySem PySem.Spec PyProof.Rows PySem.Calls
section
variable {K : PySem.W.Frag} {E : XK}
noncomputable def bothSeq : D → D → Bool
 | .tup _, .tup _ => true
 | .lst _, .lst _ => true
 | _, _ => false
noncomputable def dEqG (neg : Bool) : Op2 := fun x y S => match tell S 40 x, tell S 40 y with
 | some d, some e => if bothSeq d e then (eqG 40 d e).map fun b => (.bl (neg != b), S) else none
 | _, _ => none
theorem bothSeq_of {d e : D} (h : bothSeq d e = true) : ∃ l m, (d = .tup l ∧ e = .tup m) ∨ (d = .lst l ∧ e = .lst m) := by
 unfold bothSeq at h
 split at h
 ·exact ⟨_, _, .inl ⟨rfl, rfl⟩⟩
 ·exact ⟨_, _, .inr ⟨rfl, rfl⟩⟩
 ·cases h
theorem r2_eqG {neg : Bool} : R2Ok K (rEqG K neg) (dEqG neg) := by
 intro F j σ H ρ S S' x y z u v Q E1 hx hy h k
 unfold dEqG at h
 split at h
 ·rename_i d e e1 e2
  split at h
  ·rename_i hb
   cases hg : eqG 40 d e with
   | none => rw [hg] at h; cases h
   | some b =>
    rw [hg] at h
    cases h
    exact ⟨d, e, b, bothSeq_of hb, (tell_is E1 40 _ _ _ hx e1).1, (tell_is E1 40 _ _ _ hy e2).1, hg, k _ _ _ Ext.refl E1 (.bl _)⟩
  ·cases h
 ·cases h
end
section
variable {S : Sto} {x y : Xv} {P : Xv → Sto → Prop} {p q : Int}
theorem ox_eqG {neg b : Bool} {d e : D} (h1 : tell S 40 x = some d) (h2 : tell S 40 y = some e) (hs : bothSeq d e = true) (hb : eqG 40 d e = some b) (k : P (.bl (neg != b)) S) : WO (dEqG neg x y S) P := .of (by unfold dEqG; rw [h1, h2]; dsimp only; rw [if_pos hs, hb]; rfl) k
theorem allZ_ints {n : Nat} : ∀ (l m : List Int), l.length = m.length → allZ (eqG n) (l.map D.int) (m.map D.int) = some (decide (l = m))
 | [], [], _ => by simp [allZ]
 | [], _ :: _, h => by simp at h
 | _ :: _, [], h => by simp at h
 | a :: l, b :: m, h => by
  have ih := allZ_ints (n := n) l m (by simpa using h)
  have e : eqG n (.int a) (.int b) = some (a == b) := by cases n <;> rfl
  simp only [List.map_cons, allZ, e, Option.bind_some, ih, Option.map_some]
  by_cases h1 : a = b
  ·subst h1; simp
  ·simp [h1]
theorem eqG_ints (l m : List Int) : eqG 40 (.lst (l.map D.int)) (.lst (m.map D.int)) = some (decide (l = m)) := by
 unfold eqG
 dsimp only
 rw [List.length_map, List.length_map]
 by_cases h : l.length = m.length
 ·rw [if_pos h, allZ_ints l m h]
 ·rw [if_neg h]
  have : l ≠ m := fun z => h (by rw [z])
  simp [this]
end
end L2
namespace L2
open PySem PySem.Spec PyProof.Rows PySem.Calls
section
variable {K : PySem.W.Frag} {E : XK}
end
end L2
namespace L2
open PySem PySem.Spec PyProof.Rows PySem.Calls
section
variable {K : PySem.W.Frag} {E : XK}
end
end L2
namespace L2
open PySem PySem.Spec PyProof.Rows PySem.Calls
section
variable {K : PySem.W.Frag} {E : XK}
end
end L2
namespace L2
open PySem PySem.Spec PyProof.Rows PySem.Calls
end L2
namespace L2
open PySem PySem.Spec PyProof.Rows PySem.Calls
noncomputable def tkey (y : Xv) : Option NK := match y with
 | .tup l => (xkey (.tup l)).bind fun k => if ndep k ≤ 8 then some k else none
 | .ct l => (xkey (.ct l)).bind fun k => if ndep k ≤ 8 then some k else none
 | _ => none
noncomputable def valNX (kvs : List (NK × Xv × Xv)) (k : NK) : Option Xv := (kvs.find? fun p => decide (p.1 = k)).map (·.2.2)
noncomputable def putNX (kvs : List (NK × Xv × Xv)) (k : NK) (x y : Xv) : List (NK × Xv × Xv) := if (valNX kvs k).isSome = true then kvs.map (fun p => if p.1 = k then (p.1, p.2.1, y) else p) else kvs ++ [(k, x, y)]
noncomputable def dgetS (S : Sto) (x y : Xv) : Option (Option Xv) := match x with
 | .ref n => match S[n]? with
  | some (.dk kvs) => match keyX y with
   | some key => some (valX kvs key)
   | none => if kvs.isEmpty = true ∧ (tkey y).isSome = true then some none else none
  | some (.dn kvs) => (tkey y).map (valNX kvs)
  | _ => none
 | _ => none
noncomputable def dputS (S : Sto) (x y z : Xv) : Option Sto := match x with
 | .ref n => match S[n]? with
  | some (.dk kvs) => match keyX y with
   | some key => if kvs.length < sizeLine then some (S.set n (.dk (putX kvs key z))) else none
   | none => if kvs.isEmpty = true then (tkey y).map fun k => S.set n (.dn [(k, y, z)]) else none
  | some (.dn kvs) => if kvs.length < sizeLine then (tkey y).map fun k => S.set n (.dn (putNX kvs k y z)) else none
  | _ => none
 | _ => none
section
variable {K : PySem.W.Frag} {E : XK} {F : Fm} {j : List Addr} {H : Hp} {σ : St} {ρ : Rho} {S : Sto} {x y z : Xv} {u v w : V}
mutual
theorem Xis.nis : ∀ {x : Xv} {v : V} {k : NK}, Xis K j H x v → xkey x = some k → NIs K H v k
 | _, _, _, .non, e => by simp [xkey] at e
 | _, _, _, .bl b, e => by simp [xkey] at e
 | _, _, _, .int i, e => by simp [xkey] at e; subst e; exact .int i
 | _, _, _, .str i, e => by simp [xkey] at e; subst e; exact .str i
 | _, _, _, .tup h l, e => by
  simp only [xkey, Option.map_eq_some_iff] at e
  obtain ⟨m, e1, rfl⟩ := e
  exact .tup (SqT.of h) (XisL.nis l e1)
 | _, _, _, .ct h l, e => by
  simp only [xkey, Option.map_eq_some_iff] at e
  obtain ⟨m, e1, rfl⟩ := e
  exact .tup (h H) (XisL.nis l e1)
 | _, _, _, .ref h, e => by simp [xkey] at e
theorem XisL.nis : ∀ {x : List Xv} {v : List V} {k : List NK}, XisL K j H x v → xkeyL x = some k → NIsL K H v k
 | _, _, _, .nil, e => by simp [xkeyL] at e; subst e; exact .nil
 | _, _, _, .cons h l, e => by
  simp only [xkeyL, Option.bind_eq_some_iff, Option.map_eq_some_iff] at e
  obtain ⟨a, e1, b, e2, rfl⟩ := e
  exact .cons (Xis.nis h e1) (XisL.nis l e2)
end
theorem tkey_is {k : NK} (h : Xis K j H x v) (e : tkey x = some k) : ∃ b, v = .ref b ∧ NIs K H v k ∧ ndep k ≤ 8 ∧ xkey x = some k := by
 cases h with
 | tup h l =>
  simp only [tkey, Option.bind_eq_some_iff] at e
  obtain ⟨k', e1, e2⟩ := e
  split at e2
  ·cases e2; exact ⟨_, rfl, (Xis.tup h l).nis e1, by assumption, e1⟩
  ·cases e2
 | ct h l =>
  simp only [tkey, Option.bind_eq_some_iff] at e
  obtain ⟨k', e1, e2⟩ := e
  split at e2
  ·cases e2; exact ⟨_, rfl, (Xis.ct h l).nis e1, by assumption, e1⟩
  ·cases e2
 | _ => simp [tkey] at e
theorem NX.len : ∀ {kvs : List (NK × Xv × Xv)} {ks : List (NK × Addr × V)}, NX K j H kvs ks → ks.length = kvs.length
 | _, _, .nil => rfl
 | _, _, .cons _ _ _ l => by simp [l.len]
theorem NX.nis : ∀ {kvs : List (NK × Xv × Xv)} {ks : List (NK × Addr × V)}, NX K j H kvs ks → NAll K H ks
 | _, _, .nil, p, hp => by cases hp
 | _, _, .cons e h1 _ l, p, hp => by
  rcases List.mem_cons.1 hp with rfl | hp
  ·exact ⟨h1.nis e.1, e.2⟩
  ·exact l.nis p hp
theorem NX.val {k : NK} : ∀ {kvs : List (NK × Xv × Xv)} {ks : List (NK × Addr × V)}, NX K j H kvs ks → (∀ y, valNX kvs k = some y → ∃ w, valN ks k = some w ∧ Xis K j H y w) ∧ (valNX kvs k = none → valN ks k = none)
 | _, _, .nil => ⟨fun _ e => by simp [valNX] at e, fun _ => rfl⟩
 | (k1, x1, y1) :: r, (_, b1, w1) :: rs, .cons ek h1 h l => by
  obtain ⟨i1, i2⟩ := NX.val (k := k) l
  by_cases e : k1 = k
  ·subst e
   refine ⟨fun y ey => ?_, fun ey => ?_⟩
   ·simp [valNX] at ey
    subst ey
    exact ⟨w1, by simp [valN], h⟩
   ·simp [valNX] at ey
  ·have e1 : valNX ((k1, x1, y1) :: r) k = valNX r k := by simp [valNX, List.find?_cons, e]
   have e2 : valN ((k1, b1, w1) :: rs) k = valN rs k := by simp [valN, List.find?_cons, e]
   rw [e1, e2]
   exact ⟨i1, i2⟩
theorem NX.append : ∀ {kvs r : List (NK × Xv × Xv)} {ks rs : List (NK × Addr × V)}, NX K j H kvs ks → NX K j H r rs → NX K j H (kvs ++ r) (ks ++ rs)
 | _, _, _, _, .nil, h => h
 | _, _, _, _, .cons e h1 h l, g => .cons e h1 h (l.append g)
theorem NX.put {k : NK} {b : Addr} (hk : xkey x = some k ∧ ndep k ≤ 8) (hx : Xis K j H x (.ref b)) (hy : Xis K j H y v) {kvs : List (NK × Xv × Xv)} {ks : List (NK × Addr × V)} (h : NX K j H kvs ks) : NX K j H (putNX kvs k x y) (putN ks k b v) := by
 have e : (valN ks k).isSome = (valNX kvs k).isSome := by
  cases ev : valNX kvs k with
  | none => rw [h.val.2 ev]; rfl
  | some z => obtain ⟨w, g, _⟩ := h.val.1 _ ev; rw [g]; rfl
 unfold putNX putN
 rw [e]
 split
 ·rename_i hc
  clear hc e
  induction h with
  | nil => exact .nil
  | @cons k1 x1 y1 b1 v1 r rs ek h1 h l ih =>
   rw [List.map_cons, List.map_cons]
   by_cases e : k1 = k
   ·rw [if_pos e, if_pos e]; exact .cons ek h1 hy ih
   ·rw [if_neg e, if_neg e]; exact .cons ek h1 h ih
 ·exact h.append (.cons hk hx hy .nil)
theorem En.dn {n : Nat} {kvs : List (NK × Xv × Xv)} (E1 : En K F j H σ ρ S) (hx : Xis K j H (.ref n) v) (h : S[n]? = some (.dn kvs)) : ∃ a ks, v = .ref a ∧ j[n]? = some a ∧ H a = some (.dN ks) ∧ NX K j H kvs ks := by
 obtain ⟨a, rfl, hj⟩ := hx.ref_inv
 obtain ⟨ks, e1, e2⟩ := E1.cel _ _ _ h hj
 exact ⟨a, ks, rfl, hj, e1, e2⟩
theorem En.dgetN {r : Option Xv} (E1 : En K F j H σ ρ S) (hx : Xis K j H x u) (hy : Xis K j H y w) (h : dgetS S x y = some r) : ∃ a o, u = .ref a ∧ DGetN K H a w o ∧ o.isSome = r.isSome ∧ (∀ z zd, Xis K j H z zd → Xis K j H (r.getD z) (o.getD zd)) ∧ ∀ z, r = some z → ∃ z', o = some z' ∧ Xis K j H z z' := by
 unfold dgetS at h
 split at h
 ·rename_i n
  split at h
  ·rename_i kvs hs
   have hd : dkAt S (.ref n) = some (n, kvs) := dkAt_of hs
   obtain ⟨a, ks, rfl, hj, f1, f2⟩ := E1.dk hx hd
   split at h
   ·rename_i key ek
    cases h
    obtain ⟨o, g1, g2, g3⟩ := dget_of (key := key) f1 f2
    refine ⟨a, o, rfl, .inl (by rw [keyX_is hy ek]; exact g1), g2, g3, fun z hz => ?_⟩
    have := g3 .non .non .non
    rw [hz] at this g2
    cases o with
    | none => cases g2
    | some z' => exact ⟨z', rfl, this⟩
   ·split at h
    ·rename_i hc
     cases h
     obtain ⟨k, hk⟩ := Option.isSome_iff_exists.1 hc.2
     obtain ⟨b, rfl, hn, hd8, _⟩ := tkey_is hy hk
     have : kvs = [] := List.isEmpty_iff.1 hc.1
     subst this
     cases f2
     exact ⟨a, none, rfl, .inr ⟨k, b, rfl, hn, hd8, .inr ⟨f1, rfl⟩⟩, rfl, fun z zd hz => hz, fun z hz => by cases hz⟩
    ·cases h
  ·rename_i kvs hs
   obtain ⟨a, ks, rfl, hj, f1, f2⟩ := E1.dn hx hs
   rw [Option.map_eq_some_iff] at h
   obtain ⟨k, hk, rfl⟩ := h
   obtain ⟨b, rfl, hn, hd8, _⟩ := tkey_is hy hk
   refine ⟨a, valN ks k, rfl, .inr ⟨k, b, rfl, hn, hd8, .inl ⟨ks, f1, f2.nis, rfl⟩⟩, ?_, fun z zd hz => ?_, fun z hz => f2.val.1 z hz⟩
   ·cases ev : valNX kvs k with
    | none => rw [f2.val.2 ev]; rfl
    | some z => obtain ⟨w, g, _⟩ := f2.val.1 _ ev; rw [g]; rfl
   ·cases ev : valNX kvs k with
    | none => rw [f2.val.2 ev]; exact hz
    | some z => obtain ⟨w, g, g2⟩ := f2.val.1 _ ev; rw [g]; exact g2
  ·cases h
 ·cases h
theorem En.dputN {S' : Sto} (E1 : En K F j H σ ρ S) (hx : Xis K j H x u) (hy : Xis K j H y w) (hz : Xis K j H z v) (h : dputS S x y z = some S') : ∃ a H', u = .ref a ∧ DPutN K H a w v H' ∧ En K F j H' σ ρ S' ∧ Ext j H j H' := by
 unfold dputS at h
 split at h
 ·rename_i n
  split at h
  ·rename_i kvs hs
   have hd : dkAt S (.ref n) = some (n, kvs) := dkAt_of hs
   obtain ⟨a, ks, rfl, hj, f1, f2⟩ := E1.dk hx hd
   split at h
   ·rename_i key ek
    split at h
    ·rename_i hl
     cases h
     obtain ⟨E4, X4⟩ := E1.wdk hd hj (f2.put (k := key) hz)
     refine ⟨a, _, rfl, .inl ?_, E4, X4⟩
     rw [keyX_is hy ek]
     exact DPut.k f1 (by rw [f2.len]; exact hl)
    ·cases h
   ·split at h
    ·rename_i hc
     rw [Option.map_eq_some_iff] at h
     obtain ⟨k, hk, rfl⟩ := h
     obtain ⟨b, rfl, hn, hd8, hxk⟩ := tkey_is hy hk
     have : kvs = [] := List.isEmpty_iff.1 hc
     subst this
     cases f2
     obtain ⟨E4, X4⟩ := E1.write (o := .dN [(k, b, v)]) (c' := .dn [(k, y, z)]) hs rfl hj rfl fun X => ⟨_, upd_same, .cons ⟨hxk, hd8⟩ (hy.mono X) (hz.mono X) .nil⟩
     exact ⟨a, _, rfl, .inr ⟨k, b, rfl, hn, hd8, .inr ⟨f1, rfl⟩⟩, E4, X4⟩
    ·cases h
  ·rename_i kvs hs
   obtain ⟨a, ks, rfl, hj, f1, f2⟩ := E1.dn hx hs
   split at h
   ·rename_i hl
    rw [Option.map_eq_some_iff] at h
    obtain ⟨k, hk, rfl⟩ := h
    obtain ⟨b, rfl, hn, hd8, hxk⟩ := tkey_is hy hk
    obtain ⟨E4, X4⟩ := E1.write (o := .dN (putN ks k b v)) (c' := .dn (putNX kvs k y z)) hs rfl hj rfl fun X => ⟨_, upd_same, (f2.put ⟨hxk, hd8⟩ hy hz).mono X⟩
    exact ⟨a, _, rfl, .inr ⟨k, b, rfl, hn, hd8, .inl ⟨ks, f1, f2.nis, by rw [f2.len]; exact hl, rfl⟩⟩, E4, X4⟩
   ·cases h
  ·cases h
 ·cases h
noncomputable def eDGetN (d k : TwE) : TwE := fun ρ S => rb (d ρ S) fun x S1 => rb (k ρ S1) fun y S2 => (dgetS S2 x y).bind fun o => o.map fun z => .ok z S2
theorem re_dgetN {td ty : TE} {d k : TwE} (hd : RE K E td d) (hk : RE K E ty k) : RE K E (tDGetN K td ty) (eDGetN d k) := by
 intro F j σ H ρ S r Q En0 e kk
 rcases rb_some e with ⟨x, S1, e1, e⟩ | ⟨c, S1, e1, rfl⟩
 ·refine hd En0 e1 fun j1 H1 X1 E1 u hu => ?_
  rcases rb_some e with ⟨y, S2, e2, e⟩ | ⟨c, S2, e2, rfl⟩
  ·refine hk E1 e2 fun j2 H2 X2 E2 w hw => ?_
   cases ed : dgetS S2 x y with
   | none => rw [ed] at e; cases e
   | some o =>
    rw [ed, Option.bind_some] at e
    cases o with
    | none => cases e
    | some z =>
     cases e
     obtain ⟨a, o, rfl, g, _, _, g3⟩ := E2.dgetN (hu.mono X2) hw ed
     obtain ⟨z', rfl, hz⟩ := g3 z rfl
     exact ⟨a, z', rfl, g, kk _ _ (X1.trans X2) E2 _ hz⟩
  ·exact hk E1 e2 (PX.mono kk X1)
 ·exact hd En0 e1 kk
noncomputable def eDInN (neg : Bool) (k d : TwE) : TwE := fun ρ S => rb (k ρ S) fun y S1 => rb (d ρ S1) fun x S2 => (dgetS S2 x y).map fun o => .ok (.bl (neg != o.isSome)) S2
theorem re_dinN {neg : Bool} {td ty : TE} {d k : TwE} (hk : RE K E ty k) (hd : RE K E td d) : RE K E (tDInN K neg ty td) (eDInN neg k d) := by
 intro F j σ H ρ S r Q En0 e kk
 rcases rb_some e with ⟨y, S1, e1, e⟩ | ⟨c, S1, e1, rfl⟩
 ·refine hk En0 e1 fun j1 H1 X1 E1 u hu => ?_
  rcases rb_some e with ⟨x, S2, e2, e⟩ | ⟨c, S2, e2, rfl⟩
  ·refine hd E1 e2 fun j2 H2 X2 E2 w hw => ?_
   cases ed : dgetS S2 x y with
   | none => rw [ed] at e; cases e
   | some o =>
    rw [ed] at e
    cases e
    obtain ⟨a, o', rfl, g, g1, _, _⟩ := E2.dgetN hw (hu.mono X2) ed
    refine ⟨a, o', rfl, g, kk _ _ (X1.trans X2) E2 _ ?_⟩
    rw [g1]
    exact .bl _
  ·exact hd E1 e2 (PX.mono kk X1)
 ·exact hk En0 e1 kk
noncomputable def sDPutNX (d k v : TwE) : TwS := fun ρ S => sb (v ρ S) fun z S1 => sb (d ρ S1) fun x S2 => sb (k ρ S2) fun y S3 => (dputS S3 x y z).map fun S4 => .nx ρ S4
theorem rs_dputN {td ty tv : TE} {d k v : TwE} (hd : RE K E td d) (hk : RE K E ty k) (hv : RE K E tv v) : RS K E (sDPutN K td ty tv) (sDPutNX d k v) := by
 intro F j D' σ H ρ S fl E0 e kk
 rcases sb_some e with ⟨z, S1, e1, e⟩ | ⟨c, S1, e1, rfl⟩
 ·refine hv E0 e1 fun j1 H1 X1 E1 wz hwz => ?_
  rcases sb_some e with ⟨x, S2, e2, e⟩ | ⟨c, S2, e2, rfl⟩
  ·refine hd E1 e2 fun j2 H2 X2 E2 u hu => ?_
   rcases sb_some e with ⟨y, S3, e3, e⟩ | ⟨c, S3, e3, rfl⟩
   ·refine hk E2 e3 fun j3 H3 X3 E3 w hw => ?_
    cases ed : dputS S3 x y z with
    | none => rw [ed] at e; cases e
    | some S4 =>
     rw [ed] at e
     cases e
     obtain ⟨a, H4, rfl, g, E4, X4⟩ := E3.dputN (hu.mono X3) hw (hwz.mono (X2.trans X3)) ed
     exact ⟨a, H4, rfl, g, kk _ _ _ (X1.trans (X2.trans (X3.trans X4))) E4⟩
   ·exact hk E2 e3 (PX.mono kk (X1.trans X2))
  ·exact hd E1 e2 (PX.mono kk X1)
 ·exact hv E0 e1 kk
end
end L2
namespace L2
open PySem PySem.Spec PyProof.Rows PySem.Calls
section
variable {K : PySem.W.Frag} {j : List Addr} {H : Hp}
end
section
variable {ρ : Rho} {S : Sto} {P : Xv → Sto → Prop} {N : Rho → Sto → Prop} {R : Xv → Sto → Prop} {a b m z : TwE} {x y : Xv}
theorem wx_dgetN (h : W (a ρ S) fun x S1 => W (b ρ S1) fun y S2 => ∃ z, dgetS S2 x y = some (some z) ∧ P z S2) : W (eDGetN a b ρ S) P :=
 W.bind (h.imp fun _ _ h => W.bind (h.imp fun _ _ h => by obtain ⟨z, e1, q⟩ := h; rw [e1]; exact .of rfl q))
theorem wx_dinN {neg : Bool} (h : W (a ρ S) fun y S1 => W (b ρ S1) fun x S2 => ∃ o, dgetS S2 x y = some o ∧ P (.bl (neg != o.isSome)) S2) : W (eDInN neg a b ρ S) P :=
 W.bind (h.imp fun _ _ h => W.bind (h.imp fun _ _ h => by obtain ⟨o, e1, q⟩ := h; rw [e1]; exact .of rfl q))
theorem wx_dputN (h : W (m ρ S) fun z S1 => W (a ρ S1) fun x S2 => W (b ρ S2) fun y S3 => ∃ S4, dputS S3 x y z = some S4 ∧ N ρ S4) : WS (sDPutNX a b m ρ S) N R :=
 WS.bind (h.imp fun _ _ h => WS.bind (h.imp fun _ _ h => WS.bind (h.imp fun _ _ h => by obtain ⟨S4, e1, q⟩ := h; rw [e1]; exact .nx rfl q)))
end
end L2
namespace L2
open PySem PySem.Spec PyProof.Rows PySem.Calls
noncomputable def insS (S : Sto) (x : Xv) (nm : Str) : Option (Nat × List (Str × Xv)) := match x with
 | .ref n => match S[n]? with
  | some (.ins nm' fs) => if nm' = nm then some (n, fs) else none
  | _ => none
 | _ => none
theorem insS_some {S : Sto} {x : Xv} {nm : Str} {n : Nat} {fs : List (Str × Xv)} (h : insS S x nm = some (n, fs)) : x = .ref n ∧ S[n]? = some (.ins nm fs) := by
 unfold insS at h
 split at h
 ·split at h
  ·split at h
   ·rename_i e1 e2
    cases h
    subst e2
    exact ⟨rfl, e1⟩
   ·cases h
  ·cases h
 ·cases h
theorem insS_of {S : Sto} {nm : Str} {n : Nat} {fs : List (Str × Xv)} (h : S[n]? = some (.ins nm fs)) : insS S (.ref n) nm = some (n, fs) := by
 unfold insS
 dsimp only
 rw [h]
 dsimp only
 rw [if_pos rfl]
noncomputable def putS (f : Str) (v : Xv) : List (Str × Xv) → List (Str × Xv)
 | [] => [(f, v)]
 | (g, x) :: r => if g = f then (g, v) :: r else (g, x) :: putS f v r
section
variable {K : PySem.W.Frag} {E : XK} {F : Fm} {j : List Addr} {H : Hp} {σ : St} {ρ : Rho} {S : Sto} {x : Xv} {v : V} {nm f m : Str} {C : Addr}
theorem KX.look : ∀ {fs : List (Str × Xv)} {vs : List (Str × V)}, KX K j H fs vs → (∀ y, fs.lookup f = some y → ∃ w, vs.lookup f = some w ∧ Xis K j H y w) ∧ (fs.lookup f = none → vs.lookup f = none)
 | _, _, .nil => ⟨(fun _ e => by cases e), fun _ => rfl⟩
 | (g, y1) :: r, (_, w1) :: rs, .cons h l => by
  obtain ⟨i1, i2⟩ := KX.look l
  rw [List.lookup_cons, List.lookup_cons]
  cases hb : (f == g) with
  | true => exact ⟨(fun y e => by cases e; exact ⟨w1, rfl, h⟩), (fun e => by cases e)⟩
  | false => exact ⟨i1, i2⟩
theorem KX.putF (hx : Xis K j H x v) : ∀ {fs : List (Str × Xv)} {vs : List (Str × V)}, KX K j H fs vs → KX K j H (putS f x fs) (putF f v vs)
 | _, _, .nil => .cons hx .nil
 | (g, y1) :: r, (_, w1) :: rs, .cons h l => by
  unfold putS L2.putF
  by_cases e : g = f
  ·rw [if_pos e, if_pos e]; exact .cons hx l
  ·rw [if_neg e, if_neg e]; exact .cons h (KX.putF hx l)
theorem En.ins {n : Nat} {fs : List (Str × Xv)} (hns : PySem.W.nsIn K mainGlobals nm = some (some (.ref C))) (E1 : En K F j H σ ρ S) (hx : Xis K j H x v) (h : insS S x nm = some (n, fs)) : ∃ a dx vs, v = .ref a ∧ j[n]? = some a ∧ H a = some (.ins C dx vs) ∧ KX K j H fs vs := by
 obtain ⟨rfl, hs⟩ := insS_some h
 obtain ⟨a, rfl, hj⟩ := hx.ref_inv
 obtain ⟨C', dx, vs, e0, e1, e2⟩ := E1.cel _ _ _ hs hj
 rw [hns] at e0
 cases e0
 exact ⟨a, dx, vs, rfl, hj, e1, e2⟩
noncomputable def eFldS (nm f : Str) (o : TwE) : TwE := fun ρ S => rb (o ρ S) fun x S1 => (insS S1 x nm).bind fun p => (p.2.lookup f).map fun y => .ok y S1
theorem re_fldS {to : TE} {o : TwE} (hns : PySem.W.nsIn K mainGlobals nm = some (some (.ref C))) (hc : Cls K C) (hn : NoAttr K C f) (h : RE K E to o) : RE K E (tFld K to f) (eFldS nm f o) := by
 intro F j σ H ρ S r Q En0 e k
 rcases rb_some e with ⟨x, S1, e1, e⟩ | ⟨c, S1, e1, rfl⟩
 ·refine h En0 e1 fun j1 H1 X1 E1 u hu => ?_
  rw [Option.bind_eq_some_iff] at e
  obtain ⟨⟨n, fs⟩, e2, e⟩ := e
  rw [Option.map_eq_some_iff] at e
  obtain ⟨y, e3, rfl⟩ := e
  obtain ⟨a, dx, vs, rfl, hj, f1, f2⟩ := E1.ins hns hu e2
  obtain ⟨w, g1, g2⟩ := f2.look.1 y e3
  exact ⟨a, C, dx, vs, w, rfl, f1, hc, hn, g1, k _ _ X1 E1 _ g2⟩
 ·exact h En0 e1 k
noncomputable def sPutS (nm f : Str) (o m : TwE) : TwS := fun ρ S => sb (m ρ S) fun y S1 => sb (o ρ S1) fun x S2 => (insS S2 x nm).bind fun p => if p.2.length < 1000 then some (.nx ρ (S2.set p.1 (.ins nm (putS f y p.2)))) else none
theorem KX.len2 : ∀ {fs : List (Str × Xv)} {vs : List (Str × V)}, KX K j H fs vs → vs.length = fs.length
 | _, _, .nil => rfl
 | _, _, .cons _ l => by simp [l.len2]
theorem rs_putS {to tv : TE} {o m : TwE} (hns : PySem.W.nsIn K mainGlobals nm = some (some (.ref C))) (hc : Cls K C) (hn : NoAttr K C f) (ho : RE K E to o) (hv : RE K E tv m) : RS K E (sFld K to tv f) (sPutS nm f o m) := by
 intro F j D' σ H ρ S fl E0 e kk
 rcases sb_some e with ⟨y, S1, e1, e⟩ | ⟨c, S1, e1, rfl⟩
 ·refine hv E0 e1 fun j1 H1 X1 E1 wy hwy => ?_
  rcases sb_some e with ⟨x, S2, e2, e⟩ | ⟨c, S2, e2, rfl⟩
  ·refine ho E1 e2 fun j2 H2 X2 E2 u hu => ?_
   rw [Option.bind_eq_some_iff] at e
   obtain ⟨⟨n, fs⟩, e3, e⟩ := e
   dsimp only at e
   split at e
   ·rename_i hl
    cases e
    obtain ⟨a, dx, vs, rfl, hj, f1, f2⟩ := E2.ins hns hu e3
    obtain ⟨E4, X4⟩ := E2.write (o := .ins C dx (L2.putF f wy vs)) (c' := .ins nm (putS f y fs)) (insS_some e3).2 rfl hj rfl fun X => ⟨C, dx, _, hns, upd_same, (KX.putF (hwy.mono X2) f2).mono X⟩
    exact ⟨a, C, dx, vs, rfl, f1, hc, hn, by rw [f2.len2]; exact hl, kk _ _ _ (X1.trans (X2.trans X4)) E4⟩
   ·cases e
  ·exact ho E1 e2 (PX.mono kk X1)
 ·exact hv E0 e1 kk
noncomputable def eMethS (nm m : Str) (tw : TwF) (o : TwE) (ms : List TwE) : TwE := fun ρ S => rb (o ρ S) fun x S1 => (insS S1 x nm).bind fun p => if p.2.lookup m = none then rb (evL ms ρ S1) fun xs S2 => tw (x :: xs) S2 else none
theorem re_methS {n : Nat} {tw : TwF} {o : TwE} {to : TE} {ms : List TwE} {t : TA} (hns : PySem.W.nsIn K mainGlobals nm = some (some (.ref C))) (ho : RE K E to o) (h : RL K E t (evL ms)) (hn : ms.length + 1 = n := by rfl) : RE K E (tMeth C m (sTw K n tw) [] E to t) (eMethS nm m tw o ms) := by
 intro F j σ H ρ S r Q En0 e k
 rcases rb_some e with ⟨x, S1, e1, e⟩ | ⟨c, S1, e1, rfl⟩
 ·refine ho En0 e1 fun j1 H1 X1 E1 u hu => ?_
  rw [Option.bind_eq_some_iff] at e
  obtain ⟨⟨q, fs⟩, e2, e⟩ := e
  dsimp only at e
  split at e
  ·rename_i hlk
   obtain ⟨a, dx, vs0, rfl, hj, f1, f2⟩ := E1.ins hns hu e2
   refine ⟨a, dx, vs0, rfl, f1, f2.look.2 hlk, ?_⟩
   rcases rb_some e with ⟨xs, S2, e3, e⟩ | ⟨c, S2, e3, rfl⟩
   ·refine h E1 e3 fun j2 H2 X2 E2 vs hv => ?_
    rw [List.append_nil]
    exact call_core E2 (.cons (hu.mono X2) hv) (by rw [List.length_cons, hv.len, evL_len e3, hn]) e (k.step (X1.trans X2))
   ·exact h E1 e3 (k.step X1)
  ·cases e
 ·exact ho En0 e1 k
noncomputable def eMakeS (nm : Str) (tw : TwF) (ms : List TwE) : TwE := fun ρ S => rb (evL ms ρ S) fun xs S1 => match tw (.ref S1.length :: xs) (S1 ++ [.ins nm []]) with
 | some (.ok .non S2) => some (.ok (.ref S1.length) S2)
 | _ => none
theorem re_makeS {n : Nat} {tw : TwF} {ms : List TwE} {t : TA} (hns : PySem.W.nsIn K mainGlobals nm = some (some (.ref C))) (h : RL K E t (evL ms)) (hn : ms.length + 1 = n := by rfl) : RE K E (tMake C (sTw K n tw) [] E t) (eMakeS nm tw ms) := by
 intro F j σ H ρ S r Q En0 e k
 rcases rb_some e with ⟨xs, S1, e1, e⟩ | ⟨c, S1, e1, rfl⟩
 ·refine h En0 e1 fun j1 H1 X1 E1 vs hv => ?_
  intro x dx hx hdx hne
  rw [List.append_nil]
  split at e
  ·rename_i S2 e2
   cases e
   have hx' : upd H1 dx (.own x) x = none := by rw [upd_ne (fun z => hne z.symm)]; exact hx
   obtain ⟨E2, X2⟩ := E1.new (p := dx) (o := .own x) hdx
   obtain ⟨E3, X3⟩ := E2.cell (p := x) (o := .ins C dx []) (c := .ins nm []) hx' ⟨C, dx, [], hns, upd_same, .nil⟩
   have X23 := X2.trans X3
   have hr : Xis K (j1 ++ [x]) (upd (upd H1 dx (.own x)) x (.ins C dx [])) (.ref S1.length) (.ref x) := .ref (by rw [← E1.jl]; simp)
   refine call_core E3 (.cons hr (hv.mono X23)) (by rw [List.length_cons, hv.len, evL_len e1, hn]) e2 fun j' H' X E4 v hw => ?_
   exact ⟨hw.non_inv, k _ _ (X1.trans (X23.trans X)) E4 _ (hr.mono X)⟩
  ·cases e
 ·exact h En0 e1 k
end
section
variable {ρ : Rho} {S : Sto} {P : Xv → Sto → Prop} {N : Rho → Sto → Prop} {R : Xv → Sto → Prop} {o m : TwE} {ms : List TwE} {nm f : Str}
theorem wx_fld (h : W (o ρ S) fun x S1 => ∃ n fs y, x = .ref n ∧ S1[n]? = some (.ins nm fs) ∧ fs.lookup f = some y ∧ P y S1) : W (eFldS nm f o ρ S) P :=
 W.bind (h.imp fun _ _ h => by obtain ⟨n, fs, y, rfl, e1, e2, q⟩ := h; rw [insS_of e1, Option.bind_some, e2]; exact .of rfl q)
theorem wx_putS (h : W (m ρ S) fun y S1 => W (o ρ S1) fun x S2 => ∃ n fs, x = .ref n ∧ S2[n]? = some (.ins nm fs) ∧ fs.length < 1000 ∧ N ρ (S2.set n (.ins nm (putS f y fs)))) : WS (sPutS nm f o m ρ S) N R :=
 WS.bind (h.imp fun _ _ h => WS.bind (h.imp fun _ _ h => by obtain ⟨n, fs, rfl, e1, e2, q⟩ := h; rw [insS_of e1, Option.bind_some, if_pos e2]; exact .nx rfl q))
theorem wx_meth {tw : TwF} (h : W (o ρ S) fun x S1 => ∃ n fs, x = .ref n ∧ S1[n]? = some (.ins nm fs) ∧ fs.lookup f = none ∧ W (evL ms ρ S1) fun xs S2 => W (tw (x :: xs) S2) P) : W (eMethS nm f tw o ms ρ S) P :=
 W.bind (h.imp fun _ _ h => by obtain ⟨n, fs, rfl, e1, e2, q⟩ := h; rw [insS_of e1, Option.bind_some, if_pos e2]; exact W.bind (q.imp fun _ _ h => h))
theorem wx_make {tw : TwF} (h : W (evL ms ρ S) fun xs S1 => W (tw (.ref S1.length :: xs) (S1 ++ [.ins nm []])) fun v S2 => v = .non ∧ P (.ref S1.length) S2) : W (eMakeS nm tw ms ρ S) P :=
 W.bind (h.imp fun xs S1 h => by
  obtain ⟨v, S2, e, rfl, q⟩ := h
  rw [e]
  exact .of rfl q)
end
end L2
namespace L2
open PySem PySem.Spec PyProof.Rows PySem.Calls
noncomputable def dTupRev : Xv → Sto → Option (Xv × Sto) := fun x S => x.tupOf.map fun l => (.tup l.reverse, S)
theorem re_tupRev {K : PySem.W.Frag} {E : XK} {to : TE} {o : TwE} (h : RE K E to o) : RE K E (tTupRev K to) (eUn dTupRev o) := by
 intro F j σ H ρ S r Q En0 e k
 rcases rb_some e with ⟨x, S1, e1, e⟩ | ⟨c, S1, e1, rfl⟩
 ·refine h En0 e1 fun j1 H1 X1 E1 u hu => ?_
  obtain ⟨z, S2, e2, rfl⟩ := okP_some e
  unfold dTupRev at e2
  rw [Option.map_eq_some_iff] at e2
  obtain ⟨l, e3, e4⟩ := e2
  cases e4
  obtain ⟨a, vs, rfl, f1, f2⟩ := hu.tupO e3
  refine ⟨a, vs, rfl, f1, fun p hp => ?_⟩
  obtain ⟨E2, X2⟩ := E1.new (p := p) (o := .tup vs.reverse) hp
  exact k _ _ (X1.trans X2) E2 _ (.tup upd_same (f2.mono X2).reverse)
 ·exact h En0 e1 k
theorem ox_tupRev {S : Sto} {x : Xv} {l : List Xv} {P : Xv → Sto → Prop} (h : x.tupOf = some l) (k : P (.tup l.reverse) S) : WO (dTupRev x S) P := .of (by unfold dTupRev; rw [h]; rfl) k
theorem ix_seqK {K : PySem.W.Frag} {X : Cx} (h : X.K = K := by rfl) : IxR X (rIx K) := h ▸ ix_seq
noncomputable def downX (lo : Int) (n : Nat) : List Xv := (List.range n).map fun (k : Nat) => Xv.int (lo - (k : Int))
noncomputable def iR3 (m n o : TwE) : TwI := fun ρ S => rb (m ρ S) fun x S1 => rb (n ρ S1) fun y S2 => rb (o ρ S2) fun z S3 => match x, y, z with
 | .int i, .int j, .int c => if c = -1 ∧ Builtin.Range.small i j (-1) = true then some (.ok (fun _ => some (downX i (i - j).toNat)) S3) else none
 | _, _, _ => none
section
variable {K : PySem.W.Frag} {E : XK} {j : List Addr} {H : Hp}
theorem it_down {lo : Int} {n : Nat} : ItOk K j H (Itr3 lo (-1) n) (fun _ => some (downX lo n)) := by
 intro F2 j2 H2 σ2 ρ2 S2 xs i X2 E2 e2
 cases e2
 refine ⟨fun d hd => ?_, fun hle => ?_⟩
 ·unfold downX at hd
  rw [List.getElem?_map] at hd
  have hi : i < n := by
   apply Classical.byContradiction
   intro hn
   rw [List.getElem?_eq_none (by simp; omega)] at hd
   cases hd
  rw [List.getElem?_range hi] at hd
  cases hd
  refine ⟨hi, ?_⟩
  rintro x H' ⟨rfl, rfl⟩
  refine ⟨Same.refl _, ?_⟩
  dsimp only
  rw [show lo - (i : Int) = lo + (i : Int) * -1 by omega]
  exact .int _
 ·unfold downX at hle
  simp at hle
  show n ≤ i
  omega
theorem size_down (i j : Int) : (Builtin.Range.rangeSize i j (-1)).toNat = (i - j).toNat := by
 unfold Builtin.Range.rangeSize
 rw [if_neg (by decide)]
 split
 ·rw [show -(-1 : Int) = 1 by decide, Int.ediv_one]; omega
 ·omega
theorem ri_range3 {t u v : TE} {m n o : TwE} (h : RE K E t m) (h2 : RE K E u n) (h3 : RE K E v o) : RI K E (iRngD (tCons t (tCons u (tCons v tNil)))) (iR3 m n o) := by
 intro F j σ H ρ S r R En0 e k
 rcases rb_some e with ⟨x, S1, e1, e⟩ | ⟨c, S1, e1, rfl⟩
 ·refine h En0 e1 fun j1 H1 X1 E1 u hu => ?_
  rcases rb_some e with ⟨y, S2, e2, e⟩ | ⟨c, S2, e2, rfl⟩
  ·refine h2 E1 e2 fun j2 H2 X2 E2 w hw => ?_
   rcases rb_some e with ⟨z, S3, e3, e⟩ | ⟨c, S3, e3, rfl⟩
   ·refine h3 E2 e3 fun j3 H3 X3 E3 wz hz => ?_
    split at e
    ·split at e
     ·rename_i hb
      cases e
      obtain ⟨rfl, hsm⟩ := hb
      refine ⟨_, _, -1, by rw [hu.int_inv, hw.int_inv, hz.int_inv], ⟨by decide, by decide⟩, hsm, ?_⟩
      rw [size_down]
      exact k _ _ (X1.trans (X2.trans X3)) E3 _ it_down
     ·cases e
    ·cases e
   ·exact h3 E2 e3 (PX.mono k (X1.trans X2))
  ·exact h2 E1 e2 (PX.mono k X1)
 ·exact h En0 e1 k
end
theorem downX_len (lo : Int) (n : Nat) : (downX lo n).length = n := by simp [downX]
theorem downX_at {lo : Int} {n i : Nat} {x : Xv} (h : (downX lo n)[i]? = some x) : i < n ∧ x = .int (lo - i) := by
 unfold downX at h
 rw [List.getElem?_map] at h
 have hi : i < n := by
  apply Classical.byContradiction
  intro hn
  rw [List.getElem?_eq_none (by simp; omega)] at h
  cases h
 rw [List.getElem?_range hi] at h
 cases h
 exact ⟨hi, rfl⟩
theorem wx_iR3 {ρ : Rho} {S : Sto} {Q' : (Sto → Option (List Xv)) → Sto → Prop} {m n o : TwE} (h : W (m ρ S) fun x S1 => W (n ρ S1) fun y S2 => W (o ρ S2) fun z S3 => ∃ i j, x = .int i ∧ y = .int j ∧ z = .int (-1) ∧ Builtin.Range.small i j (-1) = true ∧ Q' (fun _ => some (downX i (i - j).toNat)) S3) : W (iR3 m n o ρ S) Q' :=
 W.bind (h.imp fun _ _ h => W.bind (h.imp fun _ _ h => W.bind (h.imp fun _ _ h => by
  obtain ⟨i, j, rfl, rfl, rfl, e, q⟩ := h
  dsimp only
  rw [if_pos ⟨rfl, e⟩]
  exact .of rfl q)))
theorem small_down {i : Int} (h0 : -1 ≤ i) (h1 : i < 1000) : Builtin.Range.small i (-1) (-1) = true := by
 unfold Builtin.Range.small
 have hs : Builtin.Range.rangeSize i (-1) (-1) = i + 1 := by
  unfold Builtin.Range.rangeSize
  rw [if_neg (by decide)]
  split
  ·rw [show -(-1 : Int) = 1 by decide, Int.ediv_one]; omega
  ·omega
 rw [hs]
 simp only [Builtin.Range.rangeFitsLong, Bool.and_eq_true, Bool.or_eq_true, decide_eq_true_eq, beq_iff_eq, show ¬ ((-1 : Int) > 0) by decide, if_false]
 omega
end L2
namespace Mth
open PySem.Builtin.Int (intBits)
end Mth
namespace Prf
open PySem PySem.Spec PyProof.Rows L2
open PySem.Builtin.Int (intBits)
set_option maxHeartbeats 4000000
section
variable {P : Program} {w : World} {K : PySem.W.Frag} {mg : Str → Option Value} {base : Heap} {fu : Nat}
noncomputable def top (i : Nat) : Stmt := PySem.Challenge.pw_lots_k40_leaves_and_forks.main.body.getD i (.Pass ⟨0, 0, 0, 0⟩)
noncomputable abbrev s__wall : Stmt := top 0
noncomputable abbrev s_Store___init__ : Stmt := inClass (top 2) 0
noncomputable abbrev s_Store_number_of : Stmt := inClass (top 2) 1
noncomputable abbrev s_Store_leaf : Stmt := inClass (top 2) 2
noncomputable abbrev s_Store_fork : Stmt := inClass (top 2) 3
noncomputable abbrev s_Store_told : Stmt := inClass (top 2) 4
noncomputable abbrev s_Store_level_of : Stmt := inClass (top 2) 5
noncomputable abbrev s_Store_kids_of : Stmt := inClass (top 2) 6
noncomputable abbrev s_Store_kid_at : Stmt := inClass (top 2) 7
noncomputable abbrev s_Store_value_at : Stmt := inClass (top 2) 8
noncomputable abbrev s_Store_added : Stmt := inClass (top 2) 9
noncomputable abbrev s_Store_multiplied : Stmt := inClass (top 2) 10
noncomputable abbrev s_Store_higher : Stmt := inClass (top 2) 11
noncomputable abbrev s_Store_reckoned_of : Stmt := inClass (top 2) 12
noncomputable abbrev s_Store_chosen_by : Stmt := inClass (top 2) 13
noncomputable abbrev s_Store_joined : Stmt := inClass (top 2) 14
noncomputable abbrev s_Store_joined_below : Stmt := inClass (top 2) 15
noncomputable abbrev s_Store_leaf_by : Stmt := inClass (top 2) 16
noncomputable abbrev s_Store_choice_among : Stmt := inClass (top 2) 17
noncomputable abbrev s_Store_fixed : Stmt := inClass (top 2) 18
noncomputable abbrev s_Store_fixed_below : Stmt := inClass (top 2) 19
noncomputable abbrev s_Store_marked : Stmt := inClass (top 2) 20
noncomputable abbrev s_Store_made : Stmt := inClass (top 2) 21
noncomputable abbrev s_Store_made_behind : Stmt := inClass (top 2) 22
noncomputable abbrev s_Store_point : Stmt := inClass (top 2) 23
noncomputable abbrev s_Store_nodes_below : Stmt := inClass (top 2) 24
noncomputable abbrev s__law_take : Stmt := top 4
noncomputable abbrev s__law_word : Stmt := top 5
noncomputable abbrev s__law_names : Stmt := top 6
noncomputable abbrev s__law_boxes : Stmt := top 7
noncomputable abbrev s__law_state : Stmt := top 8
noncomputable abbrev s__law_low : Stmt := top 9
noncomputable abbrev s__law_ratio : Stmt := top 10
noncomputable abbrev s__law_same : Stmt := top 11
noncomputable abbrev s__law_whole : Stmt := top 12
noncomputable abbrev s__law_leaves : Stmt := top 13
noncomputable abbrev s__law_forked : Stmt := top 14
noncomputable abbrev s__law_keeps : Stmt := top 15
noncomputable abbrev s_law : Stmt := top 16
theorem sc_Store___init__ : FnScope ["self", "boxes"] ["self", "boxes"] (defScope s_Store___init__) := ⟨rfl, rfl, rfl, by decide +kernel, rfl, by decide +kernel, by decide +kernel⟩
theorem sc_Store_number_of : FnScope ["self", "fact"] ["self", "fact"] (defScope s_Store_number_of) := ⟨rfl, rfl, rfl, by decide +kernel, rfl, by decide +kernel, by decide +kernel⟩
theorem sc_Store_leaf : FnScope ["self", "one"] ["self", "one"] (defScope s_Store_leaf) := ⟨rfl, rfl, rfl, by decide +kernel, rfl, by decide +kernel, by decide +kernel⟩
theorem sc_Store_fork : FnScope ["self", "level", "kids", "first"] ["self", "level", "kids"] (defScope s_Store_fork) := ⟨rfl, rfl, rfl, by decide +kernel, rfl, by decide +kernel, by decide +kernel⟩
theorem sc_Store_told : FnScope ["self", "node"] ["self", "node"] (defScope s_Store_told) := ⟨rfl, rfl, rfl, by decide +kernel, rfl, by decide +kernel, by decide +kernel⟩
theorem sc_Store_level_of : FnScope ["self", "node", "fact"] ["self", "node"] (defScope s_Store_level_of) := ⟨rfl, rfl, rfl, by decide +kernel, rfl, by decide +kernel, by decide +kernel⟩
theorem sc_Store_kids_of : FnScope ["self", "node", "fact"] ["self", "node"] (defScope s_Store_kids_of) := ⟨rfl, rfl, rfl, by decide +kernel, rfl, by decide +kernel, by decide +kernel⟩
theorem sc_Store_value_at : FnScope ["self", "node", "state"] ["self", "node", "state"] (defScope s_Store_value_at) := ⟨rfl, rfl, rfl, by decide +kernel, rfl, by decide +kernel, by decide +kernel⟩
theorem sc__law_take : FnScope ["_law_left", "_law_many"] ["_law_left", "_law_many"] (defScope s__law_take) := ⟨rfl, rfl, rfl, by decide +kernel, rfl, by decide +kernel, by decide +kernel⟩
theorem sc__law_word : FnScope ["_law_number", "_law_size", "_law_word_here", "_law_k"] ["_law_number", "_law_size"] (defScope s__law_word) := ⟨rfl, rfl, rfl, by decide +kernel, rfl, by decide +kernel, by decide +kernel⟩
theorem sc__law_names : FnScope ["_law_left", "_law_many", "_law_way", "_law_some", "_law_turn", "_law_word_here", "_law_cell", "_law_size", "_law_at"] ["_law_left", "_law_many"] (defScope s__law_names) := ⟨rfl, rfl, rfl, by decide +kernel, rfl, by decide +kernel, by decide +kernel⟩
theorem sc__law_boxes : FnScope ["_law_left", "_law_most", "_law_many", "_law_boxes_here", "_law_states", "_law_name", "_law_size"] ["_law_left", "_law_most"] (defScope s__law_boxes) := ⟨rfl, rfl, rfl, by decide +kernel, rfl, by decide +kernel, by decide +kernel⟩
theorem sc__law_state : FnScope ["_law_left", "_law_boxes_here"] ["_law_left", "_law_boxes_here"] (defScope s__law_state) := ⟨rfl, rfl, rfl, by decide +kernel, rfl, by decide +kernel, by decide +kernel⟩
theorem sc__law_low : FnScope ["_law_top", "_law_bottom", "_law_one", "_law_other", "_law_kept"] ["_law_top", "_law_bottom"] (defScope s__law_low) := ⟨rfl, rfl, rfl, by decide +kernel, rfl, by decide +kernel, by decide +kernel⟩
theorem sc__law_ratio : FnScope ["_law_left", "_law_way", "_law_top"] ["_law_left"] (defScope s__law_ratio) := ⟨rfl, rfl, rfl, by decide +kernel, rfl, by decide +kernel, by decide +kernel⟩
theorem sc__law_same : FnScope ["_law_found", "_law_due"] ["_law_found", "_law_due"] (defScope s__law_same) := ⟨rfl, rfl, rfl, by decide +kernel, rfl, by decide +kernel, by decide +kernel⟩
theorem sc__law_whole : FnScope ["_law_found"] ["_law_found"] (defScope s__law_whole) := ⟨rfl, rfl, rfl, by decide +kernel, rfl, by decide +kernel, by decide +kernel⟩
theorem sc__law_leaves : FnScope ["_law_store", "_law_some", "_law_state_here", "_law_nodes", "_law_one", "_law_node", "_law_j", "_law_k"] ["_law_store", "_law_some", "_law_state_here"] (defScope s__law_leaves) := ⟨rfl, rfl, rfl, by decide +kernel, rfl, by decide +kernel, by decide +kernel⟩
theorem sc__law_forked : FnScope ["_law_store", "_law_level", "_law_kids", "_law_handed", "_law_node", "_law_k", "_law_same_here"] ["_law_store", "_law_level", "_law_kids"] (defScope s__law_forked) := ⟨rfl, rfl, rfl, by decide +kernel, rfl, by decide +kernel, by decide +kernel⟩
theorem sc__law_keeps : FnScope ["_law_left", "_law_store", "_law_boxes_here", "_law_state_here", "_law_some", "_law_leaves_here", "_law_node", "_law_held", "_law_level", "_law_size", "_law_picks", "_law_kids", "_law_at", "_law_due"] ["_law_left", "_law_store", "_law_boxes_here", "_law_state_here", "_law_some"] (defScope s__law_keeps) := ⟨rfl, rfl, rfl, by decide +kernel, rfl, by decide +kernel, by decide +kernel⟩
theorem sc_law : FnScope ["_law_script", "_law_left", "_law_boxes_here", "_law_state_here", "_law_some", "_law_store", "_law_other"] ["_law_script"] (defScope s_law) := ⟨rfl, rfl, rfl, by decide +kernel, rfl, by decide +kernel, by decide +kernel⟩
set_option genInjectivity false in
set_option genSizeOf false in
structure Tx (K : PySem.W.Frag) (mg : Str → Option Value) where
 a__wall : Addr
 fd__wall : FuncData
 F__wall : Fun K "_wall" "_wall" s__wall a__wall fd__wall
 m__wall : mg "_wall" = some (.ref a__wall)
 b__wall : Binds K fd__wall ["k"] []
 a_Store___init__ : Addr
 fd_Store___init__ : FuncData
 F_Store___init__ : Fun K "__init__" "Store.__init__" s_Store___init__ a_Store___init__ fd_Store___init__
 b_Store___init__ : Binds K fd_Store___init__ ["self", "boxes"] []
 a_Store_number_of : Addr
 fd_Store_number_of : FuncData
 F_Store_number_of : Fun K "number_of" "Store.number_of" s_Store_number_of a_Store_number_of fd_Store_number_of
 b_Store_number_of : Binds K fd_Store_number_of ["self", "fact"] []
 a_Store_leaf : Addr
 fd_Store_leaf : FuncData
 F_Store_leaf : Fun K "leaf" "Store.leaf" s_Store_leaf a_Store_leaf fd_Store_leaf
 b_Store_leaf : Binds K fd_Store_leaf ["self", "one"] []
 a_Store_fork : Addr
 fd_Store_fork : FuncData
 F_Store_fork : Fun K "fork" "Store.fork" s_Store_fork a_Store_fork fd_Store_fork
 b_Store_fork : Binds K fd_Store_fork ["self", "level", "kids"] []
 a_Store_told : Addr
 fd_Store_told : FuncData
 F_Store_told : Fun K "told" "Store.told" s_Store_told a_Store_told fd_Store_told
 b_Store_told : Binds K fd_Store_told ["self", "node"] []
 a_Store_level_of : Addr
 fd_Store_level_of : FuncData
 F_Store_level_of : Fun K "level_of" "Store.level_of" s_Store_level_of a_Store_level_of fd_Store_level_of
 b_Store_level_of : Binds K fd_Store_level_of ["self", "node"] []
 a_Store_kids_of : Addr
 fd_Store_kids_of : FuncData
 F_Store_kids_of : Fun K "kids_of" "Store.kids_of" s_Store_kids_of a_Store_kids_of fd_Store_kids_of
 b_Store_kids_of : Binds K fd_Store_kids_of ["self", "node"] []
 a_Store_kid_at : Addr
 fd_Store_kid_at : FuncData
 F_Store_kid_at : Fun K "kid_at" "Store.kid_at" s_Store_kid_at a_Store_kid_at fd_Store_kid_at
 b_Store_kid_at : Binds K fd_Store_kid_at ["self", "node", "level", "number"] []
 a_Store_value_at : Addr
 fd_Store_value_at : FuncData
 F_Store_value_at : Fun K "value_at" "Store.value_at" s_Store_value_at a_Store_value_at fd_Store_value_at
 b_Store_value_at : Binds K fd_Store_value_at ["self", "node", "state"] []
 a_Store_added : Addr
 fd_Store_added : FuncData
 F_Store_added : Fun K "added" "Store.added" s_Store_added a_Store_added fd_Store_added
 b_Store_added : Binds K fd_Store_added ["self", "one", "other"] []
 a_Store_multiplied : Addr
 fd_Store_multiplied : FuncData
 F_Store_multiplied : Fun K "multiplied" "Store.multiplied" s_Store_multiplied a_Store_multiplied fd_Store_multiplied
 b_Store_multiplied : Binds K fd_Store_multiplied ["self", "one", "other"] []
 a_Store_higher : Addr
 fd_Store_higher : FuncData
 F_Store_higher : Fun K "higher" "Store.higher" s_Store_higher a_Store_higher fd_Store_higher
 b_Store_higher : Binds K fd_Store_higher ["self", "one", "other"] []
 a_Store_reckoned_of : Addr
 fd_Store_reckoned_of : FuncData
 F_Store_reckoned_of : Fun K "reckoned_of" "Store.reckoned_of" s_Store_reckoned_of a_Store_reckoned_of fd_Store_reckoned_of
 b_Store_reckoned_of : Binds K fd_Store_reckoned_of ["self", "nodes", "rule"] []
 a_Store_chosen_by : Addr
 fd_Store_chosen_by : FuncData
 F_Store_chosen_by : Fun K "chosen_by" "Store.chosen_by" s_Store_chosen_by a_Store_chosen_by fd_Store_chosen_by
 b_Store_chosen_by : Binds K fd_Store_chosen_by ["self", "chooser", "nodes"] []
 a_Store_joined : Addr
 fd_Store_joined : FuncData
 F_Store_joined : Fun K "joined" "Store.joined" s_Store_joined a_Store_joined fd_Store_joined
 b_Store_joined : Binds K fd_Store_joined ["self", "nodes", "settle", "known"] []
 a_Store_joined_below : Addr
 fd_Store_joined_below : FuncData
 F_Store_joined_below : Fun K "joined_below" "Store.joined_below" s_Store_joined_below a_Store_joined_below fd_Store_joined_below
 b_Store_joined_below : Binds K fd_Store_joined_below ["self", "nodes", "settle", "known"] []
 a_Store_leaf_by : Addr
 fd_Store_leaf_by : FuncData
 F_Store_leaf_by : Fun K "leaf_by" "Store.leaf_by" s_Store_leaf_by a_Store_leaf_by fd_Store_leaf_by
 b_Store_leaf_by : Binds K fd_Store_leaf_by ["self", "nodes", "rule"] []
 a_Store_choice_among : Addr
 fd_Store_choice_among : FuncData
 F_Store_choice_among : Fun K "choice_among" "Store.choice_among" s_Store_choice_among a_Store_choice_among fd_Store_choice_among
 b_Store_choice_among : Binds K fd_Store_choice_among ["self", "nodes"] []
 a_Store_fixed : Addr
 fd_Store_fixed : FuncData
 F_Store_fixed : Fun K "fixed" "Store.fixed" s_Store_fixed a_Store_fixed fd_Store_fixed
 b_Store_fixed : Binds K fd_Store_fixed ["self", "node", "level", "number"] []
 a_Store_fixed_below : Addr
 fd_Store_fixed_below : FuncData
 F_Store_fixed_below : Fun K "fixed_below" "Store.fixed_below" s_Store_fixed_below a_Store_fixed_below fd_Store_fixed_below
 b_Store_fixed_below : Binds K fd_Store_fixed_below ["self", "node", "level", "number", "known"] []
 a_Store_marked : Addr
 fd_Store_marked : FuncData
 F_Store_marked : Fun K "marked" "Store.marked" s_Store_marked a_Store_marked fd_Store_marked
 b_Store_marked : Binds K fd_Store_marked ["self", "test"] []
 a_Store_made : Addr
 fd_Store_made : FuncData
 F_Store_made : Fun K "made" "Store.made" s_Store_made a_Store_made fd_Store_made
 b_Store_made : Binds K fd_Store_made ["self", "names", "rule"] []
 a_Store_made_behind : Addr
 fd_Store_made_behind : FuncData
 F_Store_made_behind : Fun K "made_behind" "Store.made_behind" s_Store_made_behind a_Store_made_behind fd_Store_made_behind
 b_Store_made_behind : Binds K fd_Store_made_behind ["self", "names", "rule", "numbers"] []
 a_Store_point : Addr
 fd_Store_point : FuncData
 F_Store_point : Fun K "point" "Store.point" s_Store_point a_Store_point fd_Store_point
 b_Store_point : Binds K fd_Store_point ["self", "state"] []
 a_Store_nodes_below : Addr
 fd_Store_nodes_below : FuncData
 F_Store_nodes_below : Fun K "nodes_below" "Store.nodes_below" s_Store_nodes_below a_Store_nodes_below fd_Store_nodes_below
 b_Store_nodes_below : Binds K fd_Store_nodes_below ["self", "node"] []
 a__law_take : Addr
 fd__law_take : FuncData
 F__law_take : Fun K "_law_take" "_law_take" s__law_take a__law_take fd__law_take
 m__law_take : mg "_law_take" = some (.ref a__law_take)
 b__law_take : Binds K fd__law_take ["_law_left", "_law_many"] []
 a__law_word : Addr
 fd__law_word : FuncData
 F__law_word : Fun K "_law_word" "_law_word" s__law_word a__law_word fd__law_word
 m__law_word : mg "_law_word" = some (.ref a__law_word)
 b__law_word : Binds K fd__law_word ["_law_number", "_law_size"] []
 a__law_names : Addr
 fd__law_names : FuncData
 F__law_names : Fun K "_law_names" "_law_names" s__law_names a__law_names fd__law_names
 m__law_names : mg "_law_names" = some (.ref a__law_names)
 b__law_names : Binds K fd__law_names ["_law_left", "_law_many"] []
 a__law_boxes : Addr
 fd__law_boxes : FuncData
 F__law_boxes : Fun K "_law_boxes" "_law_boxes" s__law_boxes a__law_boxes fd__law_boxes
 m__law_boxes : mg "_law_boxes" = some (.ref a__law_boxes)
 b__law_boxes : Binds K fd__law_boxes ["_law_left", "_law_most"] []
 a__law_state : Addr
 fd__law_state : FuncData
 F__law_state : Fun K "_law_state" "_law_state" s__law_state a__law_state fd__law_state
 m__law_state : mg "_law_state" = some (.ref a__law_state)
 b__law_state : Binds K fd__law_state ["_law_left", "_law_boxes_here"] []
 a__law_low : Addr
 fd__law_low : FuncData
 F__law_low : Fun K "_law_low" "_law_low" s__law_low a__law_low fd__law_low
 m__law_low : mg "_law_low" = some (.ref a__law_low)
 b__law_low : Binds K fd__law_low ["_law_top", "_law_bottom"] []
 a__law_ratio : Addr
 fd__law_ratio : FuncData
 F__law_ratio : Fun K "_law_ratio" "_law_ratio" s__law_ratio a__law_ratio fd__law_ratio
 m__law_ratio : mg "_law_ratio" = some (.ref a__law_ratio)
 b__law_ratio : Binds K fd__law_ratio ["_law_left"] []
 a__law_same : Addr
 fd__law_same : FuncData
 F__law_same : Fun K "_law_same" "_law_same" s__law_same a__law_same fd__law_same
 m__law_same : mg "_law_same" = some (.ref a__law_same)
 b__law_same : Binds K fd__law_same ["_law_found", "_law_due"] []
 a__law_whole : Addr
 fd__law_whole : FuncData
 F__law_whole : Fun K "_law_whole" "_law_whole" s__law_whole a__law_whole fd__law_whole
 m__law_whole : mg "_law_whole" = some (.ref a__law_whole)
 b__law_whole : Binds K fd__law_whole ["_law_found"] []
 a__law_leaves : Addr
 fd__law_leaves : FuncData
 F__law_leaves : Fun K "_law_leaves" "_law_leaves" s__law_leaves a__law_leaves fd__law_leaves
 m__law_leaves : mg "_law_leaves" = some (.ref a__law_leaves)
 b__law_leaves : Binds K fd__law_leaves ["_law_store", "_law_some", "_law_state_here"] []
 a__law_forked : Addr
 fd__law_forked : FuncData
 F__law_forked : Fun K "_law_forked" "_law_forked" s__law_forked a__law_forked fd__law_forked
 m__law_forked : mg "_law_forked" = some (.ref a__law_forked)
 b__law_forked : Binds K fd__law_forked ["_law_store", "_law_level", "_law_kids"] []
 a__law_keeps : Addr
 fd__law_keeps : FuncData
 F__law_keeps : Fun K "_law_keeps" "_law_keeps" s__law_keeps a__law_keeps fd__law_keeps
 m__law_keeps : mg "_law_keeps" = some (.ref a__law_keeps)
 b__law_keeps : Binds K fd__law_keeps ["_law_left", "_law_store", "_law_boxes_here", "_law_state_here", "_law_some"] []
 a_law : Addr
 fd_law : FuncData
 F_law : Fun K "law" "law" s_law a_law fd_law
 m_law : mg "law" = some (.ref a_law)
 b_law : Binds K fd_law ["_law_script"] []
 n_abs : mg "abs" = none
 n_all : mg "all" = none
 n_bool : mg "bool" = none
 n_int : mg "int" = none
 n_isinstance : mg "isinstance" = none
 n_len : mg "len" = none
 n_list : mg "list" = none
 n_min : mg "min" = none
 n_range : mg "range" = none
 n_reversed : mg "reversed" = none
 n_str : mg "str" = none
 n_tuple : mg "tuple" = none
 a_Store : Addr
 m_Store : mg "Store" = some (.ref a_Store)
 cl_Store : Cls K a_Store
 ns_Store : PySem.W.nsIn K mainGlobals "Store" = some (some (.ref a_Store))
 n_Store_boxes : NoAttr K a_Store "boxes"
 n_Store_facts : NoAttr K a_Store "facts"
 n_Store_numbers : NoAttr K a_Store "numbers"
 mk_Store : Mk K a_Store a_Store___init__
 mt_Store_number_of : Meth K a_Store "number_of" a_Store_number_of
 mt_Store_leaf : Meth K a_Store "leaf" a_Store_leaf
 mt_Store_fork : Meth K a_Store "fork" a_Store_fork
 mt_Store_told : Meth K a_Store "told" a_Store_told
 mt_Store_level_of : Meth K a_Store "level_of" a_Store_level_of
 mt_Store_kids_of : Meth K a_Store "kids_of" a_Store_kids_of
 mt_Store_kid_at : Meth K a_Store "kid_at" a_Store_kid_at
 mt_Store_value_at : Meth K a_Store "value_at" a_Store_value_at
 mt_Store_added : Meth K a_Store "added" a_Store_added
 mt_Store_multiplied : Meth K a_Store "multiplied" a_Store_multiplied
 mt_Store_higher : Meth K a_Store "higher" a_Store_higher
 mt_Store_reckoned_of : Meth K a_Store "reckoned_of" a_Store_reckoned_of
 mt_Store_chosen_by : Meth K a_Store "chosen_by" a_Store_chosen_by
 mt_Store_joined : Meth K a_Store "joined" a_Store_joined
 mt_Store_joined_below : Meth K a_Store "joined_below" a_Store_joined_below
 mt_Store_leaf_by : Meth K a_Store "leaf_by" a_Store_leaf_by
 mt_Store_choice_among : Meth K a_Store "choice_among" a_Store_choice_among
 mt_Store_fixed : Meth K a_Store "fixed" a_Store_fixed
 mt_Store_fixed_below : Meth K a_Store "fixed_below" a_Store_fixed_below
 mt_Store_marked : Meth K a_Store "marked" a_Store_marked
 mt_Store_made : Meth K a_Store "made" a_Store_made
 mt_Store_made_behind : Meth K a_Store "made_behind" a_Store_made_behind
 mt_Store_point : Meth K a_Store "point" a_Store_point
 mt_Store_nodes_below : Meth K a_Store "nodes_below" a_Store_nodes_below
noncomputable def tb_Store___init__ (fu : Nat) : TwS := (sSeq (sPutS "Store" "boxes" (eVar 0) (eVar 1)) (sSeq (sPutS "Store" "facts" (eVar 0) (eLst [])) (sPutS "Store" "numbers" (eVar 0) eDict0)))
noncomputable def tw_Store___init__ (fu : Nat) : TwF := runTw 2 0 (tb_Store___init__ fu)
theorem ok_Store___init__ (T : Tx K mg) : FnOk P w K mg base (CXE P w) 1 T.a_Store___init__ T.fd_Store___init__ ["self", "boxes"] (sTw K 2 (tw_Store___init__ fu)) :=
 T.F_Store___init__.okE sc_Store___init__ (fun vs H Q E h => h.1) (fun cdv A outer s H vs Q E hr h => ⟨_, (@pss_cons _ _ _ _ _ (ps_fld (pv 0) (pv 1) rfl) (@pss_cons _ _ _ _ _ (ps_fld (pv 0) (@pe_lst _ _ _ _ pa_nil) rfl) (@pss_one _ _ _ (ps_fld (pv 0) pe_dnewK rfl)))), fn_tw (n := 2) (k := 0) (b := tb_Store___init__ fu) rfl (rs_seq (rs_putS T.ns_Store T.cl_Store T.n_Store_boxes (re_var 0) (re_var 1)) (rs_seq (rs_putS T.ns_Store T.cl_Store T.n_Store_facts (re_var 0) (re_lst rl_nil)) (rs_putS T.ns_Store T.cl_Store T.n_Store_numbers (re_var 0) re_dnew))) h⟩)
noncomputable def tb_Store_number_of (fu : Nat) : TwS := (sSeq (sIf (bE (eDInN true (eVar 1) (eFldS "Store" "numbers" (eVar 0)))) (sSeq (sDPutNX (eFldS "Store" "numbers" (eVar 0)) (eVar 1) (eFn dLen [(eFldS "Store" "facts" (eVar 0))])) (sExpr (eMt mAppend (eFldS "Store" "facts" (eVar 0)) [(eVar 1)]))) sNext) (sRet (eDGetN (eFldS "Store" "numbers" (eVar 0)) (eVar 1))))
noncomputable def tw_Store_number_of (fu : Nat) : TwF := runTw 2 0 (tb_Store_number_of fu)
theorem ok_Store_number_of (T : Tx K mg) : FnOk P w K mg base (CXE P w) 1 T.a_Store_number_of T.fd_Store_number_of ["self", "fact"] (sTw K 2 (tw_Store_number_of fu)) :=
 T.F_Store_number_of.okE sc_Store_number_of (fun vs H Q E h => h.1) (fun cdv A outer s H vs Q E hr h => ⟨_, (@pss_cons _ _ _ _ _ (ps_if (pt_cmp (pc_dnotinN (K := K) hr (pv 1) (pe_fld (pv 0) rfl))) (@pss_cons _ _ _ _ _ (ps_dputN (K := K) hr (pe_fld (pv 0) rfl) (pv 1) (pe_callB (call_lenK (K := K)) rfl T.n_len boot_len (@pa_cons _ _ _ _ _ (pe_fld (pv 0) rfl) pa_nil se_Attribute)) rfl) (@pss_one _ _ _ (ps_expr (pe_bm PySem.F.plainAttrs_list PySem.F.slot_list_append PySem.F.type_list_append mt_append (pe_fld (pv 0) rfl) (@pa_cons _ _ _ _ _ (pv 1) pa_nil se_Name))))) pss_nil) (@pss_one _ _ _ (@ps_ret _ _ _ _ (pe_dgetN (K := K) hr (pe_fld (pv 0) rfl) (pv 1) (fun _ _ => rfl))))), fn_tw (n := 2) (k := 0) (b := tb_Store_number_of fu) rfl (rs_seq (rs_if (rt_e (re_dinN (re_var 1) (re_fldS T.ns_Store T.cl_Store T.n_Store_numbers (re_var 0)))) (rs_seq (rs_dputN (re_fldS T.ns_Store T.cl_Store T.n_Store_numbers (re_var 0)) (re_var 1) (re_fn rc_len (rl_cons (re_fldS T.ns_Store T.cl_Store T.n_Store_facts (re_var 0)) rl_nil))) (rs_expr (re_mt rm_append (re_fldS T.ns_Store T.cl_Store T.n_Store_facts (re_var 0)) (rl_cons (re_var 1) rl_nil)))) rs_next) (rs_ret (re_dgetN (re_fldS T.ns_Store T.cl_Store T.n_Store_numbers (re_var 0)) (re_var 1)))) h⟩)
noncomputable def tb_Store_leaf (fu : Nat) : TwS := (sRet (eMethS "Store" "number_of" (tw_Store_number_of fu) (eVar 0) [(eTup [(eC (.str "leaf")), (eVar 1)])]))
noncomputable def tw_Store_leaf (fu : Nat) : TwF := runTw 2 0 (tb_Store_leaf fu)
theorem ok_Store_leaf (T : Tx K mg) : FnOk P w K mg base (CXE P w) 2 T.a_Store_leaf T.fd_Store_leaf ["self", "one"] (sTw K 2 (tw_Store_leaf fu)) :=
 T.F_Store_leaf.okE sc_Store_leaf (fun vs H Q E h => h.1) (fun cdv A outer s H vs Q E hr h => ⟨_, (@pss_one _ _ _ (@ps_ret _ _ _ _ (pe_meth (pv 0) T.cl_Store T.mt_Store_number_of (ok_Store_number_of (fu := fu) T) (hr.mono (by decide)) T.b_Store_number_of .nil passE (@pa_cons _ _ _ _ _ (@pe_tup _ _ _ _ _ (@pa_cons _ _ _ _ _ pe_str (@pa_cons _ _ _ _ _ (pv 1) pa_nil se_Name) se_Constant)) pa_nil se_Tuple)))), fn_tw (n := 2) (k := 0) (b := tb_Store_leaf fu) rfl (rs_ret (re_methS T.ns_Store (re_var 0) (rl_cons (re_tup (rl_cons (re_str _) (rl_cons (re_var 1) rl_nil))) rl_nil))) h⟩)
noncomputable def tb_Store_fork (fu : Nat) : TwS := (sSeq (sAsg (eOp dIxL (eVar 2) (eC (.int 0))) (gN 3)) (sSeq (sIf (bE (eFn dAll [(eComp [none, some 3] (iL (eVar 2)) (gN 0) bTrue (eOp dEqI (eVar 0) (eVar 1)))])) (sRet (eVar 3)) sNext) (sRet (eMethS "Store" "number_of" (tw_Store_number_of fu) (eVar 0) [(eTup [(eC (.str "fork")), (eVar 1), (eFn dTuple [(eVar 2)])])]))))
noncomputable def tw_Store_fork (fu : Nat) : TwF := runTw 3 1 (tb_Store_fork fu)
theorem ok_Store_fork (T : Tx K mg) : FnOk P w K mg base (CXE P w) 2 T.a_Store_fork T.fd_Store_fork ["self", "level", "kids"] (sTw K 3 (tw_Store_fork fu)) :=
 T.F_Store_fork.okE sc_Store_fork (fun vs H Q E h => h.1) (fun cdv A outer s H vs Q E hr h => ⟨_, (@pss_cons _ _ _ _ _ (@ps_set _ _ 3 _ _ _ _ sc_Store_fork.nd rfl (Or.inr rfl) (@pe_ix _ _ _ _ _ _ _ (ix_listK (K := K)) (pv 2) pe_int (fun _ _ => rfl)) (by rfl) (by first | exact .inl rfl | exact .inr rfl | assumption)) (@pss_cons _ _ _ _ _ (ps_if (pt_val (pe_callB (call_allK (K := K) rfl) rfl T.n_all PyProof.Rows.Boot.«all» (pa_cons (pe_comp (N' := ["kid", "first"]) rfl (blk (osc := defScope s_Store_fork) rfl (by decide +kernel)) (cap_own (cap_out (i := 3) rfl rfl cap_nil)) (pi_listK (K := K) (pv 2)) (gown_name rfl) (fun C s₀ H₀ fp => pg_name (i := 0) (show (["kid", "first"] : List Str).Nodup from by decide +kernel) rfl (Or.inl rfl)) (fun C s₀ H₀ fp => pts_nil) (fun C s₀ H₀ fp => (pe_cmp (pc_eqI (pv 0) (pv 1))))) pa_nil))) (@pss_one _ _ _ (@ps_ret _ _ _ _ (pv 3))) pss_nil) (@pss_one _ _ _ (@ps_ret _ _ _ _ (pe_meth (pv 0) T.cl_Store T.mt_Store_number_of (ok_Store_number_of (fu := fu) T) (hr.mono (by decide)) T.b_Store_number_of .nil passE (@pa_cons _ _ _ _ _ (@pe_tup _ _ _ _ _ (@pa_cons _ _ _ _ _ pe_str (@pa_cons _ _ _ _ _ (pv 1) (@pa_cons _ _ _ _ _ (pe_callTy (call_tupleK (K := K)) rfl T.n_tuple boot_tuple (@pa_cons _ _ _ _ _ (pv 2) pa_nil se_Name)) pa_nil se_Call) se_Name) se_Constant)) pa_nil se_Tuple)))))), fn_tw (n := 3) (k := 1) (b := tb_Store_fork fu) rfl (rs_seq (rs_asg (re_op r2_ixL (re_var 2) (re_int _)) rg_name) (rs_seq (rs_if (rt_e (re_fn rc_all (rl_cons (re_comp (cap := [none, some 3]) (ri_list (re_var 2)) rg_name rt_true (re_eqI (re_var 0) (re_var 1))) rl_nil))) (rs_ret (re_var 3)) rs_next) (rs_ret (re_methS T.ns_Store (re_var 0) (rl_cons (re_tup (rl_cons (re_str _) (rl_cons (re_var 1) (rl_cons (re_fn rc_tuple (rl_cons (re_var 2) rl_nil)) rl_nil)))) rl_nil))))) h⟩)
noncomputable def tb_Store_told (fu : Nat) : TwS := (sRet (eOp dIxL (eFldS "Store" "facts" (eVar 0)) (eVar 1)))
noncomputable def tw_Store_told (fu : Nat) : TwF := runTw 2 0 (tb_Store_told fu)
theorem ok_Store_told (T : Tx K mg) : FnOk P w K mg base (CXE P w) 1 T.a_Store_told T.fd_Store_told ["self", "node"] (sTw K 2 (tw_Store_told fu)) :=
 T.F_Store_told.okE sc_Store_told (fun vs H Q E h => h.1) (fun cdv A outer s H vs Q E hr h => ⟨_, (@pss_one _ _ _ (@ps_ret _ _ _ _ (@pe_ix _ _ _ _ _ _ _ (ix_listK (K := K)) (pe_fld (pv 0) rfl) (pv 1) (fun _ _ => rfl)))), fn_tw (n := 2) (k := 0) (b := tb_Store_told fu) rfl (rs_ret (re_op r2_ixL (re_fldS T.ns_Store T.cl_Store T.n_Store_facts (re_var 0)) (re_var 1))) h⟩)
noncomputable def tb_Store_level_of (fu : Nat) : TwS := (sSeq (sAsg (eOp dIxL (eFldS "Store" "facts" (eVar 0)) (eVar 1)) (gN 2)) (sRet (eIf (bE (eOp (dEqS false) (eOp dIxT (eVar 2) (eC (.int 0))) (eC (.str "fork")))) (eOp dIxT (eVar 2) (eC (.int 1))) (eFn dLen [(eFldS "Store" "boxes" (eVar 0))]))))
noncomputable def tw_Store_level_of (fu : Nat) : TwF := runTw 2 1 (tb_Store_level_of fu)
theorem ok_Store_level_of (T : Tx K mg) : FnOk P w K mg base (CXE P w) 1 T.a_Store_level_of T.fd_Store_level_of ["self", "node"] (sTw K 2 (tw_Store_level_of fu)) :=
 T.F_Store_level_of.okE sc_Store_level_of (fun vs H Q E h => h.1) (fun cdv A outer s H vs Q E hr h => ⟨_, (@pss_cons _ _ _ _ _ (@ps_set _ _ 2 _ _ _ _ sc_Store_level_of.nd rfl (Or.inl rfl) (@pe_ix _ _ _ _ _ _ _ (ix_listK (K := K)) (pe_fld (pv 0) rfl) (pv 1) (fun _ _ => rfl)) (by rfl) (by first | exact .inl rfl | exact .inr rfl | assumption)) (@pss_one _ _ _ (@ps_ret _ _ _ _ (pe_ifExp (pt_cmpR op_eq (@pe_ix _ _ _ _ _ _ _ (ix_tupK (K := K)) (pv 2) pe_int (fun _ _ => rfl)) pe_str (by rfl)) (@pe_ix _ _ _ _ _ _ _ (ix_tupK (K := K)) (pv 2) pe_int (fun _ _ => rfl)) (pe_callB (call_lenK (K := K)) rfl T.n_len boot_len (@pa_cons _ _ _ _ _ (pe_fld (pv 0) rfl) pa_nil se_Attribute)))))), fn_tw (n := 2) (k := 1) (b := tb_Store_level_of fu) rfl (rs_seq (rs_asg (re_op r2_ixL (re_fldS T.ns_Store T.cl_Store T.n_Store_facts (re_var 0)) (re_var 1)) rg_name) (rs_ret (re_if (rt_test (re_op r2_eqS (re_op r2_ixT (re_var 2) (re_int _)) (re_str _))) (re_op r2_ixT (re_var 2) (re_int _)) (re_fn rc_len (rl_cons (re_fldS T.ns_Store T.cl_Store T.n_Store_boxes (re_var 0)) rl_nil))))) h⟩)
noncomputable def tb_Store_kids_of (fu : Nat) : TwS := (sSeq (sAsg (eOp dIxL (eFldS "Store" "facts" (eVar 0)) (eVar 1)) (gN 2)) (sRet (eIf (bE (eOp (dEqS false) (eOp dIxT (eVar 2) (eC (.int 0))) (eC (.str "fork")))) (eOp dIxT (eVar 2) (eC (.int 2))) (eTup []))))
noncomputable def tw_Store_kids_of (fu : Nat) : TwF := runTw 2 1 (tb_Store_kids_of fu)
theorem ok_Store_kids_of (T : Tx K mg) : FnOk P w K mg base (CXE P w) 1 T.a_Store_kids_of T.fd_Store_kids_of ["self", "node"] (sTw K 2 (tw_Store_kids_of fu)) :=
 T.F_Store_kids_of.okE sc_Store_kids_of (fun vs H Q E h => h.1) (fun cdv A outer s H vs Q E hr h => ⟨_, (@pss_cons _ _ _ _ _ (@ps_set _ _ 2 _ _ _ _ sc_Store_kids_of.nd rfl (Or.inl rfl) (@pe_ix _ _ _ _ _ _ _ (ix_listK (K := K)) (pe_fld (pv 0) rfl) (pv 1) (fun _ _ => rfl)) (by rfl) (by first | exact .inl rfl | exact .inr rfl | assumption)) (@pss_one _ _ _ (@ps_ret _ _ _ _ (pe_ifExp (pt_cmpR op_eq (@pe_ix _ _ _ _ _ _ _ (ix_tupK (K := K)) (pv 2) pe_int (fun _ _ => rfl)) pe_str (by rfl)) (@pe_ix _ _ _ _ _ _ _ (ix_tupK (K := K)) (pv 2) pe_int (fun _ _ => rfl)) (@pe_tup _ _ _ _ _ pa_nil))))), fn_tw (n := 2) (k := 1) (b := tb_Store_kids_of fu) rfl (rs_seq (rs_asg (re_op r2_ixL (re_fldS T.ns_Store T.cl_Store T.n_Store_facts (re_var 0)) (re_var 1)) rg_name) (rs_ret (re_if (rt_test (re_op r2_eqS (re_op r2_ixT (re_var 2) (re_int _)) (re_str _))) (re_op r2_ixT (re_var 2) (re_int _)) (re_tup rl_nil)))) h⟩)
noncomputable def tb_Store_value_at (fu : Nat) : TwS := (sSeq (sWh fu (bE (eOp (dEqS false) (eOp dIxT (eOp dIxL (eFldS "Store" "facts" (eVar 0)) (eVar 1)) (eC (.int 0))) (eC (.str "fork")))) (sAsg (eOp dIxT (eMethS "Store" "kids_of" (tw_Store_kids_of fu) (eVar 0) [(eVar 1)]) (eOp dIxT (eVar 2) (eMethS "Store" "level_of" (tw_Store_level_of fu) (eVar 0) [(eVar 1)]))) (gN 1))) (sRet (eOp dIxT (eOp dIxL (eFldS "Store" "facts" (eVar 0)) (eVar 1)) (eC (.int 1)))))
noncomputable def tw_Store_value_at (fu : Nat) : TwF := runTw 3 0 (tb_Store_value_at fu)
theorem ok_Store_value_at (T : Tx K mg) : FnOk P w K mg base (CXE P w) 2 T.a_Store_value_at T.fd_Store_value_at ["self", "node", "state"] (sTw K 3 (tw_Store_value_at fu)) :=
 T.F_Store_value_at.okE sc_Store_value_at (fun vs H Q E h => h.1) (fun cdv A outer s H vs Q E hr h => ⟨_, (@pss_cons _ _ _ _ _ (ps_while PassesOwn.leaving (pt_cmpR op_eq (@pe_ix _ _ _ _ _ _ _ (ix_tupK (K := K)) (@pe_ix _ _ _ _ _ _ _ (ix_listK (K := K)) (pe_fld (pv 0) rfl) (pv 1) (fun _ _ => rfl)) pe_int (fun _ _ => rfl)) pe_str (by rfl)) (@pss_one _ _ _ (@ps_set _ _ 1 _ _ _ _ sc_Store_value_at.nd rfl (Or.inl rfl) (@pe_ix _ _ _ _ _ _ _ (ix_tupK (K := K)) (pe_meth (pv 0) T.cl_Store T.mt_Store_kids_of (ok_Store_kids_of (fu := fu) T) (hr.mono (by decide)) T.b_Store_kids_of .nil passE (@pa_cons _ _ _ _ _ (pv 1) pa_nil se_Name)) (@pe_ix _ _ _ _ _ _ _ (ix_tupK (K := K)) (pv 2) (pe_meth (pv 0) T.cl_Store T.mt_Store_level_of (ok_Store_level_of (fu := fu) T) (hr.mono (by decide)) T.b_Store_level_of .nil passE (@pa_cons _ _ _ _ _ (pv 1) pa_nil se_Name)) (fun _ _ => rfl)) (fun _ _ => rfl)) (by rfl) (by first | exact .inl rfl | exact .inr rfl | assumption)))) (@pss_one _ _ _ (@ps_ret _ _ _ _ (@pe_ix _ _ _ _ _ _ _ (ix_tupK (K := K)) (@pe_ix _ _ _ _ _ _ _ (ix_listK (K := K)) (pe_fld (pv 0) rfl) (pv 1) (fun _ _ => rfl)) pe_int (fun _ _ => rfl))))), fn_tw (n := 3) (k := 0) (b := tb_Store_value_at fu) rfl (rs_seq (rs_while (rt_test (re_op r2_eqS (re_op r2_ixT (re_op r2_ixL (re_fldS T.ns_Store T.cl_Store T.n_Store_facts (re_var 0)) (re_var 1)) (re_int _)) (re_str _))) (rs_asg (re_op r2_ixT (re_methS T.ns_Store (re_var 0) (rl_cons (re_var 1) rl_nil)) (re_op r2_ixT (re_var 2) (re_methS T.ns_Store (re_var 0) (rl_cons (re_var 1) rl_nil)))) rg_name)) (rs_ret (re_op r2_ixT (re_op r2_ixL (re_fldS T.ns_Store T.cl_Store T.n_Store_facts (re_var 0)) (re_var 1)) (re_int _)))) h⟩)
noncomputable def tb__law_take (fu : Nat) : TwS := (sSeq (sIf (bE (eOp dEqI (eFn dLen [(eVar 0)]) (eC (.int 0)))) (sRet (eC (.int 0))) sNext) (sRet (eOp dMod (eMt mPop (eVar 0) []) (eVar 1))))
noncomputable def tw__law_take (fu : Nat) : TwF := runTw 2 0 (tb__law_take fu)
theorem ok__law_take (T : Tx K mg) : FnOk P w K mg base (CXE P w) 1 T.a__law_take T.fd__law_take ["_law_left", "_law_many"] (sTw K 2 (tw__law_take fu)) :=
 T.F__law_take.okE sc__law_take (fun vs H Q E h => h.1) (fun cdv A outer s H vs Q E hr h => ⟨_, (@pss_cons _ _ _ _ _ (ps_if (pt_cmp (pc_eqI (pe_callB (call_lenK (K := K)) rfl T.n_len boot_len (@pa_cons _ _ _ _ _ (pv 0) pa_nil se_Name)) pe_int)) (@pss_one _ _ _ (@ps_ret _ _ _ _ pe_int)) pss_nil) (@pss_one _ _ _ (@ps_ret _ _ _ _ (pe_op op_mod (pe_bm0 PySem.F.plainAttrs_list PySem.F.slot_list_pop PySem.F.type_list_pop mt_pop (pv 0)) (pv 1))))), fn_tw (n := 2) (k := 0) (b := tb__law_take fu) rfl (rs_seq (rs_if (rt_e (re_eqI (re_fn rc_len (rl_cons (re_var 0) rl_nil)) (re_int _))) (rs_ret (re_int _)) rs_next) (rs_ret (re_op r2_mod (re_mt0 rm_pop (re_var 0)) (re_var 1)))) h⟩)
noncomputable def tb__law_word (fu : Nat) : TwS := (sSeq (sAsg (eC (.str "")) (gN 2)) (sSeq (sFor (iR1 (eVar 1)) (gN 3) (sSeq (sAsg (eOp dCatS (eVar 2) (eOp dIxS (eC (.str "abcdefghijklmnopqrstuvwxyz")) (eOp dMod (eVar 0) (eC (.int 26))))) (gN 2)) (sAsg (eOp dFdiv (eVar 0) (eC (.int 26))) (gN 0)))) (sRet (eVar 2))))
noncomputable def tw__law_word (fu : Nat) : TwF := runTw 2 2 (tb__law_word fu)
theorem ok__law_word (T : Tx K mg) : FnOk P w K mg base (CXE P w) 1 T.a__law_word T.fd__law_word ["_law_number", "_law_size"] (sTw K 2 (tw__law_word fu)) :=
 T.F__law_word.okE sc__law_word (fun vs H Q E h => h.1) (fun cdv A outer s H vs Q E hr h => ⟨_, (@pss_cons _ _ _ _ _ (@ps_set _ _ 2 _ _ _ _ sc__law_word.nd rfl (Or.inl rfl) pe_str (by rfl) (by first | exact .inl rfl | exact .inr rfl | assumption)) (@pss_cons _ _ _ _ _ (ps_for PassesOwn.leaving rfl (pi_range1 rfl T.n_range (@pa_cons _ _ _ _ _ (pv 1) pa_nil se_Name)) (pg_name (i := 3) sc__law_word.nd rfl (Or.inl rfl)) (@pss_cons _ _ _ _ _ (@ps_set _ _ 2 _ _ _ _ sc__law_word.nd rfl (Or.inl rfl) (pe_op op_add_str (pv 2) (@pe_ix _ _ _ _ _ _ _ ix_str pe_str (pe_op op_mod (pv 0) pe_int) (fun _ _ => rfl))) (by rfl) (by first | exact .inl rfl | exact .inr rfl | assumption)) (@pss_one _ _ _ (@ps_set _ _ 0 _ _ _ _ sc__law_word.nd rfl (Or.inl rfl) (pe_op op_fdiv (pv 0) pe_int) (by rfl) (by first | exact .inl rfl | exact .inr rfl | assumption))))) (@pss_one _ _ _ (@ps_ret _ _ _ _ (pv 2))))), fn_tw (n := 2) (k := 2) (b := tb__law_word fu) rfl (rs_seq (rs_asg (re_str _) rg_name) (rs_seq (rs_for (ri_range1 (re_var 1)) rg_name (rs_seq (rs_asg (re_op r2_catS (re_var 2) (re_op r2_ixS (re_str _) (re_op r2_mod (re_var 0) (re_int _)))) rg_name) (rs_asg (re_op r2_fdiv (re_var 0) (re_int _)) rg_name))) (rs_ret (re_var 2)))) h⟩)
noncomputable def tb__law_names (fu : Nat) : TwS := (sSeq (sAsg (eCall (tw__law_take fu) [(eVar 0), (eC (.int 4))]) (gN 2)) (sSeq (sIf (bE (eOp dEqI (eVar 2) (eC (.int 1)))) (sSeq (sAsg (eLst [(eC (.str "pass")), (eC (.str "end")), (eC (.str "lost")), (eC (.str "set")), (eC (.str "hand")), (eC (.str "draw")), (eC (.str "if")), (eC (.str "gain")), (eC (.str "while")), (eC (.str "look")), (eC (.str "times")), (eC (.str "leaf")), (eC (.str "fork"))]) (gN 3)) (sSeq (sAsg (eCall (tw__law_take fu) [(eVar 0), (eC (.int 13))]) (gN 4)) (sRet (eComp [none, some 3, some 4] (iR1 (eVar 1)) (gN 0) bTrue (eOp dIxL (eVar 1) (eOp dMod (eOp dAdd (eVar 2) (eVar 0)) (eC (.int 13)))))))) sNext) (sSeq (sAsg (eCall (tw__law_word fu) [(eCall (tw__law_take fu) [(eVar 0), (eOp dPow (eC (.int 26)) (eC (.int 8)))]), (eC (.int 8))]) (gN 5)) (sSeq (sIf (bAnd (bE (eOp dEqI (eVar 2) (eC (.int 2)))) (bE (eOp dLt (eVar 1) (eC (.int 9))))) (sRet (eComp [none, some 5] (iR1 (eVar 1)) (gN 0) bTrue (eSl dSlS (eVar 1) oNo (oSome (eOp dAdd (eVar 0) (eC (.int 1))))))) sNext) (sSeq (sAsg (eCall (tw__law_take fu) [(eVar 0), (eC (.int 1664))]) (gN 6)) (sSeq (sAsg (eOp dAdd (eC (.int 1)) (eOp dMod (eVar 6) (eC (.int 8)))) (gN 7)) (sSeq (sAsg (eOp dMod (eOp dFdiv (eVar 6) (eC (.int 8))) (eVar 7)) (gN 8)) (sRet (eComp [none, some 5, some 7, some 8, some 6] (iR1 (eVar 1)) (gN 0) bTrue (eOp dCatS (eOp dCatS (eSl dSlS (eVar 1) oNo (oSome (eVar 3))) (eCall (tw__law_word fu) [(eOp dAdd (eOp dFdiv (eVar 4) (eC (.int 64))) (eVar 0)), (eC (.int 1))])) (eSl dSlS (eVar 1) (oSome (eOp dAdd (eVar 3) (eC (.int 1)))) (oSome (eVar 2)))))))))))))
noncomputable def tw__law_names (fu : Nat) : TwF := runTw 2 7 (tb__law_names fu)
theorem ok__law_names (T : Tx K mg) : FnOk P w K mg base (CXE P w) 2 T.a__law_names T.fd__law_names ["_law_left", "_law_many"] (sTw K 2 (tw__law_names fu)) :=
 T.F__law_names.okE sc__law_names (fun vs H Q E h => h.1) (fun cdv A outer s H vs Q E hr h => ⟨_, (@pss_cons _ _ _ _ _ (@ps_set _ _ 2 _ _ _ _ sc__law_names.nd rfl (Or.inl rfl) (pe_call (ok__law_take (fu := fu) T) (hr.mono (by decide)) rfl T.m__law_take T.F__law_take.kp T.b__law_take .nil passE (@pa_cons _ _ _ _ _ (pv 0) (@pa_cons _ _ _ _ _ pe_int pa_nil se_Constant) se_Name)) (by rfl) (by first | exact .inl rfl | exact .inr rfl | assumption)) (@pss_cons _ _ _ _ _ (ps_if (pt_cmp (pc_eqI (pv 2) pe_int)) (@pss_cons _ _ _ _ _ (@ps_set _ _ 3 _ _ _ _ sc__law_names.nd rfl (Or.inr rfl) (@pe_lst _ _ _ _ (@pa_cons _ _ _ _ _ pe_str (@pa_cons _ _ _ _ _ pe_str (@pa_cons _ _ _ _ _ pe_str (@pa_cons _ _ _ _ _ pe_str (@pa_cons _ _ _ _ _ pe_str (@pa_cons _ _ _ _ _ pe_str (@pa_cons _ _ _ _ _ pe_str (@pa_cons _ _ _ _ _ pe_str (@pa_cons _ _ _ _ _ pe_str (@pa_cons _ _ _ _ _ pe_str (@pa_cons _ _ _ _ _ pe_str (@pa_cons _ _ _ _ _ pe_str (@pa_cons _ _ _ _ _ pe_str pa_nil se_Constant) se_Constant) se_Constant) se_Constant) se_Constant) se_Constant) se_Constant) se_Constant) se_Constant) se_Constant) se_Constant) se_Constant) se_Constant)) (by rfl) (by first | exact .inl rfl | exact .inr rfl | assumption)) (@pss_cons _ _ _ _ _ (@ps_set _ _ 4 _ _ _ _ sc__law_names.nd rfl (Or.inr rfl) (pe_call (ok__law_take (fu := fu) T) (hr.mono (by decide)) rfl T.m__law_take T.F__law_take.kp T.b__law_take .nil passE (@pa_cons _ _ _ _ _ (pv 0) (@pa_cons _ _ _ _ _ pe_int pa_nil se_Constant) se_Name)) (by rfl) (by first | exact .inl rfl | exact .inr rfl | assumption)) (@pss_one _ _ _ (@ps_ret _ _ _ _ (pe_comp (N' := ["_law_k", "_law_some", "_law_turn"]) rfl (blk (osc := defScope s__law_names) rfl (by decide +kernel)) (cap_own (cap_out (i := 3) rfl rfl (cap_out (i := 4) rfl rfl cap_nil))) (pi_range1 rfl T.n_range (@pa_cons _ _ _ _ _ (pv 1) pa_nil se_Name)) (gown_name rfl) (fun C s₀ H₀ fp => pg_name (i := 0) (show (["_law_k", "_law_some", "_law_turn"] : List Str).Nodup from by decide +kernel) rfl (Or.inl rfl)) (fun C s₀ H₀ fp => pts_nil) (fun C s₀ H₀ fp => (@pe_ix _ _ _ _ _ _ _ (ix_listK (K := K)) (pv 1) (pe_op op_mod (pe_op op_add (pv 2) (pv 0)) pe_int) (fun _ _ => rfl)))))))) pss_nil) (@pss_cons _ _ _ _ _ (@ps_set _ _ 5 _ _ _ _ sc__law_names.nd rfl (Or.inr rfl) (pe_call (ok__law_word (fu := fu) T) (hr.mono (by decide)) rfl T.m__law_word T.F__law_word.kp T.b__law_word .nil passE (@pa_cons _ _ _ _ _ (pe_call (ok__law_take (fu := fu) T) (hr.mono (by decide)) rfl T.m__law_take T.F__law_take.kp T.b__law_take .nil passE (@pa_cons _ _ _ _ _ (pv 0) (@pa_cons _ _ _ _ _ (pe_op op_pow pe_int pe_int) pa_nil se_BinOp) se_Name)) (@pa_cons _ _ _ _ _ pe_int pa_nil se_Constant) se_Call)) (by rfl) (by first | exact .inl rfl | exact .inr rfl | assumption)) (@pss_cons _ _ _ _ _ (ps_if (PW.pt (pw_and (pt_cmp (pc_eqI (pv 2) pe_int)) (pw_and1 (pt_cmp (pc_lt (pv 1) pe_int))))) (@pss_one _ _ _ (@ps_ret _ _ _ _ (pe_comp (N' := ["_law_k", "_law_word_here"]) rfl (blk (osc := defScope s__law_names) rfl (by decide +kernel)) (cap_own (cap_out (i := 5) rfl rfl cap_nil)) (pi_range1 rfl T.n_range (@pa_cons _ _ _ _ _ (pv 1) pa_nil se_Name)) (gown_name rfl) (fun C s₀ H₀ fp => pg_name (i := 0) (show (["_law_k", "_law_word_here"] : List Str).Nodup from by decide +kernel) rfl (Or.inl rfl)) (fun C s₀ H₀ fp => pts_nil) (fun C s₀ H₀ fp => (pe_slice sl_str (pv 1) po_none (po_some (pe_op op_add (pv 0) pe_int))))))) pss_nil) (@pss_cons _ _ _ _ _ (@ps_set _ _ 6 _ _ _ _ sc__law_names.nd rfl (Or.inr rfl) (pe_call (ok__law_take (fu := fu) T) (hr.mono (by decide)) rfl T.m__law_take T.F__law_take.kp T.b__law_take .nil passE (@pa_cons _ _ _ _ _ (pv 0) (@pa_cons _ _ _ _ _ pe_int pa_nil se_Constant) se_Name)) (by rfl) (by first | exact .inl rfl | exact .inr rfl | assumption)) (@pss_cons _ _ _ _ _ (@ps_set _ _ 7 _ _ _ _ sc__law_names.nd rfl (Or.inr rfl) (pe_op op_add pe_int (pe_op op_mod (pv 6) pe_int)) (by rfl) (by first | exact .inl rfl | exact .inr rfl | assumption)) (@pss_cons _ _ _ _ _ (@ps_set _ _ 8 _ _ _ _ sc__law_names.nd rfl (Or.inr rfl) (pe_op op_mod (pe_op op_fdiv (pv 6) pe_int) (pv 7)) (by rfl) (by first | exact .inl rfl | exact .inr rfl | assumption)) (@pss_one _ _ _ (@ps_ret _ _ _ _ (pe_comp (N' := ["_law_k", "_law_word_here", "_law_size", "_law_at", "_law_cell"]) rfl (blk (osc := defScope s__law_names) rfl (by decide +kernel)) (cap_own (cap_out (i := 5) rfl rfl (cap_out (i := 7) rfl rfl (cap_out (i := 8) rfl rfl (cap_out (i := 6) rfl rfl cap_nil))))) (pi_range1 rfl T.n_range (@pa_cons _ _ _ _ _ (pv 1) pa_nil se_Name)) (gown_name rfl) (fun C s₀ H₀ fp => pg_name (i := 0) (show (["_law_k", "_law_word_here", "_law_size", "_law_at", "_law_cell"] : List Str).Nodup from by decide +kernel) rfl (Or.inl rfl)) (fun C s₀ H₀ fp => pts_nil) (fun C s₀ H₀ fp => (pe_op op_add_str (pe_op op_add_str (pe_slice sl_str (pv 1) po_none (po_some (pv 3))) (pe_call (ok__law_word (fu := fu) T) (hr.mono (by decide)) rfl T.m__law_word T.F__law_word.kp T.b__law_word .nil passF (@pa_cons _ _ _ _ _ (pe_op op_add (pe_op op_fdiv (pv 4) pe_int) (pv 0)) (@pa_cons _ _ _ _ _ pe_int pa_nil se_Constant) se_BinOp))) (pe_slice sl_str (pv 1) (po_some (pe_op op_add (pv 3) pe_int)) (po_some (pv 2))))))))))))))), fn_tw (n := 2) (k := 7) (b := tb__law_names fu) rfl (rs_seq (rs_asg (re_call (rl_cons (re_var 0) (rl_cons (re_int _) rl_nil))) rg_name) (rs_seq (rs_if (rt_e (re_eqI (re_var 2) (re_int _))) (rs_seq (rs_asg (re_lst (rl_cons (re_str _) (rl_cons (re_str _) (rl_cons (re_str _) (rl_cons (re_str _) (rl_cons (re_str _) (rl_cons (re_str _) (rl_cons (re_str _) (rl_cons (re_str _) (rl_cons (re_str _) (rl_cons (re_str _) (rl_cons (re_str _) (rl_cons (re_str _) (rl_cons (re_str _) rl_nil)))))))))))))) rg_name) (rs_seq (rs_asg (re_call (rl_cons (re_var 0) (rl_cons (re_int _) rl_nil))) rg_name) (rs_ret (re_comp (cap := [none, some 3, some 4]) (ri_range1 (re_var 1)) rg_name rt_true (re_op r2_ixL (re_var 1) (re_op r2_mod (re_op r2_add (re_var 2) (re_var 0)) (re_int _))))))) rs_next) (rs_seq (rs_asg (re_call (rl_cons (re_call (rl_cons (re_var 0) (rl_cons (re_op r2_pow (re_int _) (re_int _)) rl_nil))) (rl_cons (re_int _) rl_nil))) rg_name) (rs_seq (rs_if (rt_and (rt_e (re_eqI (re_var 2) (re_int _))) (rt_e (re_lt (re_var 1) (re_int _)))) (rs_ret (re_comp (cap := [none, some 5]) (ri_range1 (re_var 1)) rg_name rt_true (re_slS (re_var 1) ro_no (ro_some (re_op r2_add (re_var 0) (re_int _)))))) rs_next) (rs_seq (rs_asg (re_call (rl_cons (re_var 0) (rl_cons (re_int _) rl_nil))) rg_name) (rs_seq (rs_asg (re_op r2_add (re_int _) (re_op r2_mod (re_var 6) (re_int _))) rg_name) (rs_seq (rs_asg (re_op r2_mod (re_op r2_fdiv (re_var 6) (re_int _)) (re_var 7)) rg_name) (rs_ret (re_comp (cap := [none, some 5, some 7, some 8, some 6]) (ri_range1 (re_var 1)) rg_name rt_true (re_op r2_catS (re_op r2_catS (re_slS (re_var 1) ro_no (ro_some (re_var 3))) (re_call (rl_cons (re_op r2_add (re_op r2_fdiv (re_var 4) (re_int _)) (re_var 0)) (rl_cons (re_int _) rl_nil)))) (re_slS (re_var 1) (ro_some (re_op r2_add (re_var 3) (re_int _))) (ro_some (re_var 2))))))))))))) h⟩)
noncomputable def tb__law_boxes (fu : Nat) : TwS := (sSeq (sAsg (eCall (tw__law_take fu) [(eVar 0), (eC (.int 40))]) (gN 2)) (sSeq (sIf (bE (eOp dGt (eVar 2) (eC (.int 9)))) (sAsg (eOp dAdd (eC (.int 1)) (eOp dMod (eVar 2) (eC (.int 3)))) (gN 2)) sNext) (sSeq (sAsg (eTup []) (gN 3)) (sSeq (sAsg (eC (.int 1)) (gN 4)) (sSeq (sFor (iL (eCall (tw__law_names fu) [(eVar 0), (eVar 2)])) (gN 5) (sSeq (sAsg (eFn dMin [(eOp dAdd (eC (.int 1)) (eCall (tw__law_take fu) [(eVar 0), (eC (.int 9))])), (eOp dFdivB (eVar 1) (eVar 4))]) (gN 6)) (sSeq (sAsg (eOp dCatT (eVar 3) (eTup [(eTup [(eVar 5), (eVar 6)])])) (gN 3)) (sAsg (eOp dMulB (eVar 4) (eVar 6)) (gN 4))))) (sRet (eVar 3)))))))
noncomputable def tw__law_boxes (fu : Nat) : TwF := runTw 2 5 (tb__law_boxes fu)
theorem ok__law_boxes (T : Tx K mg) : FnOk P w K mg base (CXE P w) 3 T.a__law_boxes T.fd__law_boxes ["_law_left", "_law_most"] (sTw K 2 (tw__law_boxes fu)) :=
 T.F__law_boxes.okE sc__law_boxes (fun vs H Q E h => h.1) (fun cdv A outer s H vs Q E hr h => ⟨_, (@pss_cons _ _ _ _ _ (@ps_set _ _ 2 _ _ _ _ sc__law_boxes.nd rfl (Or.inl rfl) (pe_call (ok__law_take (fu := fu) T) (hr.mono (by decide)) rfl T.m__law_take T.F__law_take.kp T.b__law_take .nil passE (@pa_cons _ _ _ _ _ (pv 0) (@pa_cons _ _ _ _ _ pe_int pa_nil se_Constant) se_Name)) (by rfl) (by first | exact .inl rfl | exact .inr rfl | assumption)) (@pss_cons _ _ _ _ _ (ps_if (pt_cmp (pc_gt (pv 2) pe_int)) (@pss_one _ _ _ (@ps_set _ _ 2 _ _ _ _ sc__law_boxes.nd rfl (Or.inl rfl) (pe_op op_add pe_int (pe_op op_mod (pv 2) pe_int)) (by rfl) (by first | exact .inl rfl | exact .inr rfl | assumption))) pss_nil) (@pss_cons _ _ _ _ _ (@ps_set _ _ 3 _ _ _ _ sc__law_boxes.nd rfl (Or.inl rfl) (@pe_tup _ _ _ _ _ pa_nil) (by rfl) (by first | exact .inl rfl | exact .inr rfl | assumption)) (@pss_cons _ _ _ _ _ (@ps_set _ _ 4 _ _ _ _ sc__law_boxes.nd rfl (Or.inl rfl) pe_int (by rfl) (by first | exact .inl rfl | exact .inr rfl | assumption)) (@pss_cons _ _ _ _ _ (ps_for PassesOwn.leaving rfl (pi_listK (K := K) (pe_call (ok__law_names (fu := fu) T) (hr.mono (by decide)) rfl T.m__law_names T.F__law_names.kp T.b__law_names .nil passE (@pa_cons _ _ _ _ _ (pv 0) (@pa_cons _ _ _ _ _ (pv 2) pa_nil se_Name) se_Name))) (pg_name (i := 5) sc__law_boxes.nd rfl (Or.inl rfl)) (@pss_cons _ _ _ _ _ (@ps_set _ _ 6 _ _ _ _ sc__law_boxes.nd rfl (Or.inl rfl) (pe_callB (call_min2 rfl) rfl T.n_min boot_min (@pa_cons _ _ _ _ _ (pe_op op_add pe_int (pe_call (ok__law_take (fu := fu) T) (hr.mono (by decide)) rfl T.m__law_take T.F__law_take.kp T.b__law_take .nil passE (@pa_cons _ _ _ _ _ (pv 0) (@pa_cons _ _ _ _ _ pe_int pa_nil se_Constant) se_Name))) (@pa_cons _ _ _ _ _ (pe_op op_fdivB (pv 1) (pv 4)) pa_nil se_BinOp) se_BinOp)) (by rfl) (by first | exact .inl rfl | exact .inr rfl | assumption)) (@pss_cons _ _ _ _ _ (@ps_set _ _ 3 _ _ _ _ sc__law_boxes.nd rfl (Or.inl rfl) (pe_op (op_catA (K := K)) (pv 3) (@pe_tup _ _ _ _ _ (@pa_cons _ _ _ _ _ (@pe_tup _ _ _ _ _ (@pa_cons _ _ _ _ _ (pv 5) (@pa_cons _ _ _ _ _ (pv 6) pa_nil se_Name) se_Name)) pa_nil se_Tuple))) (by rfl) (by first | exact .inl rfl | exact .inr rfl | assumption)) (@pss_one _ _ _ (@ps_set _ _ 4 _ _ _ _ sc__law_boxes.nd rfl (Or.inl rfl) (pe_op op_mulB (pv 4) (pv 6)) (by rfl) (by first | exact .inl rfl | exact .inr rfl | assumption)))))) (@pss_one _ _ _ (@ps_ret _ _ _ _ (pv 3)))))))), fn_tw (n := 2) (k := 5) (b := tb__law_boxes fu) rfl (rs_seq (rs_asg (re_call (rl_cons (re_var 0) (rl_cons (re_int _) rl_nil))) rg_name) (rs_seq (rs_if (rt_e (re_gt (re_var 2) (re_int _))) (rs_asg (re_op r2_add (re_int _) (re_op r2_mod (re_var 2) (re_int _))) rg_name) rs_next) (rs_seq (rs_asg (re_tup rl_nil) rg_name) (rs_seq (rs_asg (re_int _) rg_name) (rs_seq (rs_for (ri_list (re_call (rl_cons (re_var 0) (rl_cons (re_var 2) rl_nil)))) rg_name (rs_seq (rs_asg (re_fn rc_min (rl_cons (re_op r2_add (re_int _) (re_call (rl_cons (re_var 0) (rl_cons (re_int _) rl_nil)))) (rl_cons (re_op r2_fdivB (re_var 1) (re_var 4)) rl_nil))) rg_name) (rs_seq (rs_asg (re_op r2_catT (re_var 3) (re_tup (rl_cons (re_tup (rl_cons (re_var 5) (rl_cons (re_var 6) rl_nil))) rl_nil))) rg_name) (rs_asg (re_op r2_mulB (re_var 4) (re_var 6)) rg_name)))) (rs_ret (re_var 3))))))) h⟩)
noncomputable def tb__law_state (fu : Nat) : TwS := (sRet (eFn dTuple [(eComp [none, some 0] (iT (eVar 1)) (gN 0) bTrue (eCall (tw__law_take fu) [(eVar 1), (eOp dIxT (eVar 0) (eC (.int 1)))]))]))
noncomputable def tw__law_state (fu : Nat) : TwF := runTw 2 0 (tb__law_state fu)
theorem ok__law_state (T : Tx K mg) : FnOk P w K mg base (CXE P w) 2 T.a__law_state T.fd__law_state ["_law_left", "_law_boxes_here"] (sTw K 2 (tw__law_state fu)) :=
 T.F__law_state.okE sc__law_state (fun vs H Q E h => h.1) (fun cdv A outer s H vs Q E hr h => ⟨_, (@pss_one _ _ _ (@ps_ret _ _ _ _ (pe_callTy (call_tupleK (K := K)) rfl T.n_tuple boot_tuple (pa_cons (pe_comp (N' := ["_law_box", "_law_left"]) rfl (blk (osc := defScope s__law_state) rfl (by decide +kernel)) (cap_own (cap_out (i := 0) rfl rfl cap_nil)) (pi_tupK (K := K) (pv 1)) (gown_name rfl) (fun C s₀ H₀ fp => pg_name (i := 0) (show (["_law_box", "_law_left"] : List Str).Nodup from by decide +kernel) rfl (Or.inl rfl)) (fun C s₀ H₀ fp => pts_nil) (fun C s₀ H₀ fp => (pe_call (ok__law_take (fu := fu) T) (hr.mono (by decide)) rfl T.m__law_take T.F__law_take.kp T.b__law_take .nil passF (@pa_cons _ _ _ _ _ (pv 1) (@pa_cons _ _ _ _ _ (@pe_ix _ _ _ _ _ _ _ (ix_tupK (K := K)) (pv 0) pe_int (fun _ _ => rfl)) pa_nil se_Subscript) se_Name)))) pa_nil)))), fn_tw (n := 2) (k := 0) (b := tb__law_state fu) rfl (rs_ret (re_fn rc_tuple (rl_cons (re_comp (cap := [none, some 0]) (ri_tup (re_var 1)) rg_name rt_true (re_call (rl_cons (re_var 1) (rl_cons (re_op r2_ixT (re_var 0) (re_int _)) rl_nil)))) rl_nil))) h⟩)
noncomputable def tb__law_low (fu : Nat) : TwS := (sSeq (sAsg (eFn dAbs [(eVar 0)]) (gN 2)) (sSeq (sAsg (eVar 1) (gN 3)) (sSeq (sWh fu (bE (eOp dGt (eVar 3) (eC (.int 0)))) (sSeq (sAsg (eOp dMod (eVar 2) (eVar 3)) (gN 4)) (sSeq (sAsg (eVar 3) (gN 2)) (sAsg (eVar 4) (gN 3))))) (sRet (eTup [(eOp dFdivB (eVar 0) (eVar 2)), (eOp dFdivB (eVar 1) (eVar 2))])))))
noncomputable def tw__law_low (fu : Nat) : TwF := runTw 2 3 (tb__law_low fu)
theorem ok__law_low (T : Tx K mg) : FnOk P w K mg base (CXE P w) 1 T.a__law_low T.fd__law_low ["_law_top", "_law_bottom"] (sTw K 2 (tw__law_low fu)) :=
 T.F__law_low.okE sc__law_low (fun vs H Q E h => h.1) (fun cdv A outer s H vs Q E hr h => ⟨_, (@pss_cons _ _ _ _ _ (@ps_set _ _ 2 _ _ _ _ sc__law_low.nd rfl (Or.inl rfl) (pe_callB call_abs rfl T.n_abs boot_abs (@pa_cons _ _ _ _ _ (pv 0) pa_nil se_Name)) (by rfl) (by first | exact .inl rfl | exact .inr rfl | assumption)) (@pss_cons _ _ _ _ _ (@ps_set _ _ 3 _ _ _ _ sc__law_low.nd rfl (Or.inl rfl) (pv 1) (by rfl) (by first | exact .inl rfl | exact .inr rfl | assumption)) (@pss_cons _ _ _ _ _ (ps_while PassesOwn.leaving (pt_cmp (pc_gt (pv 3) pe_int)) (@pss_cons _ _ _ _ _ (@ps_set _ _ 4 _ _ _ _ sc__law_low.nd rfl (Or.inl rfl) (pe_op op_mod (pv 2) (pv 3)) (by rfl) (by first | exact .inl rfl | exact .inr rfl | assumption)) (@pss_cons _ _ _ _ _ (@ps_set _ _ 2 _ _ _ _ sc__law_low.nd rfl (Or.inl rfl) (pv 3) (by rfl) (by first | exact .inl rfl | exact .inr rfl | assumption)) (@pss_one _ _ _ (@ps_set _ _ 3 _ _ _ _ sc__law_low.nd rfl (Or.inl rfl) (pv 4) (by rfl) (by first | exact .inl rfl | exact .inr rfl | assumption)))))) (@pss_one _ _ _ (@ps_ret _ _ _ _ (@pe_tup _ _ _ _ _ (@pa_cons _ _ _ _ _ (pe_op op_fdivB (pv 0) (pv 2)) (@pa_cons _ _ _ _ _ (pe_op op_fdivB (pv 1) (pv 2)) pa_nil se_BinOp) se_BinOp))))))), fn_tw (n := 2) (k := 3) (b := tb__law_low fu) rfl (rs_seq (rs_asg (re_fn rc_abs (rl_cons (re_var 0) rl_nil)) rg_name) (rs_seq (rs_asg (re_var 1) rg_name) (rs_seq (rs_while (rt_e (re_gt (re_var 3) (re_int _))) (rs_seq (rs_asg (re_op r2_mod (re_var 2) (re_var 3)) rg_name) (rs_seq (rs_asg (re_var 3) rg_name) (rs_asg (re_var 4) rg_name)))) (rs_ret (re_tup (rl_cons (re_op r2_fdivB (re_var 0) (re_var 2)) (rl_cons (re_op r2_fdivB (re_var 1) (re_var 2)) rl_nil))))))) h⟩)
noncomputable def tb__law_ratio (fu : Nat) : TwS := (sSeq (sAsg (eCall (tw__law_take fu) [(eVar 0), (eC (.int 4))]) (gN 1)) (sSeq (sIf (bE (eOp dEqI (eVar 1) (eC (.int 1)))) (sSeq (sAsg (eOp dAdd (eOp dSub (eCall (tw__law_take fu) [(eVar 0), (eOp dSub (eOp dMul (eC (.int 2)) (eOp dPow (eC (.int 10)) (eC (.int 60)))) (eC (.int 1)))]) (eOp dPow (eC (.int 10)) (eC (.int 60)))) (eC (.int 1))) (gN 2)) (sRet (eCall (tw__law_low fu) [(eVar 2), (eOp dAdd (eC (.int 1)) (eCall (tw__law_take fu) [(eVar 0), (eOp dSub (eOp dPow (eC (.int 10)) (eC (.int 60))) (eC (.int 1)))]))]))) sNext) (sSeq (sIf (bE (eOp dEqI (eVar 1) (eC (.int 2)))) (sRet (eCall (tw__law_low fu) [(eOp dSub (eCall (tw__law_take fu) [(eVar 0), (eC (.int 21))]) (eC (.int 10))), (eOp dAdd (eC (.int 1)) (eCall (tw__law_take fu) [(eVar 0), (eC (.int 10))]))])) sNext) (sRet (eTup [(eOp dSub (eCall (tw__law_take fu) [(eVar 0), (eC (.int 3))]) (eOp dFdiv (eVar 1) (eC (.int 3)))), (eC (.int 1))])))))
noncomputable def tw__law_ratio (fu : Nat) : TwF := runTw 1 2 (tb__law_ratio fu)
theorem ok__law_ratio (T : Tx K mg) : FnOk P w K mg base (CXE P w) 2 T.a__law_ratio T.fd__law_ratio ["_law_left"] (sTw K 1 (tw__law_ratio fu)) :=
 T.F__law_ratio.okE sc__law_ratio (fun vs H Q E h => h.1) (fun cdv A outer s H vs Q E hr h => ⟨_, (@pss_cons _ _ _ _ _ (@ps_set _ _ 1 _ _ _ _ sc__law_ratio.nd rfl (Or.inl rfl) (pe_call (ok__law_take (fu := fu) T) (hr.mono (by decide)) rfl T.m__law_take T.F__law_take.kp T.b__law_take .nil passE (@pa_cons _ _ _ _ _ (pv 0) (@pa_cons _ _ _ _ _ pe_int pa_nil se_Constant) se_Name)) (by rfl) (by first | exact .inl rfl | exact .inr rfl | assumption)) (@pss_cons _ _ _ _ _ (ps_if (pt_cmp (pc_eqI (pv 1) pe_int)) (@pss_cons _ _ _ _ _ (@ps_set _ _ 2 _ _ _ _ sc__law_ratio.nd rfl (Or.inl rfl) (pe_op op_add (pe_op op_sub (pe_call (ok__law_take (fu := fu) T) (hr.mono (by decide)) rfl T.m__law_take T.F__law_take.kp T.b__law_take .nil passE (@pa_cons _ _ _ _ _ (pv 0) (@pa_cons _ _ _ _ _ (pe_op op_sub (pe_op op_mul pe_int (pe_op op_pow pe_int pe_int)) pe_int) pa_nil se_BinOp) se_Name)) (pe_op op_pow pe_int pe_int)) pe_int) (by rfl) (by first | exact .inl rfl | exact .inr rfl | assumption)) (@pss_one _ _ _ (@ps_ret _ _ _ _ (pe_call (ok__law_low (fu := fu) T) (hr.mono (by decide)) rfl T.m__law_low T.F__law_low.kp T.b__law_low .nil passE (@pa_cons _ _ _ _ _ (pv 2) (@pa_cons _ _ _ _ _ (pe_op op_add pe_int (pe_call (ok__law_take (fu := fu) T) (hr.mono (by decide)) rfl T.m__law_take T.F__law_take.kp T.b__law_take .nil passE (@pa_cons _ _ _ _ _ (pv 0) (@pa_cons _ _ _ _ _ (pe_op op_sub (pe_op op_pow pe_int pe_int) pe_int) pa_nil se_BinOp) se_Name))) pa_nil se_BinOp) se_Name))))) pss_nil) (@pss_cons _ _ _ _ _ (ps_if (pt_cmp (pc_eqI (pv 1) pe_int)) (@pss_one _ _ _ (@ps_ret _ _ _ _ (pe_call (ok__law_low (fu := fu) T) (hr.mono (by decide)) rfl T.m__law_low T.F__law_low.kp T.b__law_low .nil passE (@pa_cons _ _ _ _ _ (pe_op op_sub (pe_call (ok__law_take (fu := fu) T) (hr.mono (by decide)) rfl T.m__law_take T.F__law_take.kp T.b__law_take .nil passE (@pa_cons _ _ _ _ _ (pv 0) (@pa_cons _ _ _ _ _ pe_int pa_nil se_Constant) se_Name)) pe_int) (@pa_cons _ _ _ _ _ (pe_op op_add pe_int (pe_call (ok__law_take (fu := fu) T) (hr.mono (by decide)) rfl T.m__law_take T.F__law_take.kp T.b__law_take .nil passE (@pa_cons _ _ _ _ _ (pv 0) (@pa_cons _ _ _ _ _ pe_int pa_nil se_Constant) se_Name))) pa_nil se_BinOp) se_BinOp)))) pss_nil) (@pss_one _ _ _ (@ps_ret _ _ _ _ (@pe_tup _ _ _ _ _ (@pa_cons _ _ _ _ _ (pe_op op_sub (pe_call (ok__law_take (fu := fu) T) (hr.mono (by decide)) rfl T.m__law_take T.F__law_take.kp T.b__law_take .nil passE (@pa_cons _ _ _ _ _ (pv 0) (@pa_cons _ _ _ _ _ pe_int pa_nil se_Constant) se_Name)) (pe_op op_fdiv (pv 1) pe_int)) (@pa_cons _ _ _ _ _ pe_int pa_nil se_Constant) se_BinOp))))))), fn_tw (n := 1) (k := 2) (b := tb__law_ratio fu) rfl (rs_seq (rs_asg (re_call (rl_cons (re_var 0) (rl_cons (re_int _) rl_nil))) rg_name) (rs_seq (rs_if (rt_e (re_eqI (re_var 1) (re_int _))) (rs_seq (rs_asg (re_op r2_add (re_op r2_sub (re_call (rl_cons (re_var 0) (rl_cons (re_op r2_sub (re_op r2_mul (re_int _) (re_op r2_pow (re_int _) (re_int _))) (re_int _)) rl_nil))) (re_op r2_pow (re_int _) (re_int _))) (re_int _)) rg_name) (rs_ret (re_call (rl_cons (re_var 2) (rl_cons (re_op r2_add (re_int _) (re_call (rl_cons (re_var 0) (rl_cons (re_op r2_sub (re_op r2_pow (re_int _) (re_int _)) (re_int _)) rl_nil)))) rl_nil))))) rs_next) (rs_seq (rs_if (rt_e (re_eqI (re_var 1) (re_int _))) (rs_ret (re_call (rl_cons (re_op r2_sub (re_call (rl_cons (re_var 0) (rl_cons (re_int _) rl_nil))) (re_int _)) (rl_cons (re_op r2_add (re_int _) (re_call (rl_cons (re_var 0) (rl_cons (re_int _) rl_nil)))) rl_nil)))) rs_next) (rs_ret (re_tup (rl_cons (re_op r2_sub (re_call (rl_cons (re_var 0) (rl_cons (re_int _) rl_nil))) (re_op r2_fdiv (re_var 1) (re_int _))) (rl_cons (re_int _) rl_nil))))))) h⟩)
noncomputable def tb__law_same (fu : Nat) (r__law_same : TwF) : TwS := (sSeq (sIf (bE (eUn (dIsi "tuple") (eVar 1))) (sSeq (sIf (bOr (bNot (bE (eUn (dIsi "tuple") (eVar 0)))) (bE (eOp dNeI (eFn dLen [(eVar 0)]) (eFn dLen [(eVar 1)])))) (sRet (eC (.bl false))) sNext) (sRet (eFn dAll [(eComp [none, some 0, some 1] (iR1 (eFn dLen [(eVar 1)])) (gN 0) bTrue (eCall r__law_same [(eOp dIxA (eVar 1) (eVar 0)), (eOp dIxA (eVar 2) (eVar 0))]))]))) sNext) (sSeq (sIf (bE (eUn (dIsi "list") (eVar 1))) (sSeq (sIf (bOr (bNot (bE (eUn (dIsi "list") (eVar 0)))) (bE (eOp dNeI (eFn dLen [(eVar 0)]) (eFn dLen [(eVar 1)])))) (sRet (eC (.bl false))) sNext) (sRet (eFn dAll [(eComp [none, some 0, some 1] (iR1 (eFn dLen [(eVar 1)])) (gN 0) bTrue (eCall r__law_same [(eOp dIxA (eVar 1) (eVar 0)), (eOp dIxA (eVar 2) (eVar 0))]))]))) sNext) (sSeq (sIf (bE (eUn dIsN (eVar 1))) (sRet (eUn dIsN (eVar 0))) sNext) (sSeq (sIf (bE (eUn (dIsi "str") (eVar 1))) (sRet (eAnd (eUn (dIsi "str") (eVar 0)) (eOp (dEqS false) (eVar 0) (eVar 1)))) sNext) (sRet (eAnd (eUn (dIsi "int") (eVar 0)) (eAnd (eB (bNot (bE (eUn (dIsi "bool") (eVar 0))))) (eOp (dEqS false) (eVar 0) (eVar 1)))))))))
noncomputable def tw__law_same (fu : Nat) : Nat → TwF
 | 0 => fun _ _ => none
 | n + 1 => runTw 2 0 (tb__law_same fu (tw__law_same fu n))
theorem tw__law_same_succ (fu n : Nat) : tw__law_same fu (n + 1) = runTw 2 0 (tb__law_same fu (tw__law_same fu n)) := by rfl
theorem tw__law_same_zero (fu : Nat) : tw__law_same fu 0 = fun _ _ => none := by rfl
theorem okg__law_same (T : Tx K mg) : ∀ n : Nat, FnOk P w K mg base (CXE P w) (0 + n) T.a__law_same T.fd__law_same ["_law_found", "_law_due"] (sTw K 2 (tw__law_same fu n)) := by
 intro n
 induction n with
 | zero =>
  skip
  ·rw [tw__law_same_zero]
   exact fn_none
 | succ n ih =>
  ·rw [tw__law_same_succ]
   exact T.F__law_same.okE sc__law_same (fun vs H Q E h => h.1) (fun cdv A outer s H vs Q E hr h => ⟨_, (@pss_cons _ _ _ _ _ (ps_if (pt_val (pe_callB (call_isiK (K := K)) rfl T.n_isinstance boot_isinstance (pa_cons (pv 1) (pa_cons (pe_bltn (v := .ty "tuple") rfl T.n_tuple boot_tuple rfl) pa_nil)))) (@pss_cons _ _ _ _ _ (ps_if (PW.pt (pw_or (pt_not (pt_val (pe_callB (call_isiK (K := K)) rfl T.n_isinstance boot_isinstance (pa_cons (pv 0) (pa_cons (pe_bltn (v := .ty "tuple") rfl T.n_tuple boot_tuple rfl) pa_nil))))) (pw_or1 (pt_cmp (pc_neI (pe_callB (call_lenK (K := K)) rfl T.n_len boot_len (@pa_cons _ _ _ _ _ (pv 0) pa_nil se_Name)) (pe_callB (call_lenK (K := K)) rfl T.n_len boot_len (@pa_cons _ _ _ _ _ (pv 1) pa_nil se_Name))))))) (@pss_one _ _ _ (@ps_ret _ _ _ _ pe_bl)) pss_nil) (@pss_one _ _ _ (@ps_ret _ _ _ _ (pe_callB (call_allK (K := K) rfl) rfl T.n_all PyProof.Rows.Boot.«all» (pa_cons (pe_comp (N' := ["_law_k", "_law_found", "_law_due"]) rfl (blk (osc := defScope s__law_same) rfl (by decide +kernel)) (cap_own (cap_out (i := 0) rfl rfl (cap_out (i := 1) rfl rfl cap_nil))) (pi_range1 rfl T.n_range (@pa_cons _ _ _ _ _ (pe_callB (call_lenK (K := K)) rfl T.n_len boot_len (@pa_cons _ _ _ _ _ (pv 1) pa_nil se_Name)) pa_nil se_Call)) (gown_name rfl) (fun C s₀ H₀ fp => pg_name (i := 0) (show (["_law_k", "_law_found", "_law_due"] : List Str).Nodup from by decide +kernel) rfl (Or.inl rfl)) (fun C s₀ H₀ fp => pts_nil) (fun C s₀ H₀ fp => (pe_call ih (hr.mono (by (try simp only [Nat.add_eq]); omega)) rfl T.m__law_same T.F__law_same.kp T.b__law_same .nil passF (@pa_cons _ _ _ _ _ (@pe_ix _ _ _ _ _ _ _ (ix_seqK (K := K)) (pv 1) (pv 0) (fun _ _ => rfl)) (@pa_cons _ _ _ _ _ (@pe_ix _ _ _ _ _ _ _ (ix_seqK (K := K)) (pv 2) (pv 0) (fun _ _ => rfl)) pa_nil se_Subscript) se_Subscript)))) pa_nil))))) pss_nil) (@pss_cons _ _ _ _ _ (ps_if (pt_val (pe_callB (call_isiK (K := K)) rfl T.n_isinstance boot_isinstance (pa_cons (pv 1) (pa_cons (pe_bltn (v := .ty "list") rfl T.n_list boot_list rfl) pa_nil)))) (@pss_cons _ _ _ _ _ (ps_if (PW.pt (pw_or (pt_not (pt_val (pe_callB (call_isiK (K := K)) rfl T.n_isinstance boot_isinstance (pa_cons (pv 0) (pa_cons (pe_bltn (v := .ty "list") rfl T.n_list boot_list rfl) pa_nil))))) (pw_or1 (pt_cmp (pc_neI (pe_callB (call_lenK (K := K)) rfl T.n_len boot_len (@pa_cons _ _ _ _ _ (pv 0) pa_nil se_Name)) (pe_callB (call_lenK (K := K)) rfl T.n_len boot_len (@pa_cons _ _ _ _ _ (pv 1) pa_nil se_Name))))))) (@pss_one _ _ _ (@ps_ret _ _ _ _ pe_bl)) pss_nil) (@pss_one _ _ _ (@ps_ret _ _ _ _ (pe_callB (call_allK (K := K) rfl) rfl T.n_all PyProof.Rows.Boot.«all» (pa_cons (pe_comp (N' := ["_law_k", "_law_found", "_law_due"]) rfl (blk (osc := defScope s__law_same) rfl (by decide +kernel)) (cap_own (cap_out (i := 0) rfl rfl (cap_out (i := 1) rfl rfl cap_nil))) (pi_range1 rfl T.n_range (@pa_cons _ _ _ _ _ (pe_callB (call_lenK (K := K)) rfl T.n_len boot_len (@pa_cons _ _ _ _ _ (pv 1) pa_nil se_Name)) pa_nil se_Call)) (gown_name rfl) (fun C s₀ H₀ fp => pg_name (i := 0) (show (["_law_k", "_law_found", "_law_due"] : List Str).Nodup from by decide +kernel) rfl (Or.inl rfl)) (fun C s₀ H₀ fp => pts_nil) (fun C s₀ H₀ fp => (pe_call ih (hr.mono (by (try simp only [Nat.add_eq]); omega)) rfl T.m__law_same T.F__law_same.kp T.b__law_same .nil passF (@pa_cons _ _ _ _ _ (@pe_ix _ _ _ _ _ _ _ (ix_seqK (K := K)) (pv 1) (pv 0) (fun _ _ => rfl)) (@pa_cons _ _ _ _ _ (@pe_ix _ _ _ _ _ _ _ (ix_seqK (K := K)) (pv 2) (pv 0) (fun _ _ => rfl)) pa_nil se_Subscript) se_Subscript)))) pa_nil))))) pss_nil) (@pss_cons _ _ _ _ _ (ps_if (pt_cmp (pc_isN (pv 1))) (@pss_one _ _ _ (@ps_ret _ _ _ _ (pe_cmp (pc_isN (pv 0))))) pss_nil) (@pss_cons _ _ _ _ _ (ps_if (pt_val (pe_callB (call_isiK (K := K)) rfl T.n_isinstance boot_isinstance (pa_cons (pv 1) (pa_cons (pe_bltn (v := .ty "str") rfl T.n_str boot_str rfl) pa_nil)))) (@pss_one _ _ _ (@ps_ret _ _ _ _ (pe_and (pe_callB (call_isiK (K := K)) rfl T.n_isinstance boot_isinstance (pa_cons (pv 0) (pa_cons (pe_bltn (v := .ty "str") rfl T.n_str boot_str rfl) pa_nil))) (pe_one (pe_cmpR op_eq (pv 0) (pv 1) (by rfl)))))) pss_nil) (@pss_one _ _ _ (@ps_ret _ _ _ _ (pe_and (pe_callB (call_isiK (K := K)) rfl T.n_isinstance boot_isinstance (pa_cons (pv 0) (pa_cons (pe_bltn (v := .ty "int") rfl T.n_int boot_int rfl) pa_nil))) (pe_and (pe_not (pe_callB (call_isiK (K := K)) rfl T.n_isinstance boot_isinstance (pa_cons (pv 0) (pa_cons (pe_bltn (v := .ty "bool") rfl T.n_bool boot_bool rfl) pa_nil)))) (pe_one (pe_cmpR op_eq (pv 0) (pv 1) (by rfl))))))))))), fn_tw (n := 2) (k := 0) (b := tb__law_same fu (tw__law_same fu n)) rfl (rs_seq (rs_if (rt_e (re_isi isi_tuple (re_var 1))) (rs_seq (rs_if (rt_or (rt_not (rt_e (re_isi isi_tuple (re_var 0)))) (rt_e (re_neI (re_fn rc_len (rl_cons (re_var 0) rl_nil)) (re_fn rc_len (rl_cons (re_var 1) rl_nil))))) (rs_ret (re_bl _)) rs_next) (rs_ret (re_fn rc_all (rl_cons (re_comp (cap := [none, some 0, some 1]) (ri_range1 (re_fn rc_len (rl_cons (re_var 1) rl_nil))) rg_name rt_true (re_call (rl_cons (re_op r2_ixA (re_var 1) (re_var 0)) (rl_cons (re_op r2_ixA (re_var 2) (re_var 0)) rl_nil)))) rl_nil)))) rs_next) (rs_seq (rs_if (rt_e (re_isi isi_list (re_var 1))) (rs_seq (rs_if (rt_or (rt_not (rt_e (re_isi isi_list (re_var 0)))) (rt_e (re_neI (re_fn rc_len (rl_cons (re_var 0) rl_nil)) (re_fn rc_len (rl_cons (re_var 1) rl_nil))))) (rs_ret (re_bl _)) rs_next) (rs_ret (re_fn rc_all (rl_cons (re_comp (cap := [none, some 0, some 1]) (ri_range1 (re_fn rc_len (rl_cons (re_var 1) rl_nil))) rg_name rt_true (re_call (rl_cons (re_op r2_ixA (re_var 1) (re_var 0)) (rl_cons (re_op r2_ixA (re_var 2) (re_var 0)) rl_nil)))) rl_nil)))) rs_next) (rs_seq (rs_if (rt_e (re_isN (re_var 1))) (rs_ret (re_isN (re_var 0))) rs_next) (rs_seq (rs_if (rt_e (re_isi isi_str (re_var 1))) (rs_ret (re_and (re_isi isi_str (re_var 0)) (re_op r2_eqS (re_var 0) (re_var 1)))) rs_next) (rs_ret (re_and (re_isi isi_int (re_var 0)) (re_and (re_not (re_isi isi_bool (re_var 0))) (re_op r2_eqS (re_var 0) (re_var 1))))))))) h⟩)
theorem ok__law_same (T : Tx K mg) (n : Nat) : FnOk P w K mg base (CXE P w) (0 + n) T.a__law_same T.fd__law_same ["_law_found", "_law_due"] (sTw K 2 (tw__law_same fu n)) := (okg__law_same T n)
noncomputable def tb__law_whole (fu : Nat) : TwS := (sRet (eAnd (eUn (dIsi "int") (eVar 0)) (eB (bNot (bE (eUn (dIsi "bool") (eVar 0)))))))
noncomputable def tw__law_whole (fu : Nat) : TwF := runTw 1 0 (tb__law_whole fu)
theorem ok__law_whole (T : Tx K mg) : FnOk P w K mg base (CXE P w) 1 T.a__law_whole T.fd__law_whole ["_law_found"] (sTw K 1 (tw__law_whole fu)) :=
 T.F__law_whole.okE sc__law_whole (fun vs H Q E h => h.1) (fun cdv A outer s H vs Q E hr h => ⟨_, (@pss_one _ _ _ (@ps_ret _ _ _ _ (pe_and (pe_callB (call_isiK (K := K)) rfl T.n_isinstance boot_isinstance (pa_cons (pv 0) (pa_cons (pe_bltn (v := .ty "int") rfl T.n_int boot_int rfl) pa_nil))) (pe_one (pe_not (pe_callB (call_isiK (K := K)) rfl T.n_isinstance boot_isinstance (pa_cons (pv 0) (pa_cons (pe_bltn (v := .ty "bool") rfl T.n_bool boot_bool rfl) pa_nil)))))))), fn_tw (n := 1) (k := 0) (b := tb__law_whole fu) rfl (rs_ret (re_and (re_isi isi_int (re_var 0)) (re_not (re_isi isi_bool (re_var 0))))) h⟩)
noncomputable def tb__law_leaves (fu : Nat) : TwS := (sSeq (sAsg (eLst []) (gN 3)) (sSeq (sFor (iL (eVar 1)) (gN 4) (sSeq (sAsg (eMethS "Store" "leaf" (tw_Store_leaf fu) (eVar 0) [(eVar 4)]) (gN 5)) (sSeq (sIf (bOr (bNot (bE (eCall (tw__law_whole fu) [(eVar 5)]))) (bNot (bE (eCall (tw__law_same fu 10) [(eMethS "Store" "told" (tw_Store_told fu) (eVar 0) [(eVar 5)]), (eTup [(eC (.str "leaf")), (eVar 4)])])))) (sRet (eLst [])) sNext) (sSeq (sIf (bNot (bE (eCall (tw__law_same fu 10) [(eMethS "Store" "value_at" (tw_Store_value_at fu) (eVar 0) [(eVar 5), (eVar 2)]), (eVar 4)]))) (sRet (eLst [])) sNext) (sExpr (eMt mAppend (eVar 3) [(eVar 5)])))))) (sSeq (sFor (iR1 (eFn dLen [(eVar 1)])) (gN 6) (sSeq (sFor (iR1 (eFn dLen [(eVar 1)])) (gN 7) (sIf (bE (eOp (dEqS true) (eOp (dEqG false) (eOp dIxL (eVar 1) (eVar 6)) (eOp dIxL (eVar 1) (eVar 7))) (eOp dEqI (eOp dIxL (eVar 3) (eVar 6)) (eOp dIxL (eVar 3) (eVar 7))))) (sRet (eLst [])) sNext)) (sIf (bE (eOp dNeI (eMethS "Store" "leaf" (tw_Store_leaf fu) (eVar 0) [(eOp dIxL (eVar 1) (eVar 6))]) (eOp dIxL (eVar 3) (eVar 6)))) (sRet (eLst [])) sNext))) (sRet (eVar 3)))))
noncomputable def tw__law_leaves (fu : Nat) : TwF := runTw 3 5 (tb__law_leaves fu)
theorem ok__law_leaves (T : Tx K mg) : FnOk P w K mg base (CXE P w) 11 T.a__law_leaves T.fd__law_leaves ["_law_store", "_law_some", "_law_state_here"] (sTw K 3 (tw__law_leaves fu)) :=
 T.F__law_leaves.okE sc__law_leaves (fun vs H Q E h => h.1) (fun cdv A outer s H vs Q E hr h => ⟨_, (@pss_cons _ _ _ _ _ (@ps_set _ _ 3 _ _ _ _ sc__law_leaves.nd rfl (Or.inl rfl) (@pe_lst _ _ _ _ pa_nil) (by rfl) (by first | exact .inl rfl | exact .inr rfl | assumption)) (@pss_cons _ _ _ _ _ (ps_for PassesOwn.leaving rfl (pi_listK (K := K) (pv 1)) (pg_name (i := 4) sc__law_leaves.nd rfl (Or.inl rfl)) (@pss_cons _ _ _ _ _ (@ps_set _ _ 5 _ _ _ _ sc__law_leaves.nd rfl (Or.inl rfl) (pe_meth (pv 0) T.cl_Store T.mt_Store_leaf (ok_Store_leaf (fu := fu) T) (hr.mono (by decide)) T.b_Store_leaf .nil passE (@pa_cons _ _ _ _ _ (pv 4) pa_nil se_Name)) (by rfl) (by first | exact .inl rfl | exact .inr rfl | assumption)) (@pss_cons _ _ _ _ _ (ps_if (PW.pt (pw_or (pt_not (pt_val (pe_call (ok__law_whole (fu := fu) T) (hr.mono (by decide)) rfl T.m__law_whole T.F__law_whole.kp T.b__law_whole .nil passE (@pa_cons _ _ _ _ _ (pv 5) pa_nil se_Name)))) (pw_or1 (pt_not (pt_val (pe_call (ok__law_same (fu := fu) T 10) (hr.mono (by decide)) rfl T.m__law_same T.F__law_same.kp T.b__law_same .nil passE (@pa_cons _ _ _ _ _ (pe_meth (pv 0) T.cl_Store T.mt_Store_told (ok_Store_told (fu := fu) T) (hr.mono (by decide)) T.b_Store_told .nil passE (@pa_cons _ _ _ _ _ (pv 5) pa_nil se_Name)) (@pa_cons _ _ _ _ _ (@pe_tup _ _ _ _ _ (@pa_cons _ _ _ _ _ pe_str (@pa_cons _ _ _ _ _ (pv 4) pa_nil se_Name) se_Constant)) pa_nil se_Tuple) se_Call))))))) (@pss_one _ _ _ (@ps_ret _ _ _ _ (@pe_lst _ _ _ _ pa_nil))) pss_nil) (@pss_cons _ _ _ _ _ (ps_if (pt_not (pt_val (pe_call (ok__law_same (fu := fu) T 10) (hr.mono (by decide)) rfl T.m__law_same T.F__law_same.kp T.b__law_same .nil passE (@pa_cons _ _ _ _ _ (pe_meth (pv 0) T.cl_Store T.mt_Store_value_at (ok_Store_value_at (fu := fu) T) (hr.mono (by decide)) T.b_Store_value_at .nil passE (@pa_cons _ _ _ _ _ (pv 5) (@pa_cons _ _ _ _ _ (pv 2) pa_nil se_Name) se_Name)) (@pa_cons _ _ _ _ _ (pv 4) pa_nil se_Name) se_Call)))) (@pss_one _ _ _ (@ps_ret _ _ _ _ (@pe_lst _ _ _ _ pa_nil))) pss_nil) (@pss_one _ _ _ (ps_expr (pe_bm PySem.F.plainAttrs_list PySem.F.slot_list_append PySem.F.type_list_append mt_append (pv 3) (@pa_cons _ _ _ _ _ (pv 5) pa_nil se_Name)))))))) (@pss_cons _ _ _ _ _ (ps_for PassesOwn.leaving rfl (pi_range1 rfl T.n_range (@pa_cons _ _ _ _ _ (pe_callB (call_lenK (K := K)) rfl T.n_len boot_len (@pa_cons _ _ _ _ _ (pv 1) pa_nil se_Name)) pa_nil se_Call)) (pg_name (i := 6) sc__law_leaves.nd rfl (Or.inl rfl)) (@pss_cons _ _ _ _ _ (ps_for PassesOwn.leaving rfl (pi_range1 rfl T.n_range (@pa_cons _ _ _ _ _ (pe_callB (call_lenK (K := K)) rfl T.n_len boot_len (@pa_cons _ _ _ _ _ (pv 1) pa_nil se_Name)) pa_nil se_Call)) (pg_name (i := 7) sc__law_leaves.nd rfl (Or.inl rfl)) (@pss_one _ _ _ (ps_if (pt_cmpR op_ne (pe_cmpR (op_eqG (K := K) hr) (@pe_ix _ _ _ _ _ _ _ (ix_listK (K := K)) (pv 1) (pv 6) (fun _ _ => rfl)) (@pe_ix _ _ _ _ _ _ _ (ix_listK (K := K)) (pv 1) (pv 7) (fun _ _ => rfl)) (by rfl)) (pe_cmp (pc_eqI (@pe_ix _ _ _ _ _ _ _ (ix_listK (K := K)) (pv 3) (pv 6) (fun _ _ => rfl)) (@pe_ix _ _ _ _ _ _ _ (ix_listK (K := K)) (pv 3) (pv 7) (fun _ _ => rfl)))) (by rfl)) (@pss_one _ _ _ (@ps_ret _ _ _ _ (@pe_lst _ _ _ _ pa_nil))) pss_nil))) (@pss_one _ _ _ (ps_if (pt_cmp (pc_neI (pe_meth (pv 0) T.cl_Store T.mt_Store_leaf (ok_Store_leaf (fu := fu) T) (hr.mono (by decide)) T.b_Store_leaf .nil passE (@pa_cons _ _ _ _ _ (@pe_ix _ _ _ _ _ _ _ (ix_listK (K := K)) (pv 1) (pv 6) (fun _ _ => rfl)) pa_nil se_Subscript)) (@pe_ix _ _ _ _ _ _ _ (ix_listK (K := K)) (pv 3) (pv 6) (fun _ _ => rfl)))) (@pss_one _ _ _ (@ps_ret _ _ _ _ (@pe_lst _ _ _ _ pa_nil))) pss_nil)))) (@pss_one _ _ _ (@ps_ret _ _ _ _ (pv 3)))))), fn_tw (n := 3) (k := 5) (b := tb__law_leaves fu) rfl (rs_seq (rs_asg (re_lst rl_nil) rg_name) (rs_seq (rs_for (ri_list (re_var 1)) rg_name (rs_seq (rs_asg (re_methS T.ns_Store (re_var 0) (rl_cons (re_var 4) rl_nil)) rg_name) (rs_seq (rs_if (rt_or (rt_not (rt_e (re_call (rl_cons (re_var 5) rl_nil)))) (rt_not (rt_e (re_call (rl_cons (re_methS T.ns_Store (re_var 0) (rl_cons (re_var 5) rl_nil)) (rl_cons (re_tup (rl_cons (re_str _) (rl_cons (re_var 4) rl_nil))) rl_nil)))))) (rs_ret (re_lst rl_nil)) rs_next) (rs_seq (rs_if (rt_not (rt_e (re_call (rl_cons (re_methS T.ns_Store (re_var 0) (rl_cons (re_var 5) (rl_cons (re_var 2) rl_nil))) (rl_cons (re_var 4) rl_nil))))) (rs_ret (re_lst rl_nil)) rs_next) (rs_expr (re_mt rm_append (re_var 3) (rl_cons (re_var 5) rl_nil))))))) (rs_seq (rs_for (ri_range1 (re_fn rc_len (rl_cons (re_var 1) rl_nil))) rg_name (rs_seq (rs_for (ri_range1 (re_fn rc_len (rl_cons (re_var 1) rl_nil))) rg_name (rs_if (rt_test (re_op r2_neS (re_op r2_eqG (re_op r2_ixL (re_var 1) (re_var 6)) (re_op r2_ixL (re_var 1) (re_var 7))) (re_eqI (re_op r2_ixL (re_var 3) (re_var 6)) (re_op r2_ixL (re_var 3) (re_var 7))))) (rs_ret (re_lst rl_nil)) rs_next)) (rs_if (rt_e (re_neI (re_methS T.ns_Store (re_var 0) (rl_cons (re_op r2_ixL (re_var 1) (re_var 6)) rl_nil)) (re_op r2_ixL (re_var 3) (re_var 6)))) (rs_ret (re_lst rl_nil)) rs_next))) (rs_ret (re_var 3))))) h⟩)
noncomputable def tb__law_forked (fu : Nat) : TwS := (sSeq (sAsg (eFn dList [(eVar 2)]) (gN 3)) (sSeq (sAsg (eMethS "Store" "fork" (tw_Store_fork fu) (eVar 0) [(eVar 1), (eVar 3)]) (gN 4)) (sSeq (sIf (bOr (bE (eOp (dEqG true) (eVar 3) (eVar 2))) (bNot (bE (eCall (tw__law_whole fu) [(eVar 4)])))) (sRet (eC .non)) sNext) (sSeq (sFor (iR1 (eFn dLen [(eVar 3)])) (gN 5) (sAsg (eOp dIxL (eVar 2) (eC (.int 0))) (gStore (eVar 3) (eVar 5)))) (sSeq (sExpr (eMt mAppend (eVar 3) [(eOp dIxL (eVar 2) (eC (.int 0)))])) (sSeq (sAsg (eFn dAll [(eComp [none, some 2] (iL (eVar 2)) (gN 0) bTrue (eOp dEqI (eVar 0) (eOp dIxL (eVar 1) (eC (.int 0)))))]) (gN 6)) (sSeq (sIf (bAnd (bE (eVar 6)) (bE (eOp dNeI (eVar 4) (eOp dIxL (eVar 2) (eC (.int 0)))))) (sRet (eC .non)) sNext) (sSeq (sIf (bAnd (bNot (bE (eVar 6))) (bNot (bE (eCall (tw__law_same fu 10) [(eMethS "Store" "told" (tw_Store_told fu) (eVar 0) [(eVar 4)]), (eTup [(eC (.str "fork")), (eVar 1), (eFn dTuple [(eVar 2)])])])))) (sRet (eC .non)) sNext) (sSeq (sIf (bE (eOp dNeI (eMethS "Store" "fork" (tw_Store_fork fu) (eVar 0) [(eVar 1), (eFn dList [(eVar 2)])]) (eVar 4))) (sRet (eC .non)) sNext) (sRet (eVar 4)))))))))))
noncomputable def tw__law_forked (fu : Nat) : TwF := runTw 3 4 (tb__law_forked fu)
theorem ok__law_forked (T : Tx K mg) : FnOk P w K mg base (CXE P w) 11 T.a__law_forked T.fd__law_forked ["_law_store", "_law_level", "_law_kids"] (sTw K 3 (tw__law_forked fu)) :=
 T.F__law_forked.okE sc__law_forked (fun vs H Q E h => h.1) (fun cdv A outer s H vs Q E hr h => ⟨_, (@pss_cons _ _ _ _ _ (@ps_set _ _ 3 _ _ _ _ sc__law_forked.nd rfl (Or.inl rfl) (pe_callTy (call_listK (K := K)) rfl T.n_list boot_list (@pa_cons _ _ _ _ _ (pv 2) pa_nil se_Name)) (by rfl) (by first | exact .inl rfl | exact .inr rfl | assumption)) (@pss_cons _ _ _ _ _ (@ps_set _ _ 4 _ _ _ _ sc__law_forked.nd rfl (Or.inl rfl) (pe_meth (pv 0) T.cl_Store T.mt_Store_fork (ok_Store_fork (fu := fu) T) (hr.mono (by decide)) T.b_Store_fork .nil passE (@pa_cons _ _ _ _ _ (pv 1) (@pa_cons _ _ _ _ _ (pv 3) pa_nil se_Name) se_Name)) (by rfl) (by first | exact .inl rfl | exact .inr rfl | assumption)) (@pss_cons _ _ _ _ _ (ps_if (PW.pt (pw_or (pt_cmpR (op_neG (K := K) hr) (pv 3) (pv 2) (by rfl)) (pw_or1 (pt_not (pt_val (pe_call (ok__law_whole (fu := fu) T) (hr.mono (by decide)) rfl T.m__law_whole T.F__law_whole.kp T.b__law_whole .nil passE (@pa_cons _ _ _ _ _ (pv 4) pa_nil se_Name))))))) (@pss_one _ _ _ (@ps_ret _ _ _ _ pe_non)) pss_nil) (@pss_cons _ _ _ _ _ (ps_for PassesOwn.leaving rfl (pi_range1 rfl T.n_range (@pa_cons _ _ _ _ _ (pe_callB (call_lenK (K := K)) rfl T.n_len boot_len (@pa_cons _ _ _ _ _ (pv 3) pa_nil se_Name)) pa_nil se_Call)) (pg_name (i := 5) sc__law_forked.nd rfl (Or.inl rfl)) (@pss_one _ _ _ (ps_asg (@pe_ix _ _ _ _ _ _ _ (ix_listK (K := K)) (pv 2) pe_int (fun _ _ => rfl)) (pg_sub (pv 3) (pv 5) set_list)))) (@pss_cons _ _ _ _ _ (ps_expr (pe_bm PySem.F.plainAttrs_list PySem.F.slot_list_append PySem.F.type_list_append mt_append (pv 3) (@pa_cons _ _ _ _ _ (@pe_ix _ _ _ _ _ _ _ (ix_listK (K := K)) (pv 2) pe_int (fun _ _ => rfl)) pa_nil se_Subscript))) (@pss_cons _ _ _ _ _ (@ps_set _ _ 6 _ _ _ _ sc__law_forked.nd rfl (Or.inl rfl) (pe_callB (call_allK (K := K) rfl) rfl T.n_all PyProof.Rows.Boot.«all» (pa_cons (pe_comp (N' := ["_law_kid", "_law_kids"]) rfl (blk (osc := defScope s__law_forked) rfl (by decide +kernel)) (cap_own (cap_out (i := 2) rfl rfl cap_nil)) (pi_listK (K := K) (pv 2)) (gown_name rfl) (fun C s₀ H₀ fp => pg_name (i := 0) (show (["_law_kid", "_law_kids"] : List Str).Nodup from by decide +kernel) rfl (Or.inl rfl)) (fun C s₀ H₀ fp => pts_nil) (fun C s₀ H₀ fp => (pe_cmp (pc_eqI (pv 0) (@pe_ix _ _ _ _ _ _ _ (ix_listK (K := K)) (pv 1) pe_int (fun _ _ => rfl)))))) pa_nil)) (by rfl) (by first | exact .inl rfl | exact .inr rfl | assumption)) (@pss_cons _ _ _ _ _ (ps_if (PW.pt (pw_and (pt_val (pv 6)) (pw_and1 (pt_cmp (pc_neI (pv 4) (@pe_ix _ _ _ _ _ _ _ (ix_listK (K := K)) (pv 2) pe_int (fun _ _ => rfl))))))) (@pss_one _ _ _ (@ps_ret _ _ _ _ pe_non)) pss_nil) (@pss_cons _ _ _ _ _ (ps_if (PW.pt (pw_and (pt_not (pt_val (pv 6))) (pw_and1 (pt_not (pt_val (pe_call (ok__law_same (fu := fu) T 10) (hr.mono (by decide)) rfl T.m__law_same T.F__law_same.kp T.b__law_same .nil passE (@pa_cons _ _ _ _ _ (pe_meth (pv 0) T.cl_Store T.mt_Store_told (ok_Store_told (fu := fu) T) (hr.mono (by decide)) T.b_Store_told .nil passE (@pa_cons _ _ _ _ _ (pv 4) pa_nil se_Name)) (@pa_cons _ _ _ _ _ (@pe_tup _ _ _ _ _ (@pa_cons _ _ _ _ _ pe_str (@pa_cons _ _ _ _ _ (pv 1) (@pa_cons _ _ _ _ _ (pe_callTy (call_tupleK (K := K)) rfl T.n_tuple boot_tuple (@pa_cons _ _ _ _ _ (pv 2) pa_nil se_Name)) pa_nil se_Call) se_Name) se_Constant)) pa_nil se_Tuple) se_Call))))))) (@pss_one _ _ _ (@ps_ret _ _ _ _ pe_non)) pss_nil) (@pss_cons _ _ _ _ _ (ps_if (pt_cmp (pc_neI (pe_meth (pv 0) T.cl_Store T.mt_Store_fork (ok_Store_fork (fu := fu) T) (hr.mono (by decide)) T.b_Store_fork .nil passE (@pa_cons _ _ _ _ _ (pv 1) (@pa_cons _ _ _ _ _ (pe_callTy (call_listK (K := K)) rfl T.n_list boot_list (@pa_cons _ _ _ _ _ (pv 2) pa_nil se_Name)) pa_nil se_Call) se_Name)) (pv 4))) (@pss_one _ _ _ (@ps_ret _ _ _ _ pe_non)) pss_nil) (@pss_one _ _ _ (@ps_ret _ _ _ _ (pv 4)))))))))))), fn_tw (n := 3) (k := 4) (b := tb__law_forked fu) rfl (rs_seq (rs_asg (re_fn rc_list (rl_cons (re_var 2) rl_nil)) rg_name) (rs_seq (rs_asg (re_methS T.ns_Store (re_var 0) (rl_cons (re_var 1) (rl_cons (re_var 3) rl_nil))) rg_name) (rs_seq (rs_if (rt_or (rt_test (re_op r2_eqG (re_var 3) (re_var 2))) (rt_not (rt_e (re_call (rl_cons (re_var 4) rl_nil))))) (rs_ret re_non) rs_next) (rs_seq (rs_for (ri_range1 (re_fn rc_len (rl_cons (re_var 3) rl_nil))) rg_name (rs_asg (re_op r2_ixL (re_var 2) (re_int _)) (rg_store (re_var 3) (re_var 5)))) (rs_seq (rs_expr (re_mt rm_append (re_var 3) (rl_cons (re_op r2_ixL (re_var 2) (re_int _)) rl_nil))) (rs_seq (rs_asg (re_fn rc_all (rl_cons (re_comp (cap := [none, some 2]) (ri_list (re_var 2)) rg_name rt_true (re_eqI (re_var 0) (re_op r2_ixL (re_var 1) (re_int _)))) rl_nil)) rg_name) (rs_seq (rs_if (rt_and (rt_e (re_var 6)) (rt_e (re_neI (re_var 4) (re_op r2_ixL (re_var 2) (re_int _))))) (rs_ret re_non) rs_next) (rs_seq (rs_if (rt_and (rt_not (rt_e (re_var 6))) (rt_not (rt_e (re_call (rl_cons (re_methS T.ns_Store (re_var 0) (rl_cons (re_var 4) rl_nil)) (rl_cons (re_tup (rl_cons (re_str _) (rl_cons (re_var 1) (rl_cons (re_fn rc_tuple (rl_cons (re_var 2) rl_nil)) rl_nil)))) rl_nil)))))) (rs_ret re_non) rs_next) (rs_seq (rs_if (rt_e (re_neI (re_methS T.ns_Store (re_var 0) (rl_cons (re_var 1) (rl_cons (re_fn rc_list (rl_cons (re_var 2) rl_nil)) rl_nil))) (re_var 4))) (rs_ret re_non) rs_next) (rs_ret (re_var 4))))))))))) h⟩)
noncomputable def tb__law_keeps (fu : Nat) : TwS := (sSeq (sAsg (eCall (tw__law_leaves fu) [(eVar 1), (eVar 4), (eVar 3)]) (gN 5)) (sSeq (sIf (bOr (bE (eOp (dEqNil false) (eVar 5) (eLst []))) (bNot (bE (eCall (tw__law_same fu 10) [(eFldS "Store" "boxes" (eVar 1)), (eVar 2)])))) (sRet (eC (.bl false))) sNext) (sSeq (sAsg (eOp dIxL (eVar 5) (eC (.int 0))) (gN 6)) (sSeq (sAsg (eLst [(eTup [(eVar 6), (eOp dIxL (eVar 4) (eC (.int 0)))])]) (gN 7)) (sSeq (sFor (iR3 (eOp dSub (eFn dLen [(eVar 2)]) (eC (.int 1))) (eUn dNeg (eC (.int 1))) (eUn dNeg (eC (.int 1)))) (gN 8) (sSeq (sAsg (eOp dIxT (eOp dIxT (eVar 2) (eVar 8)) (eC (.int 1))) (gN 9)) (sSeq (sAsg (eComp [none, some 0, some 4] (iR1 (eVar 9)) (gN 0) bTrue (eCall (tw__law_take fu) [(eVar 1), (eFn dLen [(eVar 2)])])) (gN 10)) (sSeq (sAsg (eComp [none, some 5] (iL (eVar 10)) (gN 0) bTrue (eOp dIxL (eVar 1) (eVar 0))) (gN 11)) (sSeq (sAsg (eCall (tw__law_take fu) [(eVar 0), (eOp dAdd (eVar 9) (eC (.int 1)))]) (gN 12)) (sSeq (sAsg (eOp dIxL (eVar 4) (eOp dIxL (eVar 10) (eOp dIxT (eVar 3) (eVar 8)))) (gN 13)) (sSeq (sIf (bE (eOp dLt (eVar 12) (eVar 9))) (sAsg (eVar 6) (gStore (eVar 11) (eVar 12))) sNext) (sSeq (sIf (bE (eOp dEqI (eVar 12) (eOp dIxT (eVar 3) (eVar 8)))) (sAsg (eOp dIxT (eOp dIxL (eVar 7) (eUn dNeg (eC (.int 1)))) (eC (.int 1))) (gN 13)) sNext) (sSeq (sAsg (eCall (tw__law_forked fu) [(eVar 1), (eVar 8), (eVar 11)]) (gN 6)) (sSeq (sExpr (eMt mAppend (eVar 7) [(eTup [(eVar 6), (eVar 13)])])) (sIf (bE (eUn dIsN (eVar 6))) (sRet (eC (.bl false))) sNext))))))))))) (sRet (eFn dAll [(eComp [none, none, some 3, some 1] (iL (eVar 7)) (gT 2 (gsCons (gN 0) (gsCons (gN 1) gsNil))) bTrue (eCall (tw__law_same fu 10) [(eMethS "Store" "value_at" (tw_Store_value_at fu) (eVar 3) [(eVar 0), (eVar 2)]), (eVar 1)]))])))))))
noncomputable def tw__law_keeps (fu : Nat) : TwF := runTw 5 9 (tb__law_keeps fu)
theorem ok__law_keeps (T : Tx K mg) : FnOk P w K mg base (CXE P w) 12 T.a__law_keeps T.fd__law_keeps ["_law_left", "_law_store", "_law_boxes_here", "_law_state_here", "_law_some"] (sTw K 5 (tw__law_keeps fu)) :=
 T.F__law_keeps.okE sc__law_keeps (fun vs H Q E h => h.1) (fun cdv A outer s H vs Q E hr h => ⟨_, (@pss_cons _ _ _ _ _ (@ps_set _ _ 5 _ _ _ _ sc__law_keeps.nd rfl (Or.inr rfl) (pe_call (ok__law_leaves (fu := fu) T) (hr.mono (by decide)) rfl T.m__law_leaves T.F__law_leaves.kp T.b__law_leaves .nil passE (@pa_cons _ _ _ _ _ (pv 1) (@pa_cons _ _ _ _ _ (pv 4) (@pa_cons _ _ _ _ _ (pv 3) pa_nil se_Name) se_Name) se_Name)) (by rfl) (by first | exact .inl rfl | exact .inr rfl | assumption)) (@pss_cons _ _ _ _ _ (ps_if (PW.pt (pw_or (pt_cmpR (op_eqNil (K := K) hr) (pv 5) (@pe_lst _ _ _ _ pa_nil) (by rfl)) (pw_or1 (pt_not (pt_val (pe_call (ok__law_same (fu := fu) T 10) (hr.mono (by decide)) rfl T.m__law_same T.F__law_same.kp T.b__law_same .nil passE (@pa_cons _ _ _ _ _ (pe_fld (pv 1) rfl) (@pa_cons _ _ _ _ _ (pv 2) pa_nil se_Name) se_Attribute))))))) (@pss_one _ _ _ (@ps_ret _ _ _ _ pe_bl)) pss_nil) (@pss_cons _ _ _ _ _ (@ps_set _ _ 6 _ _ _ _ sc__law_keeps.nd rfl (Or.inl rfl) (@pe_ix _ _ _ _ _ _ _ (ix_listK (K := K)) (pv 5) pe_int (fun _ _ => rfl)) (by rfl) (by first | exact .inl rfl | exact .inr rfl | assumption)) (@pss_cons _ _ _ _ _ (@ps_set _ _ 7 _ _ _ _ sc__law_keeps.nd rfl (Or.inl rfl) (@pe_lst _ _ _ _ (@pa_cons _ _ _ _ _ (@pe_tup _ _ _ _ _ (@pa_cons _ _ _ _ _ (pv 6) (@pa_cons _ _ _ _ _ (@pe_ix _ _ _ _ _ _ _ (ix_listK (K := K)) (pv 4) pe_int (fun _ _ => rfl)) pa_nil se_Subscript) se_Name)) pa_nil se_Tuple)) (by rfl) (by first | exact .inl rfl | exact .inr rfl | assumption)) (@pss_cons _ _ _ _ _ (ps_for PassesOwn.leaving rfl (pi_rangeD rfl T.n_range (@pa_cons _ _ _ _ _ (pe_op op_sub (pe_callB (call_lenK (K := K)) rfl T.n_len boot_len (@pa_cons _ _ _ _ _ (pv 2) pa_nil se_Name)) pe_int) (@pa_cons _ _ _ _ _ (pe_un un_neg pe_int) (@pa_cons _ _ _ _ _ (pe_un un_neg pe_int) pa_nil se_UnaryOp) se_UnaryOp) se_BinOp)) (pg_name (i := 8) sc__law_keeps.nd rfl (Or.inl rfl)) (@pss_cons _ _ _ _ _ (@ps_set _ _ 9 _ _ _ _ sc__law_keeps.nd rfl (Or.inl rfl) (@pe_ix _ _ _ _ _ _ _ (ix_tupK (K := K)) (@pe_ix _ _ _ _ _ _ _ (ix_tupK (K := K)) (pv 2) (pv 8) (fun _ _ => rfl)) pe_int (fun _ _ => rfl)) (by rfl) (by first | exact .inl rfl | exact .inr rfl | assumption)) (@pss_cons _ _ _ _ _ (ps_setComp (i := 10) (N' := ["_law_k", "_law_left", "_law_some"]) rfl (blk (osc := defScope s__law_keeps) rfl (by decide +kernel)) (cap_own (cap_out (i := 0) rfl rfl (cap_out (i := 4) rfl rfl cap_nil))) (pi_range1 rfl T.n_range (@pa_cons _ _ _ _ _ (pv 9) pa_nil se_Name)) (gown_name rfl) (fun C s₀ H₀ fp => pg_name (i := 0) (show (["_law_k", "_law_left", "_law_some"] : List Str).Nodup from by decide +kernel) rfl (Or.inl rfl)) (fun C s₀ H₀ fp => pts_nil) (fun C s₀ H₀ fp => (pe_call (ok__law_take (fu := fu) T) (hr.mono (by decide)) rfl T.m__law_take T.F__law_take.kp T.b__law_take .nil passF (@pa_cons _ _ _ _ _ (pv 1) (@pa_cons _ _ _ _ _ (pe_callB (call_lenK (K := K)) rfl T.n_len boot_len (@pa_cons _ _ _ _ _ (pv 2) pa_nil se_Name)) pa_nil se_Call) se_Name))) sc__law_keeps.nd rfl rfl) (@pss_cons _ _ _ _ _ (ps_setComp (i := 11) (N' := ["_law_pick", "_law_leaves_here"]) rfl (blk (osc := defScope s__law_keeps) rfl (by decide +kernel)) (cap_own (cap_out (i := 5) rfl rfl cap_nil)) (pi_listK (K := K) (pv 10)) (gown_name rfl) (fun C s₀ H₀ fp => pg_name (i := 0) (show (["_law_pick", "_law_leaves_here"] : List Str).Nodup from by decide +kernel) rfl (Or.inl rfl)) (fun C s₀ H₀ fp => pts_nil) (fun C s₀ H₀ fp => (@pe_ix _ _ _ _ _ _ _ (ix_listK (K := K)) (pv 1) (pv 0) (fun _ _ => rfl))) sc__law_keeps.nd rfl rfl) (@pss_cons _ _ _ _ _ (@ps_set _ _ 12 _ _ _ _ sc__law_keeps.nd rfl (Or.inl rfl) (pe_call (ok__law_take (fu := fu) T) (hr.mono (by decide)) rfl T.m__law_take T.F__law_take.kp T.b__law_take .nil passE (@pa_cons _ _ _ _ _ (pv 0) (@pa_cons _ _ _ _ _ (pe_op op_add (pv 9) pe_int) pa_nil se_BinOp) se_Name)) (by rfl) (by first | exact .inl rfl | exact .inr rfl | assumption)) (@pss_cons _ _ _ _ _ (@ps_set _ _ 13 _ _ _ _ sc__law_keeps.nd rfl (Or.inl rfl) (@pe_ix _ _ _ _ _ _ _ (ix_listK (K := K)) (pv 4) (@pe_ix _ _ _ _ _ _ _ (ix_listK (K := K)) (pv 10) (@pe_ix _ _ _ _ _ _ _ (ix_tupK (K := K)) (pv 3) (pv 8) (fun _ _ => rfl)) (fun _ _ => rfl)) (fun _ _ => rfl)) (by rfl) (by first | exact .inl rfl | exact .inr rfl | assumption)) (@pss_cons _ _ _ _ _ (ps_if (pt_cmp (pc_lt (pv 12) (pv 9))) (@pss_one _ _ _ (ps_asg (pv 6) (pg_sub (pv 11) (pv 12) set_list))) pss_nil) (@pss_cons _ _ _ _ _ (ps_if (pt_cmp (pc_eqI (pv 12) (@pe_ix _ _ _ _ _ _ _ (ix_tupK (K := K)) (pv 3) (pv 8) (fun _ _ => rfl)))) (@pss_one _ _ _ (@ps_set _ _ 13 _ _ _ _ sc__law_keeps.nd rfl (Or.inl rfl) (@pe_ix _ _ _ _ _ _ _ (ix_tupK (K := K)) (@pe_ix _ _ _ _ _ _ _ (ix_listK (K := K)) (pv 7) (pe_un un_neg pe_int) (fun _ _ => rfl)) pe_int (fun _ _ => rfl)) (by rfl) (by first | exact .inl rfl | exact .inr rfl | assumption))) pss_nil) (@pss_cons _ _ _ _ _ (@ps_set _ _ 6 _ _ _ _ sc__law_keeps.nd rfl (Or.inl rfl) (pe_call (ok__law_forked (fu := fu) T) (hr.mono (by decide)) rfl T.m__law_forked T.F__law_forked.kp T.b__law_forked .nil passE (@pa_cons _ _ _ _ _ (pv 1) (@pa_cons _ _ _ _ _ (pv 8) (@pa_cons _ _ _ _ _ (pv 11) pa_nil se_Name) se_Name) se_Name)) (by rfl) (by first | exact .inl rfl | exact .inr rfl | assumption)) (@pss_cons _ _ _ _ _ (ps_expr (pe_bm PySem.F.plainAttrs_list PySem.F.slot_list_append PySem.F.type_list_append mt_append (pv 7) (@pa_cons _ _ _ _ _ (@pe_tup _ _ _ _ _ (@pa_cons _ _ _ _ _ (pv 6) (@pa_cons _ _ _ _ _ (pv 13) pa_nil se_Name) se_Name)) pa_nil se_Tuple))) (@pss_one _ _ _ (ps_if (pt_cmp (pc_isN (pv 6))) (@pss_one _ _ _ (@ps_ret _ _ _ _ pe_bl)) pss_nil)))))))))))) (@pss_one _ _ _ (@ps_ret _ _ _ _ (pe_callB (call_allK (K := K) rfl) rfl T.n_all PyProof.Rows.Boot.«all» (pa_cons (pe_comp (N' := ["_law_one", "_law_due", "_law_state_here", "_law_store"]) rfl (blk (osc := defScope s__law_keeps) rfl (by decide +kernel)) (cap_own (cap_own (cap_out (i := 3) rfl rfl (cap_out (i := 1) rfl rfl cap_nil)))) (pi_listK (K := K) (pv 7)) (gown_tup (gsown_cons (gown_name rfl) (gsown_cons (gown_name rfl) gsown_nil gname_mono) gname_mono)) (fun C s₀ H₀ fp => pg_tupK (K := K) (n := 2) rfl (pgs_cons (pg_name (i := 0) (show (["_law_one", "_law_due", "_law_state_here", "_law_store"] : List Str).Nodup from by decide +kernel) rfl (Or.inl rfl)) (pgs_cons (pg_name (i := 1) (show (["_law_one", "_law_due", "_law_state_here", "_law_store"] : List Str).Nodup from by decide +kernel) rfl (Or.inl rfl)) pgs_nil))) (fun C s₀ H₀ fp => pts_nil) (fun C s₀ H₀ fp => (pe_call (ok__law_same (fu := fu) T 10) (hr.mono (by decide)) rfl T.m__law_same T.F__law_same.kp T.b__law_same .nil passF (@pa_cons _ _ _ _ _ (pe_meth (pv 3) T.cl_Store T.mt_Store_value_at (ok_Store_value_at (fu := fu) T) (hr.mono (by decide)) T.b_Store_value_at .nil passF (@pa_cons _ _ _ _ _ (pv 0) (@pa_cons _ _ _ _ _ (pv 2) pa_nil se_Name) se_Name)) (@pa_cons _ _ _ _ _ (pv 1) pa_nil se_Name) se_Call)))) pa_nil))))))))), fn_tw (n := 5) (k := 9) (b := tb__law_keeps fu) rfl (rs_seq (rs_asg (re_call (rl_cons (re_var 1) (rl_cons (re_var 4) (rl_cons (re_var 3) rl_nil)))) rg_name) (rs_seq (rs_if (rt_or (rt_test (re_op r2_eqNil (re_var 5) (re_lst rl_nil))) (rt_not (rt_e (re_call (rl_cons (re_fldS T.ns_Store T.cl_Store T.n_Store_boxes (re_var 1)) (rl_cons (re_var 2) rl_nil)))))) (rs_ret (re_bl _)) rs_next) (rs_seq (rs_asg (re_op r2_ixL (re_var 5) (re_int _)) rg_name) (rs_seq (rs_asg (re_lst (rl_cons (re_tup (rl_cons (re_var 6) (rl_cons (re_op r2_ixL (re_var 4) (re_int _)) rl_nil))) rl_nil)) rg_name) (rs_seq (rs_for (ri_range3 (re_op r2_sub (re_fn rc_len (rl_cons (re_var 2) rl_nil)) (re_int _)) (re_un r1_neg (re_int _)) (re_un r1_neg (re_int _))) rg_name (rs_seq (rs_asg (re_op r2_ixT (re_op r2_ixT (re_var 2) (re_var 8)) (re_int _)) rg_name) (rs_seq (rs_setComp (re_comp (cap := [none, some 0, some 4]) (ri_range1 (re_var 9)) rg_name rt_true (re_call (rl_cons (re_var 1) (rl_cons (re_fn rc_len (rl_cons (re_var 2) rl_nil)) rl_nil))))) (rs_seq (rs_setComp (re_comp (cap := [none, some 5]) (ri_list (re_var 10)) rg_name rt_true (re_op r2_ixL (re_var 1) (re_var 0)))) (rs_seq (rs_asg (re_call (rl_cons (re_var 0) (rl_cons (re_op r2_add (re_var 9) (re_int _)) rl_nil))) rg_name) (rs_seq (rs_asg (re_op r2_ixL (re_var 4) (re_op r2_ixL (re_var 10) (re_op r2_ixT (re_var 3) (re_var 8)))) rg_name) (rs_seq (rs_if (rt_e (re_lt (re_var 12) (re_var 9))) (rs_asg (re_var 6) (rg_store (re_var 11) (re_var 12))) rs_next) (rs_seq (rs_if (rt_e (re_eqI (re_var 12) (re_op r2_ixT (re_var 3) (re_var 8)))) (rs_asg (re_op r2_ixT (re_op r2_ixL (re_var 7) (re_un r1_neg (re_int _))) (re_int _)) rg_name) rs_next) (rs_seq (rs_asg (re_call (rl_cons (re_var 1) (rl_cons (re_var 8) (rl_cons (re_var 11) rl_nil)))) rg_name) (rs_seq (rs_expr (re_mt rm_append (re_var 7) (rl_cons (re_tup (rl_cons (re_var 6) (rl_cons (re_var 13) rl_nil))) rl_nil))) (rs_if (rt_e (re_isN (re_var 6))) (rs_ret (re_bl _)) rs_next))))))))))) (rs_ret (re_fn rc_all (rl_cons (re_comp (cap := [none, none, some 3, some 1]) (ri_list (re_var 7)) (rg_tup (rgs_cons rg_name (rgs_cons rg_name rgs_nil))) rt_true (re_call (rl_cons (re_methS T.ns_Store (re_var 3) (rl_cons (re_var 0) (rl_cons (re_var 2) rl_nil))) (rl_cons (re_var 1) rl_nil)))) rl_nil)))))))) h⟩)
noncomputable def tb_law (fu : Nat) : TwS := (sSeq (sAsg (eUn dListRev (eSl dSlL (eVar 0) oNo (oSome (eC (.int 200))))) (gN 1)) (sSeq (sAsg (eCall (tw__law_boxes fu) [(eVar 1), (eC (.int 1000))]) (gN 2)) (sSeq (sAsg (eCall (tw__law_state fu) [(eVar 1), (eVar 2)]) (gN 3)) (sSeq (sAsg (eComp [none, some 1] (iR1 (eOp dAdd (eC (.int 3)) (eCall (tw__law_take fu) [(eVar 1), (eC (.int 9))]))) (gN 0) bTrue (eCall (tw__law_ratio fu) [(eVar 1)])) (gN 4)) (sSeq (sAsg (eMakeS "Store" (tw_Store___init__ fu) [(eVar 2)]) (gN 5)) (sSeq (sAsg (eMakeS "Store" (tw_Store___init__ fu) [(eUn dTupRev (eVar 2))]) (gN 6)) (sSeq (sIf (bE (eOp (dEqNil false) (eCall (tw__law_leaves fu) [(eVar 6), (eUn dListRev (eVar 4)), (eUn dTupRev (eVar 3))]) (eLst []))) (sRet (eC (.bl false))) sNext) (sSeq (sIf (bNot (bE (eCall (tw__law_keeps fu) [(eVar 1), (eVar 5), (eVar 2), (eVar 3), (eVar 4)]))) (sRet (eC (.bl false))) sNext) (sSeq (sIf (bNot (bE (eCall (tw__law_keeps fu) [(eVar 1), (eVar 6), (eUn dTupRev (eVar 2)), (eUn dTupRev (eVar 3)), (eVar 4)]))) (sRet (eC (.bl false))) sNext) (sRet (eOp dEqI (eFn dLen [(eCall (tw__law_leaves fu) [(eVar 5), (eVar 4), (eVar 3)])]) (eFn dLen [(eVar 4)]))))))))))))
noncomputable def tw_law (fu : Nat) : TwF := runTw 1 6 (tb_law fu)
theorem okT_law (T : Tx K mg) : FnOk P w K mg base (CXE P w) 13 T.a_law T.fd_law ["_law_script"] (sTw K 1 (tw_law fu)) :=
 T.F_law.okE sc_law (fun vs H Q E h => h.1) (fun cdv A outer s H vs Q E hr h => ⟨_, (@pss_cons _ _ _ _ _ (@ps_set _ _ 1 _ _ _ _ sc_law.nd rfl (Or.inr rfl) (pe_listRev (K := K) rfl rfl T.n_list rfl T.n_reversed (pe_slice (sl_listK (K := K)) (pv 0) po_none (po_some pe_int))) (by rfl) (by first | exact .inl rfl | exact .inr rfl | assumption)) (@pss_cons _ _ _ _ _ (@ps_set _ _ 2 _ _ _ _ sc_law.nd rfl (Or.inl rfl) (pe_call (ok__law_boxes (fu := fu) T) (hr.mono (by decide)) rfl T.m__law_boxes T.F__law_boxes.kp T.b__law_boxes .nil passE (@pa_cons _ _ _ _ _ (pv 1) (@pa_cons _ _ _ _ _ pe_int pa_nil se_Constant) se_Name)) (by rfl) (by first | exact .inl rfl | exact .inr rfl | assumption)) (@pss_cons _ _ _ _ _ (@ps_set _ _ 3 _ _ _ _ sc_law.nd rfl (Or.inl rfl) (pe_call (ok__law_state (fu := fu) T) (hr.mono (by decide)) rfl T.m__law_state T.F__law_state.kp T.b__law_state .nil passE (@pa_cons _ _ _ _ _ (pv 1) (@pa_cons _ _ _ _ _ (pv 2) pa_nil se_Name) se_Name)) (by rfl) (by first | exact .inl rfl | exact .inr rfl | assumption)) (@pss_cons _ _ _ _ _ (ps_setComp (i := 4) (N' := ["_law_k", "_law_left"]) rfl (blk (osc := defScope s_law) rfl (by decide +kernel)) (cap_own (cap_out (i := 1) rfl rfl cap_nil)) (pi_range1 rfl T.n_range (@pa_cons _ _ _ _ _ (pe_op op_add pe_int (pe_call (ok__law_take (fu := fu) T) (hr.mono (by decide)) rfl T.m__law_take T.F__law_take.kp T.b__law_take .nil passE (@pa_cons _ _ _ _ _ (pv 1) (@pa_cons _ _ _ _ _ pe_int pa_nil se_Constant) se_Name))) pa_nil se_BinOp)) (gown_name rfl) (fun C s₀ H₀ fp => pg_name (i := 0) (show (["_law_k", "_law_left"] : List Str).Nodup from by decide +kernel) rfl (Or.inl rfl)) (fun C s₀ H₀ fp => pts_nil) (fun C s₀ H₀ fp => (pe_call (ok__law_ratio (fu := fu) T) (hr.mono (by decide)) rfl T.m__law_ratio T.F__law_ratio.kp T.b__law_ratio .nil passF (@pa_cons _ _ _ _ _ (pv 1) pa_nil se_Name))) sc_law.nd rfl rfl) (@pss_cons _ _ _ _ _ (@ps_set _ _ 5 _ _ _ _ sc_law.nd rfl (Or.inl rfl) (pe_make T.mk_Store (ok_Store___init__ (fu := fu) T) (hr.mono (by decide)) rfl T.m_Store T.b_Store___init__ .nil passE (@pa_cons _ _ _ _ _ (pv 2) pa_nil se_Name)) (by rfl) (by first | exact .inl rfl | exact .inr rfl | assumption)) (@pss_cons _ _ _ _ _ (@ps_set _ _ 6 _ _ _ _ sc_law.nd rfl (Or.inl rfl) (pe_make T.mk_Store (ok_Store___init__ (fu := fu) T) (hr.mono (by decide)) rfl T.m_Store T.b_Store___init__ .nil passE (@pa_cons _ _ _ _ _ (pe_tupRev (K := K) rfl rfl T.n_tuple rfl T.n_reversed (pv 2)) pa_nil se_Call)) (by rfl) (by first | exact .inl rfl | exact .inr rfl | assumption)) (@pss_cons _ _ _ _ _ (ps_if (pt_cmpR (op_eqNil (K := K) hr) (pe_call (ok__law_leaves (fu := fu) T) (hr.mono (by decide)) rfl T.m__law_leaves T.F__law_leaves.kp T.b__law_leaves .nil passE (@pa_cons _ _ _ _ _ (pv 6) (@pa_cons _ _ _ _ _ (pe_listRev (K := K) rfl rfl T.n_list rfl T.n_reversed (pv 4)) (@pa_cons _ _ _ _ _ (pe_tupRev (K := K) rfl rfl T.n_tuple rfl T.n_reversed (pv 3)) pa_nil se_Call) se_Call) se_Name)) (@pe_lst _ _ _ _ pa_nil) (by rfl)) (@pss_one _ _ _ (@ps_ret _ _ _ _ pe_bl)) pss_nil) (@pss_cons _ _ _ _ _ (ps_if (pt_not (pt_val (pe_call (ok__law_keeps (fu := fu) T) (hr.mono (by decide)) rfl T.m__law_keeps T.F__law_keeps.kp T.b__law_keeps .nil passE (@pa_cons _ _ _ _ _ (pv 1) (@pa_cons _ _ _ _ _ (pv 5) (@pa_cons _ _ _ _ _ (pv 2) (@pa_cons _ _ _ _ _ (pv 3) (@pa_cons _ _ _ _ _ (pv 4) pa_nil se_Name) se_Name) se_Name) se_Name) se_Name)))) (@pss_one _ _ _ (@ps_ret _ _ _ _ pe_bl)) pss_nil) (@pss_cons _ _ _ _ _ (ps_if (pt_not (pt_val (pe_call (ok__law_keeps (fu := fu) T) (hr.mono (by decide)) rfl T.m__law_keeps T.F__law_keeps.kp T.b__law_keeps .nil passE (@pa_cons _ _ _ _ _ (pv 1) (@pa_cons _ _ _ _ _ (pv 6) (@pa_cons _ _ _ _ _ (pe_tupRev (K := K) rfl rfl T.n_tuple rfl T.n_reversed (pv 2)) (@pa_cons _ _ _ _ _ (pe_tupRev (K := K) rfl rfl T.n_tuple rfl T.n_reversed (pv 3)) (@pa_cons _ _ _ _ _ (pv 4) pa_nil se_Name) se_Call) se_Call) se_Name) se_Name)))) (@pss_one _ _ _ (@ps_ret _ _ _ _ pe_bl)) pss_nil) (@pss_one _ _ _ (@ps_ret _ _ _ _ (pe_cmp (pc_eqI (pe_callB (call_lenK (K := K)) rfl T.n_len boot_len (@pa_cons _ _ _ _ _ (pe_call (ok__law_leaves (fu := fu) T) (hr.mono (by decide)) rfl T.m__law_leaves T.F__law_leaves.kp T.b__law_leaves .nil passE (@pa_cons _ _ _ _ _ (pv 5) (@pa_cons _ _ _ _ _ (pv 4) (@pa_cons _ _ _ _ _ (pv 3) pa_nil se_Name) se_Name) se_Name)) pa_nil se_Call)) (pe_callB (call_lenK (K := K)) rfl T.n_len boot_len (@pa_cons _ _ _ _ _ (pv 4) pa_nil se_Name))))))))))))))), fn_tw (n := 1) (k := 6) (b := tb_law fu) rfl (rs_seq (rs_asg (re_listRev (re_slL (re_var 0) ro_no (ro_some (re_int _)))) rg_name) (rs_seq (rs_asg (re_call (rl_cons (re_var 1) (rl_cons (re_int _) rl_nil))) rg_name) (rs_seq (rs_asg (re_call (rl_cons (re_var 1) (rl_cons (re_var 2) rl_nil))) rg_name) (rs_seq (rs_setComp (re_comp (cap := [none, some 1]) (ri_range1 (re_op r2_add (re_int _) (re_call (rl_cons (re_var 1) (rl_cons (re_int _) rl_nil))))) rg_name rt_true (re_call (rl_cons (re_var 1) rl_nil)))) (rs_seq (rs_asg (re_makeS T.ns_Store (rl_cons (re_var 2) rl_nil)) rg_name) (rs_seq (rs_asg (re_makeS T.ns_Store (rl_cons (re_tupRev (re_var 2)) rl_nil)) rg_name) (rs_seq (rs_if (rt_test (re_op r2_eqNil (re_call (rl_cons (re_var 6) (rl_cons (re_listRev (re_var 4)) (rl_cons (re_tupRev (re_var 3)) rl_nil)))) (re_lst rl_nil))) (rs_ret (re_bl _)) rs_next) (rs_seq (rs_if (rt_not (rt_e (re_call (rl_cons (re_var 1) (rl_cons (re_var 5) (rl_cons (re_var 2) (rl_cons (re_var 3) (rl_cons (re_var 4) rl_nil)))))))) (rs_ret (re_bl _)) rs_next) (rs_seq (rs_if (rt_not (rt_e (re_call (rl_cons (re_var 1) (rl_cons (re_var 6) (rl_cons (re_tupRev (re_var 2)) (rl_cons (re_tupRev (re_var 3)) (rl_cons (re_var 4) rl_nil)))))))) (rs_ret (re_bl _)) rs_next) (rs_ret (re_eqI (re_fn rc_len (rl_cons (re_call (rl_cons (re_var 5) (rl_cons (re_var 4) (rl_cons (re_var 3) rl_nil)))) rl_nil)) (re_fn rc_len (rl_cons (re_var 4) rl_nil))))))))))))) h⟩)
end

section
open Mth
noncomputable def Big (fu : Nat) : Prop := 2 ^ 9000 ≤ fu
theorem Big.le {fu : Nat} (h : Big fu) : 1000000 ≤ fu := Nat.le_trans (show 1000000 ≤ 2 ^ 20 by decide) (Nat.le_trans (Nat.pow_le_pow_right (by decide) (by decide)) h)
local macro_rules | `(tactic| walk_at "w1") => `(tactic| first
 | with_reducible apply wx_c | ((with_reducible apply wx_var); exact rfl) | with_reducible apply wx_nil | with_reducible apply wx_oNo | with_reducible apply wx_next | with_reducible apply wx_true
 | with_reducible apply wx_seq | ((with_reducible apply wx_set); try dsimp only [List.set]) | with_reducible apply wx_expr | with_reducible apply wx_ret | with_reducible apply wx_par
 | with_reducible apply wx_op | with_reducible apply wx_un | with_reducible apply wx_bE | with_reducible apply wx_eB | with_reducible apply wx_not
 | with_reducible apply wx_cons | with_reducible apply wx_tup | with_reducible apply wx_lst | with_reducible apply wx_fn | with_reducible apply wx_call
 | with_reducible apply wx_oSome | with_reducible apply wx_sl | with_reducible apply wx_dict0
 | with_reducible apply ox_add | with_reducible apply ox_sub | with_reducible apply ox_neg | with_reducible apply ox_lt | with_reducible apply ox_le | with_reducible apply ox_gt | with_reducible apply ox_ge | with_reducible apply ox_eqI | with_reducible apply ox_neI
 | with_reducible apply ox_min | with_reducible apply ox_max | with_reducible apply ox_ix0 | with_reducible apply ox_ix1
 | ((with_reducible apply ox_pow); exact ⟨by decide, by decide, by decide⟩)
 | ((with_reducible apply ox_mul); first | exact .inl (by decide) | exact .inr (by decide))
 | with_reducible refine Exists.intro _ (And.intro rfl ?_))
local macro_rules | `(tactic| walk_at "w") => `(tactic| repeat walk_at "w1")
local macro_rules | `(tactic| walk_at "wr") => `(tactic| (refine wx_run rfl rfl ?_; dsimp only [List.map, HAppend.hAppend, Append.append, List.append, List.replicate]))
section
variable {fu : Nat} {S S' S2 : Sto} {x y : Xv}
theorem wx_ifT {c : Prop} [Decidable c] {A B : Prop} (h : c → A) (g : ¬ c → B) : (decide c = true → A) ∧ (decide c = false → B) := ⟨fun e => h (of_decide_eq_true e), fun e => g (of_decide_eq_false e)⟩
noncomputable def Kp (w : Nat → Prop) (S S' : Sto) : Prop := S.length ≤ S'.length ∧ ∀ (n : Nat) c, S[n]? = some c → ¬ w n → S'[n]? = some c
theorem Kp.refl (w : Nat → Prop) : Kp w S S := ⟨Nat.le_refl _, fun _ _ e _ => e⟩
theorem Kp.trans {w : Nat → Prop} (a : Kp w S S') (b : Kp w S' S2) : Kp w S S2 := ⟨Nat.le_trans a.1 b.1, fun n c e z => b.2 n c (a.2 n c e z) z⟩
theorem Kp.mono {w w' : Nat → Prop} (a : Kp w S S') (h : ∀ n, w n → w' n) : Kp w' S S' := ⟨a.1, fun n c e z => a.2 n c e fun q => z (h n q)⟩
theorem Kp.pre {w : Nat → Prop} (p : S <+: S') : Kp w S S' := ⟨p.length_le, fun n c e _ => by
 obtain ⟨T, rfl⟩ := p
 rw [List.getElem?_append_left (List.getElem?_eq_some_iff.1 e).1]
 exact e⟩
theorem Kp.app {w : Nat → Prop} {T : Sto} (a : Kp w S S') : Kp w S (S' ++ T) := a.trans (Kp.pre (List.prefix_append _ _))
theorem Kp.set {w : Nat → Prop} {n : Nat} {c : Ce} (a : Kp w S S') (h : w n ∨ S.length ≤ n) : Kp w S (S'.set n c) := ⟨by simpa using a.1, fun m d e z => by
 rw [List.getElem?_set]
 have hm := (List.getElem?_eq_some_iff.1 e).1
 rw [if_neg fun q => by
  subst q
  rcases h with h | h
  ·exact z h
  ·omega]
 exact a.2 m d e z⟩
theorem at_new {c : Ce} : (S ++ [c])[S.length]? = some c := by simp
theorem at_set {n : Nat} {c c' : Ce} (h : S[n]? = some c) : (S.set n c')[n]? = some c' := by rw [List.getElem?_set, if_pos rfl, if_pos (List.getElem?_eq_some_iff.1 h).1]
theorem at_oth {n m : Nat} {c c' : Ce} (h : S[m]? = some c) (q : n ≠ m) : (S.set n c')[m]? = some c := by rw [List.getElem?_set, if_neg q]; exact h
theorem sz100 {n : Nat} (h : n ≤ 100) : n < sizeLine := Nat.lt_of_le_of_lt h (by decide)
theorem sz999 {n : Nat} (h : n ≤ 999) : n < sizeLine := Nat.lt_of_le_of_lt h (by decide)
noncomputable def LeftAt (ln : Nat) (S : Sto) : Prop := ∃ ns : List Int, S[ln]? = some (.lst (ns.map Xv.int))
theorem LeftAt.keep {w : Nat → Prop} {ln : Nat} (h : LeftAt ln S) (k : Kp w S S') (z : ¬ w ln) : LeftAt ln S' := by
 obtain ⟨ns, e⟩ := h
 exact ⟨ns, k.2 _ _ e z⟩
theorem t_take {ln : Nat} {many : Int} (hl : LeftAt ln S) (hm : 0 < many) : W (tw__law_take fu [.ref ln, .int many] S) fun v S' => ∃ c, v = .int c ∧ 0 ≤ c ∧ c < many ∧ LeftAt ln S' ∧ Kp (· = ln) S S' := by
 obtain ⟨ns, e⟩ := id hl
 walk_at "wr"; unfold tb__law_take; walk_at "w"
 refine wx_if ?_
 walk_at "w"
 refine ox_len (lstAt_of e) ?_
 walk_at "w"
 rw [List.length_map]
 refine wx_ifT (fun h => ?_) (fun h => ?_)
 ·walk_at "w"
  exact ⟨by omega, hm, hl, Kp.refl _⟩
 ·walk_at "w"
  refine wx_mt ?_
  walk_at "w"
  refine ⟨⟨_, lstAt_of e⟩, ?_⟩
  walk_at "w"
  have hn : ns.length - 1 < ns.length := by omega
  refine WO.of (show mPop (.ref ln) [] S = some (.int ns[ns.length - 1], S.set ln (.lst (ns.dropLast.map Xv.int))) by
   unfold mPop
   rw [wlAt_of e]
   dsimp only
   rw [List.length_map, List.getElem?_map, List.getElem?_eq_getElem hn, ← List.map_dropLast]
   rfl) ?_
  walk_at "w"
  refine ox_mod hm ?_
  refine ⟨_, rfl, Int.emod_nonneg _ (by omega), Int.emod_lt_of_pos _ hm, ⟨_, at_set e⟩, (Kp.refl _).set (.inl rfl)⟩
noncomputable def plX : Nat → Xv → Bool
 | _, .int _ => true
 | _, .str _ => true
 | n + 1, .tup l => decide (l.length ≤ 100) && l.all (plX n)
 | _, _ => false
theorem ix_A {l : List Xv} {i : Int} {z : Xv} (h : atI l i = some z) : dIxA (.tup l) (.int i) S = some (z, S) := by
 show (atI l i).map (fun z => (z, S)) = _
 rw [h]; rfl
theorem bols_yes : ∀ n : Nat, bolsX (List.replicate n (Xv.bl true)) = some (List.replicate n true)
 | 0 => rfl
 | n + 1 => by rw [List.replicate_succ, List.replicate_succ]; simp [bolsX, bols_yes n]
theorem ox_all {P : Xv → Sto → Prop} {l : List Xv} {bs : List Bool} (h : lstAt S x = some l) (h2 : bolsX l = some bs) (k : P (.bl (bs.all id)) S) : WO (dAll [x] S) P := .of (by unfold dAll; dsimp only; rw [h, Option.bind_some, h2]; rfl) k
theorem ox_eqSs {P : Xv → Sto → Prop} {a b : Str} (k : P (.bl (decide (a = b))) S) : WO (dEqS false (.str a) (.str b) S) P := .of (by show some (Xv.bl (false != decide (a = b)), S) = _; rw [Bool.false_bne]) k
theorem ox_eqSi {P : Xv → Sto → Prop} {a b : Int} (k : P (.bl (decide (a = b))) S) : WO (dEqS false (.int a) (.int b) S) P := .of (by show some (Xv.bl (false != decide (a = b)), S) = _; rw [Bool.false_bne]) k
theorem t_same : ∀ (n : Nat) {S : Sto} {x : Xv}, plX n x = true → W (tw__law_same fu (n + 1) [x, x] S) fun v S' => v = .bl true ∧ S <+: S' := by
 have flat : ∀ (n : Nat) {S : Sto} {x : Xv}, ((∃ i, x = .int i) ∨ ∃ s, x = .str s) → W (tw__law_same fu (n + 1) [x, x] S) fun v S' => v = .bl true ∧ S <+: S' := by
  intro n S x hx
  rw [tw__law_same_succ]
  walk_at "wr"; unfold tb__law_same
  refine wx_seq (wx_if ?_)
  walk_at "w"
  refine ox_isi (v := false) (by rcases hx with ⟨i, rfl⟩ | ⟨s, rfl⟩ <;> rfl) ?_
  refine ⟨_, rfl, fun z => (by cases z), fun _ => wx_next ?_⟩
  refine wx_seq (wx_if ?_)
  walk_at "w"
  refine ox_isi (v := false) (by rcases hx with ⟨i, rfl⟩ | ⟨s, rfl⟩ <;> rfl) ?_
  refine ⟨_, rfl, fun z => (by cases z), fun _ => wx_next ?_⟩
  refine wx_seq (wx_if ?_)
  walk_at "w"
  refine WO.of (show dIsN x S = some (.bl false, S) by rcases hx with ⟨i, rfl⟩ | ⟨s, rfl⟩ <;> rfl) ?_
  refine ⟨_, rfl, fun z => (by cases z), fun _ => wx_next ?_⟩
  refine wx_seq (wx_if ?_)
  walk_at "w"
  rcases hx with ⟨i, rfl⟩ | ⟨s, rfl⟩
  ·refine ox_isi (v := false) rfl ?_
   refine ⟨_, rfl, fun z => (by cases z), fun _ => wx_next ?_⟩
   refine wx_ret (wx_eAnd ?_)
   walk_at "w"
   refine ox_isi (v := true) rfl ?_
   refine ⟨_, rfl, fun _ => ?_, fun z => (by cases z)⟩
   refine wx_eAnd ?_
   walk_at "w"
   refine ox_isi (v := false) rfl ?_
   refine ⟨_, rfl, _, rfl, fun _ => ?_, fun z => (by cases z)⟩
   walk_at "w"
   refine ox_eqSi ?_
   exact ⟨by rw [decide_eq_true rfl], List.prefix_refl _⟩
  ·refine ox_isi (v := true) rfl ?_
   refine ⟨_, rfl, fun _ => ?_, fun z => (by cases z)⟩
   refine wx_ret (wx_eAnd ?_)
   walk_at "w"
   refine ox_isi (v := true) rfl ?_
   refine ⟨_, rfl, fun _ => ?_, fun z => (by cases z)⟩
   walk_at "w"
   refine ox_eqSs ?_
   exact ⟨by rw [decide_eq_true rfl], List.prefix_refl _⟩
 intro n
 induction n with
 | zero =>
  intro S x h
  refine flat 0 ?_
  cases x <;> first | exact .inl ⟨_, rfl⟩ | exact .inr ⟨_, rfl⟩ | (simp [plX] at h)
 | succ n ih =>
  intro S x h
  cases x with
  | int i => exact flat _ (.inl ⟨_, rfl⟩)
  | str i => exact flat _ (.inr ⟨_, rfl⟩)
  | tup l =>
   unfold plX at h
   rw [Bool.and_eq_true, List.all_eq_true] at h
   obtain ⟨hl, hall⟩ := h
   have hl := of_decide_eq_true hl
   rw [tw__law_same_succ]
   walk_at "wr"; unfold tb__law_same
   refine wx_seq (wx_if ?_)
   walk_at "w"
   refine ox_isi (v := true) rfl ?_
   refine ⟨_, rfl, fun _ => ?_, fun z => (by cases z)⟩
   refine wx_seq (wx_if (wx_or ?_))
   walk_at "w"
   refine ox_isi (v := true) rfl ?_
   refine ⟨_, rfl, fun z => (by cases z), fun _ => ?_⟩
   walk_at "w"
   refine WO.of (show dLen [Xv.tup l] S = some (.int l.length, S) from rfl) ?_
   walk_at "w"
   refine WO.of (show dLen [Xv.tup l] S = some (.int l.length, S) from rfl) ?_
   walk_at "w"
   refine ⟨fun z => ?_, fun _ => wx_next ?_⟩
   ·simp at z
   refine wx_ret (wx_fn (wx_cons ?_))
   refine wx_comp (wx_iR1 ?_)
   walk_at "w"
   refine WO.of (show dLen [Xv.tup l] S = some (.int l.length, S) from rfl) ?_
   refine ⟨_, rfl, ⟨by omega, by omega⟩, _, rfl, ?_⟩
   refine wx_compI (by rw [rangeX_len]; exact Nat.le_of_lt (sz100 (by omega))) (fun i es S2 => S <+: S2 ∧ es = List.replicate i (.bl true)) (fun _ _ _ _ _ => rfl) ?_ ⟨List.prefix_refl _, rfl⟩ ?_
   ·rintro i w es S2 hw hel ⟨p2, rfl⟩
    obtain ⟨hi, rfl⟩ := rangeX_at hw
    have hil : i < l.length := by omega
    have hia : atI l ((0 : Int) + (i : Int)) = some l[i] := by rw [Int.zero_add]; exact atI_nn (by omega) (by rw [Int.toNat_natCast]; exact List.getElem?_eq_getElem hil)
    refine .of rfl ?_
    dsimp only [capR, List.map, List.set]
    walk_at "w"
    refine ⟨rfl, ?_⟩
    walk_at "w"
    refine WO.of (ix_A hia) ?_
    walk_at "w"
    refine WO.of (ix_A hia) ?_
    walk_at "w"
    refine (ih (hall _ (List.getElem_mem hil))).imp ?_
    rintro _ S3 ⟨rfl, p3⟩
    exact ⟨p2.trans p3, by rw [List.replicate_succ']⟩
   ·rintro es S2 _ ⟨p2, rfl⟩
    walk_at "w"
    refine ox_all lstAt_new (bols_yes _) ?_
    refine ⟨by simp, p2.trans (List.prefix_append _ _)⟩
  | _ => simp [plX] at h
end
section
variable {fu : Nat} {S S' S2 : Sto} {x y : Xv}
noncomputable abbrev Q2 := Int × Int
noncomputable def qv (q : Q2) : Xv := .tup [.int q.1, .int q.2]
noncomputable def ksX (ks : List Nat) : List Xv := ks.map fun (k : Nat) => .int (k : Int)
inductive Fact where
 | leaf (q : Q2)
 | fork (lv : Nat) (ks : List Nat)
noncomputable def factX : Fact → Xv
 | .leaf q => .tup [.str "leaf", qv q]
 | .fork lv ks => .tup [.str "fork", .int (lv : Int), .tup (ksX ks)]
noncomputable def factK : Fact → NK
 | .leaf q => .tup [.str "leaf", .tup [.int q.1, .int q.2]]
 | .fork lv ks => .tup [.str "fork", .int (lv : Int), .tup (ks.map fun (k : Nat) => .int (k : Int))]
theorem ksX_key : ∀ ks : List Nat, xkeyL (ksX ks) = some (ks.map fun (k : Nat) => .int (k : Int))
 | [] => rfl
 | k :: r => by
  show xkeyL (Xv.int (k : Int) :: ksX r) = _
  simp [xkeyL, xkey, ksX_key r]
theorem ks_dep : ∀ ks : List Nat, ndepL (ks.map fun (k : Nat) => NK.int (k : Int)) ≤ 1
 | [] => by simp [ndepL]
 | k :: r => by
  have := ks_dep r
  simp [ndepL, ndep]
  omega
theorem fact_key (f : Fact) : tkey (factX f) = some (factK f) := by
 cases f with
 | leaf q => simp [tkey, factX, factK, qv, xkey, xkeyL, ndep, ndepL]
 | fork lv ks =>
  have := ks_dep ks
  simp [tkey, factX, factK, xkey, xkeyL, ksX_key, ndep, ndepL]
  omega
theorem fact_keyX (f : Fact) : keyX (factX f) = none := by cases f <;> rfl
theorem natInt_inj : ∀ {a b : List Nat}, (a.map fun (k : Nat) => NK.int (k : Int)) = (b.map fun (k : Nat) => NK.int (k : Int)) → a = b
 | [], [], _ => rfl
 | [], _ :: _, h => by cases h
 | _ :: _, [], h => by cases h
 | x :: r, y :: t, h => by
  rw [List.map_cons, List.map_cons] at h
  injection h with h1 h2
  injection h1 with h1
  rw [natInt_inj h2, Int.ofNat_inj.1 h1]
theorem factK_inj {f g : Fact} (h : factK f = factK g) : f = g := by
 cases f with
 | leaf q =>
  cases g with
  | leaf p =>
   obtain ⟨a, b⟩ := q
   obtain ⟨c, d⟩ := p
   simp [factK] at h
   rw [h.1, h.2]
  | fork lv ks => simp [factK] at h
 | fork lv ks =>
  cases g with
  | leaf p => simp [factK] at h
  | fork lw js =>
   simp only [factK, NK.tup.injEq, List.cons.injEq, NK.int.injEq, and_true, true_and] at h
   rw [natInt_inj h.2, Int.ofNat_inj.1 h.1]
noncomputable def entsI (i : Nat) : List Fact → List (NK × Xv × Xv)
 | [] => []
 | f :: r => (factK f, factX f, .int (i : Int)) :: entsI (i + 1) r
noncomputable def dcell : List Fact → Ce
 | [] => .dk []
 | f :: r => .dn (entsI 0 (f :: r))
theorem ents_len : ∀ (i : Nat) (fs : List Fact), (entsI i fs).length = fs.length
 | _, [] => rfl
 | i, f :: r => by simp [entsI, ents_len (i + 1) r]
theorem ents_app (g : Fact) : ∀ (i : Nat) (fs : List Fact), entsI i (fs ++ [g]) = entsI i fs ++ [(factK g, factX g, .int ((i + fs.length : Nat) : Int))]
 | _, [] => by simp [entsI]
 | i, f :: r => by
  simp only [List.cons_append, entsI, ents_app g (i + 1) r, List.length_cons]
  rw [show i + 1 + r.length = i + (r.length + 1) by omega]
theorem ents_none {g : Fact} : ∀ (i : Nat) (fs : List Fact), g ∉ fs → valNX (entsI i fs) (factK g) = none
 | _, [], _ => rfl
 | i, f :: r, h => by
  have h1 : ¬ factK f = factK g := fun e => h (by rw [factK_inj e]; exact List.mem_cons_self ..)
  have := ents_none (i + 1) r fun e => h (List.mem_cons_of_mem _ e)
  unfold valNX at this ⊢
  simp only [entsI]
  rw [List.find?_cons, decide_eq_false h1]
  exact this
theorem ents_some {g : Fact} : ∀ (i : Nat) (fs : List Fact) (j : Nat), fs.Nodup → fs[j]? = some g → valNX (entsI i fs) (factK g) = some (.int ((i + j : Nat) : Int))
 | _, [], _, _, h => by cases h
 | i, f :: r, 0, _, h => by
  cases h
  simp [valNX, entsI]
 | i, f :: r, j + 1, hn, h => by
  rw [List.getElem?_cons_succ] at h
  obtain ⟨hf, hn⟩ := List.nodup_cons.1 hn
  have h1 : ¬ factK f = factK g := fun e => hf (by rw [factK_inj e]; exact List.mem_of_getElem? h)
  have := ents_some (i + 1) r j hn h
  unfold valNX at this ⊢
  simp only [entsI]
  rw [List.find?_cons, decide_eq_false h1, show i + (j + 1) = i + 1 + j by omega]
  exact this
structure StAt (sn fn dn : Nat) (bx : Xv) (fs : List Fact) (S : Sto) : Prop where
 o : S[sn]? = some (.ins "Store" [("boxes", bx), ("facts", .ref fn), ("numbers", .ref dn)])
 f : S[fn]? = some (.lst (fs.map factX))
 d : S[dn]? = some (dcell fs)
 nd : fs.Nodup
section
variable {sn fn dn : Nat} {bx : Xv} {fs : List Fact}
theorem dcell_ne {l : List Xv} : dcell fs ≠ .lst l := by cases fs <;> simp [dcell]
theorem dcell_ni {c : Str} {l : List (Str × Xv)} : dcell fs ≠ .ins c l := by cases fs <;> simp [dcell]
theorem StAt.fd (h : StAt sn fn dn bx fs S) : fn ≠ dn := fun e => by
 have h1 := h.f
 rw [e, h.d] at h1
 exact dcell_ne (Option.some.inj h1)
theorem StAt.sf (h : StAt sn fn dn bx fs S) : sn ≠ fn := fun e => by
 have h1 := h.o
 rw [e, h.f] at h1
 cases h1
theorem StAt.sd (h : StAt sn fn dn bx fs S) : sn ≠ dn := fun e => by
 have h1 := h.o
 rw [e, h.d] at h1
 exact dcell_ni (Option.some.inj h1)
theorem StAt.keep {w : Nat → Prop} (h : StAt sn fn dn bx fs S) (k : Kp w S S') (h1 : ¬ w sn) (h2 : ¬ w fn) (h3 : ¬ w dn) : StAt sn fn dn bx fs S' := ⟨k.2 _ _ h.o h1, k.2 _ _ h.f h2, k.2 _ _ h.d h3, h.nd⟩
theorem StAt.pre (h : StAt sn fn dn bx fs S) (p : S <+: S') : StAt sn fn dn bx fs S' := h.keep (Kp.pre (w := fun _ => False) p) id id id
theorem StAt.get (h : StAt sn fn dn bx fs S) (f : Fact) : ∃ o, dgetS S (.ref dn) (factX f) = some o ∧ (∀ j : Nat, fs[j]? = some f → o = some (.int (j : Int))) ∧ (f ∉ fs → o = none) := by
 unfold dgetS
 dsimp only
 rw [h.d]
 cases fs with
 | nil =>
  unfold dcell
  dsimp only
  rw [fact_keyX, fact_key]
  exact ⟨none, rfl, (fun j e => by simp at e), fun _ => rfl⟩
 | cons g r =>
  unfold dcell
  dsimp only
  rw [fact_key]
  refine ⟨_, rfl, fun j e => ?_, fun e => ents_none 0 _ e⟩
  rw [ents_some 0 _ j h.nd e, Nat.zero_add]
theorem StAt.put (h : StAt sn fn dn bx fs S) (hl : fs.length < sizeLine) {f : Fact} (hf : f ∉ fs) : dputS S (.ref dn) (factX f) (.int (fs.length : Int)) = some (S.set dn (dcell (fs ++ [f]))) := by
 unfold dputS
 dsimp only
 rw [h.d]
 cases fs with
 | nil =>
  unfold dcell
  dsimp only
  rw [fact_keyX, fact_key]
  rfl
 | cons g r =>
  unfold dcell
  dsimp only [List.cons_append]
  rw [if_pos (by rw [ents_len]; exact hl), fact_key]
  dsimp only [Option.map_some]
  unfold putNX
  rw [ents_none 0 _ hf, ← List.cons_append, ents_app f 0 (g :: r), Nat.zero_add]
  rfl
structure Grown (sn fn dn : Nat) (bx : Xv) (fs : List Fact) (m : Nat) (S : Sto) (fs' : List Fact) (S' : Sto) : Prop where
 st : StAt sn fn dn bx fs' S'
 pre : fs <+: fs'
 len : fs'.length ≤ fs.length + m
 kp : Kp (fun n => n = fn ∨ n = dn) S S'
theorem StAt.grown (h : StAt sn fn dn bx fs S) : Grown sn fn dn bx fs 0 S fs S := ⟨h, List.prefix_refl _, by omega, Kp.refl _⟩
theorem Grown.trans {fs1 fs2 : List Fact} {m m' : Nat} (a : Grown sn fn dn bx fs m S fs1 S') (b : Grown sn fn dn bx fs1 m' S' fs2 S2) : Grown sn fn dn bx fs (m + m') S fs2 S2 := ⟨b.st, a.pre.trans b.pre, by have := a.len; have := b.len; omega, a.kp.trans b.kp⟩
theorem Grown.more {fs1 : List Fact} {m m' : Nat} (a : Grown sn fn dn bx fs m S fs1 S') (h : m ≤ m') : Grown sn fn dn bx fs m' S fs1 S' := ⟨a.st, a.pre, by have := a.len; omega, a.kp⟩
theorem Grown.app {fs1 : List Fact} {m : Nat} (a : Grown sn fn dn bx fs m S fs1 S') (p : S' <+: S2) : Grown sn fn dn bx fs m S fs1 S2 := ⟨a.st.pre p, a.pre, a.len, a.kp.trans (Kp.pre p)⟩
theorem Grown.of_pre (h : StAt sn fn dn bx fs S) (p : S <+: S') : Grown sn fn dn bx fs 0 S fs S' := h.grown.app p
theorem Grown.set {fs1 : List Fact} {m n : Nat} {c : Ce} (a : Grown sn fn dn bx fs m S fs1 S') (h : S.length ≤ n) (h0 : S[sn]? ≠ none) (h1 : S[fn]? ≠ none) (h2 : S[dn]? ≠ none) : Grown sn fn dn bx fs m S fs1 (S'.set n c) := by
 have q : ∀ k, S[k]? ≠ none → n ≠ k := fun k hk e => hk (List.getElem?_eq_none (by omega))
 exact ⟨⟨at_oth a.st.o (q _ h0), at_oth a.st.f (q _ h1), at_oth a.st.d (q _ h2), a.st.nd⟩, a.pre, a.len, a.kp.set (.inr h)⟩
theorem getP {α : Type} {l l' : List α} {i : Nat} {a : α} (p : l <+: l') (h : l[i]? = some a) : l'[i]? = some a := by
 obtain ⟨t, rfl⟩ := p
 rw [List.getElem?_append_left (List.getElem?_eq_some_iff.1 h).1]; exact h
theorem one_at {fs : List Fact} (h : fs.Nodup) {i j : Nat} {f : Fact} (h1 : fs[i]? = some f) (h2 : fs[j]? = some f) : i = j := by
 obtain ⟨a, e1⟩ := List.getElem?_eq_some_iff.1 h1
 obtain ⟨b, e2⟩ := List.getElem?_eq_some_iff.1 h2
 exact (List.getElem_inj h).1 (e1.trans e2.symm)
theorem t_number (h : StAt sn fn dn bx fs S) (hl : fs.length ≤ 900) (f : Fact) : W (tw_Store_number_of fu [.ref sn, factX f] S) fun v S' => ∃ (i : Nat) (fs' : List Fact), v = .int (i : Int) ∧ fs'[i]? = some f ∧ Grown sn fn dn bx fs 1 S fs' S' := by
 walk_at "wr"; unfold tb_Store_number_of
 have hz : fs.length < sizeLine := sz999 (by omega)
 obtain ⟨o, eo, os, on⟩ := h.get f
 refine wx_seq (wx_cut (fun ρ S2 => ρ = [some (.ref sn), some (factX f)] ∧ ∃ (i : Nat) (fs' : List Fact), fs'[i]? = some f ∧ Grown sn fn dn bx fs 1 S fs' S2) (wx_if ?_) ?_)
 ·refine wx_bE (wx_dinN ?_)
  walk_at "w"
  refine wx_fld ?_
  walk_at "w"
  refine ⟨_, _, _, rfl, h.o, rfl, o, eo, _, rfl, fun z => ?_, fun z => wx_next ⟨rfl, ?_⟩⟩
  ·have hf : f ∉ fs := fun hm => by
    obtain ⟨j, hj⟩ := List.getElem?_of_mem hm
    rw [os j hj] at z
    cases z
   refine wx_seq (wx_dputN ?_)
   walk_at "w"
   refine wx_fld ?_
   walk_at "w"
   refine ⟨_, _, _, rfl, h.o, rfl, ?_⟩
   walk_at "w"
   refine ox_len (lstAt_of h.f) ?_
   rw [List.length_map]
   refine wx_fld ?_
   walk_at "w"
   refine ⟨_, _, _, rfl, h.o, rfl, ?_⟩
   walk_at "w"
   refine ⟨_, h.put hz hf, ?_⟩
   refine wx_expr (wx_mt (wx_fld ?_))
   walk_at "w"
   have ho := at_oth (c' := dcell (fs ++ [f])) h.o h.sd.symm
   have hf2 := at_oth (c' := dcell (fs ++ [f])) h.f h.fd.symm
   refine ⟨_, _, _, rfl, ho, rfl, ⟨_, lstAt_of hf2⟩, ?_⟩
   walk_at "w"
   refine ox_append (wlAt_of hf2) (by rw [List.length_map]; exact hz) ?_
   refine ⟨rfl, fs.length, fs ++ [f], by simp, ⟨⟨at_oth ho h.sf.symm, ?_, at_oth (at_set h.d) h.fd, ?_⟩, List.prefix_append _ _, by simp, ((Kp.refl _).set (.inl (.inr rfl))).set (.inl (.inl rfl))⟩⟩
   ·rw [at_set hf2, List.map_append]; rfl
   ·rw [List.nodup_append]
    refine ⟨h.nd, by simp, ?_⟩
    intro a ha b hb e
    rw [List.mem_singleton] at hb
    subst hb e
    exact hf ha
  ·have hm : f ∈ fs := Classical.byContradiction fun hm => by
    rw [on hm] at z
    cases z
   obtain ⟨j, hj⟩ := List.getElem?_of_mem hm
   exact ⟨j, fs, hj, h.grown.more (by omega)⟩
 ·rintro _ S2 ⟨rfl, i, fs', hi, g⟩
  refine wx_ret (wx_dgetN ?_)
  refine wx_fld ?_
  walk_at "w"
  refine ⟨_, _, _, rfl, g.st.o, rfl, ?_⟩
  walk_at "w"
  obtain ⟨o2, eo2, os2, _⟩ := g.st.get f
  refine ⟨_, by rw [eo2, os2 i hi], i, fs', rfl, hi, g⟩
theorem t_leaf (h : StAt sn fn dn bx fs S) (hl : fs.length ≤ 900) (q : Q2) : W (tw_Store_leaf fu [.ref sn, qv q] S) fun v S' => ∃ (i : Nat) (fs' : List Fact), v = .int (i : Int) ∧ fs'[i]? = some (.leaf q) ∧ Grown sn fn dn bx fs 1 S fs' S' := by
 walk_at "wr"; unfold tb_Store_leaf
 refine wx_ret (wx_meth ?_)
 walk_at "w"
 refine ⟨_, _, rfl, h.o, rfl, ?_⟩
 walk_at "w"
 exact t_number h hl (.leaf q)
theorem atI_nat {l : List Xv} {i : Nat} {z : Xv} (h : l[i]? = some z) : atI l (i : Int) = some z := atI_nn (by omega) (by rw [Int.toNat_natCast]; exact h)
theorem ksX_at {ks : List Nat} {i k : Nat} (h : ks[i]? = some k) : (ksX ks)[i]? = some (.int (k : Int)) := by unfold ksX; rw [List.getElem?_map, h]; rfl
theorem facts_at {i : Nat} {f : Fact} (h : fs[i]? = some f) : (fs.map factX)[i]? = some (factX f) := by rw [List.getElem?_map, h]; rfl
theorem t_told (h : StAt sn fn dn bx fs S) {i : Nat} {f : Fact} (hi : fs[i]? = some f) : W (tw_Store_told fu [.ref sn, .int (i : Int)] S) fun v S' => v = factX f ∧ S' = S := by
 walk_at "wr"; unfold tb_Store_told
 walk_at "w"
 refine wx_fld ?_
 walk_at "w"
 refine ⟨_, _, _, rfl, h.o, rfl, ?_⟩
 walk_at "w"
 refine ox_ixL (lstAt_of h.f) (atI_nat (facts_at hi)) ⟨rfl, rfl⟩
theorem t_level (h : StAt sn fn dn bx fs S) {i lv : Nat} {ks : List Nat} (hi : fs[i]? = some (.fork lv ks)) : W (tw_Store_level_of fu [.ref sn, .int (i : Int)] S) fun v S' => v = .int (lv : Int) ∧ S' = S := by
 walk_at "wr"; unfold tb_Store_level_of
 walk_at "w"
 refine wx_fld ?_
 walk_at "w"
 refine ⟨_, _, _, rfl, h.o, rfl, ?_⟩
 walk_at "w"
 refine ox_ixL (lstAt_of h.f) (atI_nat (facts_at hi)) ?_
 walk_at "w"
 refine wx_eIf ?_
 walk_at "w"
 refine ox_ixT rfl atI_0 ?_
 walk_at "w"
 refine ox_eqSs ⟨_, rfl, fun _ => ?_, fun z => ?_⟩
 ·walk_at "w"
  exact ox_ixT rfl atI_1 ⟨rfl, rfl⟩
 ·exact absurd z (by decide)
theorem t_kids (h : StAt sn fn dn bx fs S) {i lv : Nat} {ks : List Nat} (hi : fs[i]? = some (.fork lv ks)) : W (tw_Store_kids_of fu [.ref sn, .int (i : Int)] S) fun v S' => v = .tup (ksX ks) ∧ S' = S := by
 walk_at "wr"; unfold tb_Store_kids_of
 walk_at "w"
 refine wx_fld ?_
 walk_at "w"
 refine ⟨_, _, _, rfl, h.o, rfl, ?_⟩
 walk_at "w"
 refine ox_ixL (lstAt_of h.f) (atI_nat (facts_at hi)) ?_
 walk_at "w"
 refine wx_eIf ?_
 walk_at "w"
 refine ox_ixT rfl atI_0 ?_
 walk_at "w"
 refine ox_eqSs ⟨_, rfl, fun _ => ?_, fun z => ?_⟩
 ·walk_at "w"
  exact ox_ixT rfl (show atI [Xv.str "fork", .int (lv : Int), .tup (ksX ks)] 2 = some (.tup (ksX ks)) from rfl) ⟨rfl, rfl⟩
 ·exact absurd z (by decide)
inductive VA (fs : List Fact) (st : List Nat) (q : Q2) : Nat → Nat → Prop
 | leaf {h n : Nat} : fs[n]? = some (.leaf q) → VA fs st q h n
 | fork {h n lv j k : Nat} {ks : List Nat} : fs[n]? = some (.fork lv ks) → st[lv]? = some j → ks[j]? = some k → VA fs st q h k → VA fs st q (h + 1) n
theorem VA.mono {fs' : List Fact} {st : List Nat} {q : Q2} {h n : Nat} (p : fs <+: fs') (v : VA fs st q h n) : VA fs' st q h n := by
 induction v with
 | leaf e => exact .leaf (getP p e)
 | fork e e1 e2 _ ih => exact .fork (getP p e) e1 e2 ih
theorem VA.more {st : List Nat} {q : Q2} {h n h' : Nat} (v : VA fs st q h n) (hh : h ≤ h') : VA fs st q h' n := by
 induction v generalizing h' with
 | leaf e => exact .leaf e
 | @fork h1 n1 lv j k ks e e1 e2 _ ih =>
  obtain ⟨m, rfl⟩ : ∃ m, h' = m + 1 := ⟨h' - 1, by omega⟩
  exact .fork e e1 e2 (ih (by omega))
theorem value_loop (st : List Nat) (q : Q2) (H : StAt sn fn dn bx fs S) : ∀ (h n m : Nat), VA fs st q h n → h < m → WS (whTw (bE (eOp (dEqS false) (eOp dIxT (eOp dIxL (eFldS "Store" "facts" (eVar 0)) (eVar 1)) (eC (.int 0))) (eC (.str "fork")))) (sAsg (eOp dIxT (eMethS "Store" "kids_of" (tw_Store_kids_of fu) (eVar 0) [(eVar 1)]) (eOp dIxT (eVar 2) (eMethS "Store" "level_of" (tw_Store_level_of fu) (eVar 0) [(eVar 1)]))) (gN 1)) m [some (.ref sn), some (.int (n : Int)), some (.tup (ksX st))] S) (fun ρ S' => ∃ n' : Nat, ρ = [some (.ref sn), some (.int (n' : Int)), some (.tup (ksX st))] ∧ S' = S ∧ fs[n']? = some (.leaf q)) (fun _ _ => False) := by
 intro h n m v
 induction v generalizing m with
 | @leaf h n e =>
  intro hm
  obtain ⟨m, rfl⟩ : ∃ k, m = k + 1 := ⟨m - 1, by omega⟩
  refine wx_turn ?_
  walk_at "w"
  refine wx_fld ?_
  walk_at "w"
  refine ⟨_, _, _, rfl, H.o, rfl, ?_⟩
  walk_at "w"
  refine ox_ixL (lstAt_of H.f) (atI_nat (facts_at e)) ?_
  walk_at "w"
  refine ox_ixT rfl atI_0 ?_
  walk_at "w"
  refine ox_eqSs ⟨_, rfl, fun z => ?_, fun _ => ⟨_, rfl, rfl, e⟩⟩
  exact absurd z (by decide)
 | @fork h n lv j k ks e e1 e2 _ ih =>
  intro hm
  obtain ⟨m, rfl⟩ : ∃ k, m = k + 1 := ⟨m - 1, by omega⟩
  refine wx_turn ?_
  walk_at "w"
  refine wx_fld ?_
  walk_at "w"
  refine ⟨_, _, _, rfl, H.o, rfl, ?_⟩
  walk_at "w"
  refine ox_ixL (lstAt_of H.f) (atI_nat (facts_at e)) ?_
  walk_at "w"
  refine ox_ixT rfl atI_0 ?_
  walk_at "w"
  refine ox_eqSs ⟨_, rfl, fun _ => ?_, fun z => absurd z (by decide)⟩
  walk_at "w"
  refine wx_meth ?_
  walk_at "w"
  refine ⟨_, _, rfl, H.o, rfl, ?_⟩
  walk_at "w"
  refine (t_kids H e).imp ?_
  rintro _ S2 ⟨rfl, rfl⟩
  walk_at "w"
  refine wx_meth ?_
  walk_at "w"
  refine ⟨_, _, rfl, H.o, rfl, ?_⟩
  walk_at "w"
  refine (t_level H e).imp ?_
  rintro _ S2 ⟨rfl, rfl⟩
  walk_at "w"
  refine ox_ixT rfl (atI_nat (ksX_at e1)) ?_
  refine ox_ixT rfl (atI_nat (ksX_at e2)) ?_
  exact ih _ (by omega)
theorem t_value {st : List Nat} {q : Q2} {h n : Nat} (H : StAt sn fn dn bx fs S) (v : VA fs st q h n) (hf : h < fu) : W (tw_Store_value_at fu [.ref sn, .int (n : Int), .tup (ksX st)] S) fun v S' => v = qv q ∧ S' = S := by
 walk_at "wr"; unfold tb_Store_value_at
 rcases value_loop (fu := fu) st q H h n fu v hf with ⟨ρ, S2, e0, n', rfl, rfl, e⟩ | ⟨_, _, _, z⟩
 rotate_left
 ·exact z.elim
 refine wx_seq (wx_wh (.nx e0 ?_))
 walk_at "w"
 refine wx_fld ?_
 walk_at "w"
 refine ⟨_, _, _, rfl, H.o, rfl, ?_⟩
 walk_at "w"
 refine ox_ixL (lstAt_of H.f) (atI_nat (facts_at e)) ?_
 walk_at "w"
 exact ox_ixT rfl atI_1 ⟨rfl, rfl⟩
theorem t_whole {i : Int} : W (tw__law_whole fu [.int i] S) fun v S' => v = .bl true ∧ S' = S := by
 walk_at "wr"; unfold tb__law_whole
 refine wx_ret (wx_eAnd ?_)
 walk_at "w"
 refine ox_isi (v := true) rfl ?_
 refine ⟨_, rfl, fun _ => ?_, fun z => (by cases z)⟩
 walk_at "w"
 refine ox_isi (v := false) rfl ?_
 exact ⟨_, rfl, rfl, rfl⟩
end
end
section
variable {fu : Nat} {S S' S2 : Sto} {x y : Xv} {sn fn dn : Nat} {bx : Xv} {fs : List Fact}
theorem bols_map : ∀ bs : List Bool, bolsX (bs.map Xv.bl) = some bs
 | [] => rfl
 | b :: r => by rw [List.map_cons]; simp [bolsX, bols_map r]
theorem ox_tuple {P : Xv → Sto → Prop} {n : Nat} {l : List Xv} (h : S[n]? = some (.lst l)) (k : P (.tup l) S) : WO (dTuple [.ref n] S) P := .of (by unfold dTuple; dsimp only; rw [lstAt_of h]; rfl) k
theorem ox_eqSb {P : Xv → Sto → Prop} {neg a b : Bool} (k : P (.bl (neg != decide (a = b))) S) : WO (dEqS neg (.bl a) (.bl b) S) P := .of rfl k
theorem eq_qv {P : Xv → Sto → Prop} {a b : Q2} (k : P (.bl (decide (a = b))) S) : WO (dEqG false (qv a) (qv b) S) P := by
 refine ox_eqG (d := .tup [.int a.1, .int a.2]) (e := .tup [.int b.1, .int b.2]) (b := decide (a = b)) rfl rfl rfl ?_ (by rw [Bool.false_bne]; exact k)
 have h := allZ_ints (n := 39) [a.1, a.2] [b.1, b.2] rfl
 show (allZ (eqG 39) [.int a.1, .int a.2] [.int b.1, .int b.2]).map (· && true) = _
 rw [show allZ (eqG 39) [.int a.1, .int a.2] [.int b.1, .int b.2] = _ from h]
 rw [Option.map_some, Bool.and_true]
 congr 1
 obtain ⟨a1, a2⟩ := a
 obtain ⟨b1, b2⟩ := b
 simp
theorem ksX_len (ks : List Nat) : (ksX ks).length = ks.length := by simp [ksX]
theorem ksX_app (ks : List Nat) (k : Nat) : ksX (ks ++ [k]) = ksX ks ++ [.int (k : Int)] := by simp [ksX]
theorem ksX_get {ks : List Nat} {i : Nat} {w : Xv} (h : (ksX ks)[i]? = some w) : ∃ k, ks[i]? = some k ∧ w = .int (k : Int) := by
 unfold ksX at h
 rw [List.getElem?_map] at h
 cases e : ks[i]? with
 | none => rw [e] at h; cases h
 | some k => rw [e] at h; cases h; exact ⟨k, rfl, rfl⟩
theorem ksX_tell (ks : List Nat) : tellL (tell S 39) (ksX ks) = some ((ks.map fun (k : Nat) => (k : Int)).map D.int) := by
 induction ks with
 | nil => rfl
 | cons k r ih =>
  show tellL (tell S 39) (.int (k : Int) :: ksX r) = _
  simp only [tellL, ih]
  rfl
theorem t_alike {P : Xv → Sto → Prop} {ρ : Rho} {kn k0 : Nat} {ks : List Nat} {cap : List (Option Nat)} {m n : TwE} (hk : S[kn]? = some (.lst (ksX ks))) (hl : ks.length ≤ 100) (hn : W (n ρ S) fun v S' => v = .ref kn ∧ S' = S)
  (hm : ∀ k : Nat, W (m ((capR cap ρ).set 0 (some (.int (k : Int)))) S) fun v S' => v = .bl (decide ((k : Int) = (k0 : Int))) ∧ S' = S)
  (k : P (.bl (decide (∀ k ∈ ks, k = k0))) (S ++ [.lst ((ks.map fun (k : Nat) => decide ((k : Int) = (k0 : Int))).map Xv.bl)])) : W (eFn dAll [(eComp cap (iL n) (gN 0) bTrue m)] ρ S) P := by
 refine wx_fn (wx_cons (wx_comp (wx_iL (hn.imp ?_))))
 rintro _ S1 ⟨rfl, rfl⟩
 refine ⟨_, lstAt_of hk, _, lstAt_of hk, ?_⟩
 refine wx_compI (by rw [ksX_len]; exact Nat.le_of_lt (sz100 hl)) (fun i es S2 => S2 = S1 ∧ es = ((ks.take i).map fun (k : Nat) => decide ((k : Int) = (k0 : Int))).map Xv.bl) ?_ ?_ ⟨rfl, by simp⟩ ?_
 ·rintro i es _ _ ⟨rfl, _⟩
  exact lstAt_of hk
 ·rintro i w es _ hw hel ⟨rfl, rfl⟩
  obtain ⟨kk, e1, rfl⟩ := ksX_get hw
  refine .of rfl ?_
  walk_at "w"
  refine ⟨rfl, ?_⟩
  refine (hm kk).imp ?_
  rintro _ _ ⟨rfl, rfl⟩
  refine ⟨rfl, ?_⟩
  obtain ⟨hi, e1⟩ := List.getElem?_eq_some_iff.1 e1
  rw [List.take_succ_eq_append_getElem hi, List.map_append, List.map_append, e1]
  rfl
 ·rintro es _ _ ⟨rfl, rfl⟩
  rw [ksX_len, List.take_length]
  walk_at "w"
  refine ox_all lstAt_new (bols_map _) ?_
  rw [show (ks.map fun (k : Nat) => decide ((k : Int) = (k0 : Int))).all id = decide (∀ k ∈ ks, k = k0) by
   rw [Bool.eq_iff_iff, decide_eq_true_iff, List.all_eq_true]
   constructor
   ·intro h k hk
    have := h _ (List.mem_map.2 ⟨k, hk, rfl⟩)
    exact Int.ofNat_inj.1 (of_decide_eq_true this)
   ·intro h b hb
    obtain ⟨k, hk, rfl⟩ := List.mem_map.1 hb
    exact decide_eq_true (by rw [h k hk])]
  exact k
noncomputable def ForkOf (fs : List Fact) (lv : Nat) (ks : List Nat) (i : Nat) : Prop := ∃ k0, ks[0]? = some k0 ∧ ((∀ k ∈ ks, k = k0) ∧ i = k0 ∨ (¬ ∀ k ∈ ks, k = k0) ∧ fs[i]? = some (.fork lv ks))
theorem ForkOf.mono {fs' : List Fact} {lv i : Nat} {ks : List Nat} (p : fs <+: fs') (h : ForkOf fs lv ks i) : ForkOf fs' lv ks i := by
 obtain ⟨k0, e, h | h⟩ := h
 ·exact ⟨k0, e, .inl h⟩
 ·exact ⟨k0, e, .inr ⟨h.1, getP p h.2⟩⟩
theorem ForkOf.one {lv i j : Nat} {ks : List Nat} (n : fs.Nodup) (h : ForkOf fs lv ks i) (h2 : ForkOf fs lv ks j) : i = j := by
 obtain ⟨k0, e, h⟩ := h
 obtain ⟨k1, e1, h2⟩ := h2
 rw [e] at e1
 cases e1
 rcases h with ⟨a, b⟩ | ⟨a, b⟩ <;> rcases h2 with ⟨c, d⟩ | ⟨c, d⟩
 ·rw [b, d]
 ·exact absurd a c
 ·exact absurd c a
 ·exact one_at n b d
theorem t_fork {lv kn k0 : Nat} {ks : List Nat} (h : StAt sn fn dn bx fs S) (hl : fs.length ≤ 900) (hk : S[kn]? = some (.lst (ksX ks))) (h0 : ks[0]? = some k0) (hkl : ks.length ≤ 100) : W (tw_Store_fork fu [.ref sn, .int (lv : Int), .ref kn] S) fun v S' => ∃ (i : Nat) (fs' : List Fact), v = .int (i : Int) ∧ ForkOf fs' lv ks i ∧ Grown sn fn dn bx fs 1 S fs' S' := by
 walk_at "wr"; unfold tb_Store_fork
 walk_at "w"
 refine ox_ixL (lstAt_of hk) (atI_nat (i := 0) (ksX_at h0)) ?_
 walk_at "w"
 refine wx_if (wx_bE ?_)
 refine t_alike (kn := kn) (k0 := k0) hk hkl (wx_var rfl ⟨rfl, rfl⟩) ?_ ?_
 ·intro k
  dsimp only [capR, List.map, List.set]
  walk_at "w"
  exact ⟨rfl, rfl⟩
 ·refine ⟨_, rfl, wx_ifT (fun hc => ?_) (fun hc => ?_)⟩
  ·walk_at "w"
   exact ⟨k0, fs, rfl, ⟨k0, h0, .inl ⟨hc, rfl⟩⟩, (Grown.of_pre h (List.prefix_append _ _)).more (by omega)⟩
  ·walk_at "w"
   have h2 := h.pre (List.prefix_append S [.lst ((ks.map fun (k : Nat) => decide ((k : Int) = (k0 : Int))).map Xv.bl)])
   refine wx_meth ?_
   walk_at "w"
   refine ⟨_, _, rfl, h2.o, rfl, ?_⟩
   walk_at "w"
   refine ox_tuple (l := ksX ks) (getP (List.prefix_append _ _) hk) ?_
   walk_at "w"
   refine (t_number h2 hl (.fork lv ks)).imp ?_
   rintro _ S2 ⟨i, fs', rfl, e, g⟩
   exact ⟨i, fs', rfl, ⟨k0, h0, .inr ⟨hc, e⟩⟩, ((Grown.of_pre h (List.prefix_append _ _)).trans g).more (by omega)⟩
theorem t_init {n : Nat} (h : S[n]? = some (.ins "Store" [])) (bx : Xv) : W (tw_Store___init__ fu [.ref n, bx] S) fun v S' => v = .non ∧ StAt n S.length (S.length + 1) bx [] S' ∧ Kp (· = n) S S' ∧ S'.length = S.length + 2 := by
 have hn := (List.getElem?_eq_some_iff.1 h).1
 walk_at "wr"; unfold tb_Store___init__
 walk_at "w"
 refine wx_putS ?_
 walk_at "w"
 refine ⟨_, _, rfl, h, by decide, ?_⟩
 walk_at "w"
 refine wx_putS ?_
 walk_at "w"
 refine ⟨_, _, rfl, getP (List.prefix_append _ _) (at_set h), (show (1 : Nat) < 1000 by decide), ?_⟩
 refine wx_putS ?_
 walk_at "w"
 refine ⟨_, _, rfl, getP (List.prefix_append _ _) (at_set (getP (List.prefix_append _ _) (at_set h))), (show (2 : Nat) < 1000 by decide), rfl, ?_⟩
 simp only [List.length_set, List.length_append, List.length_cons, List.length_nil]
 refine ⟨⟨at_set (getP (List.prefix_append _ _) (at_set (getP (List.prefix_append _ _) (at_set h)))), ?_, ?_, List.nodup_nil⟩, ?_, by simp⟩
 ·refine at_oth (getP (List.prefix_append _ _) (at_oth ?_ (by omega))) (by omega)
  have := at_new (S := S.set n (.ins "Store" (putS "boxes" bx []))) (c := .lst [])
  rw [List.length_set] at this
  exact this
 ·refine at_oth ?_ (by omega)
  have := at_new (S := (List.set S n (Ce.ins "Store" (putS "boxes" bx [])) ++ [Ce.lst []]).set n (.ins "Store" (putS "facts" (.ref S.length) (putS "boxes" bx [])))) (c := .dk [])
  simp only [List.length_set, List.length_append, List.length_cons, List.length_nil] at this
  exact this
 ·exact (((((Kp.refl (· = n)).set (.inl rfl)).app).set (.inl rfl)).app).set (.inl rfl)
end
section
variable {fu : Nat} {S S' S2 : Sto} {x y : Xv} {sn fn dn : Nat} {bx : Xv} {fs : List Fact}
noncomputable def LeavesP (fs : List Fact) (qs : List Q2) (ns : List Nat) : Prop := ∀ (i : Nat) q n, qs[i]? = some q → ns[i]? = some n → fs[n]? = some (.leaf q)
theorem LeavesP.mono {fs' : List Fact} {qs : List Q2} {ns : List Nat} (p : fs <+: fs') (h : LeavesP fs qs ns) : LeavesP fs' qs ns := fun i q n a b => getP p (h i q n a b)
theorem LeavesP.push {qs : List Q2} {ns : List Nat} {q : Q2} {n : Nat} (h : LeavesP fs qs ns) (h1 : qs[ns.length]? = some q) (h2 : fs[n]? = some (.leaf q)) : LeavesP fs qs (ns ++ [n]) := by
 intro i q' n' a b
 rcases Nat.lt_trichotomy i ns.length with hi | hi | hi
 ·rw [List.getElem?_append_left hi] at b
  exact h i q' n' a b
 ·subst hi
  rw [List.getElem?_append_right (Nat.le_refl _), Nat.sub_self] at b
  cases b
  rw [h1] at a
  cases a
  exact h2
 ·rw [List.getElem?_eq_none (by simp; omega)] at b
  cases b
theorem Grown.at_old {fs1 : List Fact} {m n : Nat} {c : Ce} (g : Grown sn fn dn bx fs m S fs1 S') (h : S[n]? = some c) (h1 : n ≠ fn) (h2 : n ≠ dn) : S'[n]? = some c := g.kp.2 _ _ h fun e => by rcases e with e | e; exact h1 e; exact h2 e
theorem StAt.there (h : StAt sn fn dn bx fs S) : S[sn]? ≠ none ∧ S[fn]? ≠ none ∧ S[dn]? ≠ none := ⟨by rw [h.o]; simp, by rw [h.f]; simp, by rw [h.d]; simp⟩
theorem qs_get {qs : List Q2} {i : Nat} {w : Xv} (h : (qs.map qv)[i]? = some w) : ∃ q, qs[i]? = some q ∧ w = qv q := by
 rw [List.getElem?_map] at h
 cases e : qs[i]? with
 | none => rw [e] at h; cases h
 | some k => rw [e] at h; cases h; exact ⟨k, rfl, rfl⟩
theorem qs_at {qs : List Q2} {i : Nat} {q : Q2} (h : qs[i]? = some q) : (qs.map qv)[i]? = some (qv q) := by rw [List.getElem?_map, h]; rfl
theorem pl_qv {n : Nat} (q : Q2) : plX (n + 1) (qv q) = true := by cases n <;> simp [plX, qv]
theorem pl_leaf (q : Q2) : plX 9 (factX (.leaf q)) = true := by simp [plX, factX, qv]
theorem t_leaves {qs : List Q2} {st : List Nat} {qn : Nat} (h : StAt sn fn dn bx fs S) (hl : fs.length ≤ 800) (hq : S[qn]? = some (.lst (qs.map qv))) (h1 : qn ≠ fn) (h2 : qn ≠ dn) (hql : qs.length ≤ 11) (hfu : 0 < fu) : W (tw__law_leaves fu [.ref sn, .ref qn, .tup (ksX st)] S) fun v S' => ∃ (nn : Nat) (ns : List Nat) (fs' : List Fact), v = .ref nn ∧ S.length ≤ nn ∧ S'[nn]? = some (.lst (ksX ns)) ∧ ns.length = qs.length ∧ LeavesP fs' qs ns ∧ Grown sn fn dn bx fs 22 S fs' S' := by
 obtain ⟨t0, t1, t2⟩ := h.there
 walk_at "wr"; unfold tb__law_leaves
 walk_at "w"
 refine wx_for (wx_iL ?_)
 walk_at "w"
 have g0 : Grown sn fn dn bx fs 0 S fs (S ++ [.lst []]) := Grown.of_pre h (List.prefix_append _ _)
 refine ⟨_, lstAt_of (g0.at_old hq h1 h2), _, lstAt_of (g0.at_old hq h1 h2), ?_⟩
 refine wx_forI (xs := qs.map qv) (fun i ρ S2 => ∃ (ns : List Nat) (fs2 : List Fact) (a4 a5 : Option Xv), ρ = [some (.ref sn), some (.ref qn), some (.tup (ksX st)), some (.ref S.length), a4, a5, none, none] ∧ ns.length = i ∧ LeavesP fs2 qs ns ∧ S2[S.length]? = some (.lst (ksX ns)) ∧ Grown sn fn dn bx fs i S fs2 S2) ?_ ?_ ?_ ?_
 ·rintro i ρ S2 _ ⟨ns, fs2, a4, a5, _, _, _, _, g⟩
  exact lstAt_of (g.at_old hq h1 h2)
 ·rintro i w ρ S2 hw ⟨ns, fs2, a4, a5, rfl, rfl, lp, hn, g⟩
  obtain ⟨q, eq, rfl⟩ := qs_get hw
  have hi : ns.length < qs.length := (List.getElem?_eq_some_iff.1 eq).1
  have gl := g.len
  refine .of rfl ?_
  dsimp only [List.set]
  walk_at "w"
  refine wx_meth ?_
  walk_at "w"
  refine ⟨_, _, rfl, g.st.o, rfl, ?_⟩
  walk_at "w"
  refine (t_leaf g.st (by omega) q).imp ?_
  rintro _ S3 ⟨n, fs3, rfl, e3, g3⟩
  walk_at "w"
  have g4 := g.trans g3
  refine wx_if (wx_or ?_)
  walk_at "w"
  refine t_whole.imp ?_
  rintro _ _ ⟨rfl, rfl⟩
  refine ⟨_, rfl, (fun z => by cases z), fun _ => ?_⟩
  walk_at "w"
  refine wx_meth ?_
  walk_at "w"
  refine ⟨_, _, rfl, g3.st.o, rfl, ?_⟩
  walk_at "w"
  refine (t_told g3.st e3).imp ?_
  rintro _ _ ⟨rfl, rfl⟩
  walk_at "w"
  refine (t_same 9 (pl_leaf q)).imp ?_
  rintro _ S5 ⟨rfl, p5⟩
  refine ⟨_, rfl, (fun z => by cases z), fun _ => ?_⟩
  have g5 := g4.app p5
  walk_at "w"
  refine wx_if ?_
  walk_at "w"
  refine wx_meth ?_
  walk_at "w"
  refine ⟨_, _, rfl, g5.st.o, rfl, ?_⟩
  walk_at "w"
  refine (t_value (h := 0) g5.st (VA.leaf e3) hfu).imp ?_
  rintro _ _ ⟨rfl, rfl⟩
  walk_at "w"
  refine (t_same 9 (pl_qv q)).imp ?_
  rintro _ S6 ⟨rfl, p6⟩
  refine ⟨_, rfl, (fun z => by cases z), fun _ => ?_⟩
  have g6 := g5.app p6
  walk_at "w"
  have hn6 : S6[S.length]? = some (.lst (ksX ns)) := by
   have hne : S.length ≠ fn ∧ S.length ≠ dn := ⟨fun e => t1 (List.getElem?_eq_none (by omega)), fun e => t2 (List.getElem?_eq_none (by omega))⟩
   exact (Kp.pre (w := fun _ => False) (p5.trans p6)).2 _ _ (g3.at_old hn hne.1 hne.2) id
  refine wx_mt ?_
  walk_at "w"
  refine ⟨⟨_, lstAt_of hn6⟩, ?_⟩
  walk_at "w"
  refine ox_append (wlAt_of hn6) (by rw [ksX_len]; exact sz100 (by omega)) ?_
  refine ⟨ns ++ [n], fs3, _, _, rfl, by simp, LeavesP.push (lp.mono g3.pre) eq e3, ?_, g6.set (Nat.le_refl _) t0 t1 t2⟩
  rw [at_set hn6, ksX_app]
 ·exact ⟨[], fs, none, none, rfl, rfl, (fun i q n a b => by cases b), at_new, g0⟩
 ·rintro ρ S2 ⟨ns, fs2, a4, a5, rfl, hlen, lp, hn, g⟩
  rw [List.length_map] at hlen g
  walk_at "w"
  have hne : S.length ≠ fn ∧ S.length ≠ dn := ⟨fun e => t1 (List.getElem?_eq_none (by omega)), fun e => t2 (List.getElem?_eq_none (by omega))⟩
  refine wx_for (wx_iR1 ?_)
  walk_at "w"
  refine ox_len (lstAt_of (g.at_old hq h1 h2)) ?_
  rw [List.length_map]
  refine ⟨_, rfl, ⟨by omega, by omega⟩, _, rfl, ?_⟩
  refine wx_forI (fun i ρ S3 => ∃ (fs3 : List Fact) (a6 a7 : Option Xv), ρ = [some (.ref sn), some (.ref qn), some (.tup (ksX st)), some (.ref S.length), a4, a5, a6, a7] ∧ LeavesP fs3 qs ns ∧ S3[S.length]? = some (.lst (ksX ns)) ∧ Grown sn fn dn bx fs (qs.length + i) S fs3 S3) (fun _ _ _ _ _ => rfl) ?_ ?_ ?_
  ·rintro i w ρ S3 hw ⟨fs3, a6, a7, rfl, lp3, hn3, g3⟩
   obtain ⟨hi, rfl⟩ := rangeX_at hw
   rw [Int.zero_add]
   have hiq : i < qs.length := by omega
   have hin : i < ns.length := by omega
   have eqi : qs[i]? = some qs[i] := List.getElem?_eq_getElem hiq
   have eni : ns[i]? = some ns[i] := List.getElem?_eq_getElem hin
   have gl := g3.len
   have hq3 := g3.at_old hq h1 h2
   refine .of rfl ?_
   dsimp only [List.set]
   refine wx_seq (wx_for (wx_iR1 ?_))
   walk_at "w"
   refine ox_len (lstAt_of hq3) ?_
   rw [List.length_map]
   refine ⟨_, rfl, ⟨by omega, by omega⟩, _, rfl, ?_⟩
   refine wx_forI (fun k ρ S4 => S4 = S3 ∧ ∃ a7 : Option Xv, ρ = [some (.ref sn), some (.ref qn), some (.tup (ksX st)), some (.ref S.length), a4, a5, some (.int (i : Int)), a7]) (fun _ _ _ _ _ => rfl) ?_ ?_ ?_
   ·rintro k w ρ S4 hw ⟨rfl, a7, rfl⟩
    obtain ⟨hk, rfl⟩ := rangeX_at hw
    rw [Int.zero_add]
    have hkq : k < qs.length := by omega
    have hkn : k < ns.length := by omega
    have eqk : qs[k]? = some qs[k] := List.getElem?_eq_getElem hkq
    have enk : ns[k]? = some ns[k] := List.getElem?_eq_getElem hkn
    refine .of rfl ?_
    dsimp only [List.set]
    refine wx_if ?_
    walk_at "w"
    refine ox_ixL (lstAt_of hq3) (atI_nat (qs_at eqi)) ?_
    walk_at "w"
    refine ox_ixL (lstAt_of hq3) (atI_nat (qs_at eqk)) ?_
    refine eq_qv ?_
    walk_at "w"
    refine ox_ixL (lstAt_of hn3) (atI_nat (ksX_at eni)) ?_
    walk_at "w"
    refine ox_ixL (lstAt_of hn3) (atI_nat (ksX_at enk)) ?_
    walk_at "w"
    refine ox_eqSb ?_
    have hb : decide (qs[i] = qs[k]) = decide (((ns[i] : Nat) : Int) = ((ns[k] : Nat) : Int)) := by
     have l1 := lp3 i _ _ eqi eni
     have l2 := lp3 k _ _ eqk enk
     rw [decide_eq_decide]
     constructor
     ·intro e
      rw [e] at l1
      rw [one_at g3.st.nd l1 l2]
     ·intro e
      rw [Int.ofNat_inj.1 e, l2] at l1
      exact (Fact.leaf.inj (Option.some.inj l1)).symm
    rw [hb]
    refine ⟨_, rfl, fun z => ?_, fun _ => wx_next ⟨rfl, _, rfl⟩⟩
    simp at z
   ·exact ⟨rfl, _, rfl⟩
   ·rintro _ _ ⟨rfl, a7, rfl⟩
    refine wx_if ?_
    walk_at "w"
    refine wx_meth ?_
    walk_at "w"
    refine ⟨_, _, rfl, g3.st.o, rfl, ?_⟩
    walk_at "w"
    refine ox_ixL (lstAt_of hq3) (atI_nat (qs_at eqi)) ?_
    walk_at "w"
    refine (t_leaf g3.st (by omega) qs[i]).imp ?_
    rintro _ S5 ⟨n, fs5, rfl, e5, g5⟩
    have hn5 := g5.at_old hn3 hne.1 hne.2
    walk_at "w"
    refine ox_ixL (lstAt_of hn5) (atI_nat (ksX_at eni)) ?_
    walk_at "w"
    have : n = ns[i] := one_at g5.st.nd e5 (getP g5.pre (lp3 i _ _ eqi eni))
    subst this
    refine ⟨fun z => ?_, fun _ => wx_next ⟨fs5, _, _, rfl, lp3.mono g5.pre, hn5, (g3.trans g5).more (by omega)⟩⟩
    simp at z
  ·exact ⟨fs2, none, none, rfl, lp, hn, g.more (by omega)⟩
  ·rintro ρ S3 ⟨fs3, a6, a7, rfl, lp3, hn3, g3⟩
   walk_at "w"
   rw [rangeX_len] at g3
   exact ⟨_, ns, fs3, rfl, Nat.le_refl _, hn3, hlen, lp3, g3.more (by omega)⟩
end
section
variable {fu : Nat} {S S' S2 : Sto} {x y : Xv} {sn fn dn : Nat} {bx : Xv} {fs : List Fact}
theorem pl_ks {n : Nat} : ∀ ks : List Nat, (ksX ks).all (plX n) = true
 | [] => rfl
 | k :: r => by
  show (plX n (.int (k : Int)) && (ksX r).all (plX n)) = true
  rw [pl_ks r, Bool.and_true]
  cases n <;> rfl
theorem pl_fork {lv : Nat} {ks : List Nat} (h : ks.length ≤ 100) : plX 9 (factX (.fork lv ks)) = true := by
 show (decide (3 ≤ 100) && (plX 8 (.str "fork") && (plX 8 (.int (lv : Int)) && (plX 8 (.tup (ksX ks)) && true)))) = true
 have : plX 8 (.tup (ksX ks)) = true := by
  show (decide ((ksX ks).length ≤ 100) && (ksX ks).all (plX 7)) = true
  rw [pl_ks, ksX_len, decide_eq_true h]
  rfl
 rw [this]
 rfl
theorem ox_neKs {P : Xv → Sto → Prop} {a b : Nat} {ks : List Nat} (h1 : S[a]? = some (.lst (ksX ks))) (h2 : S[b]? = some (.lst (ksX ks))) (k : P (.bl false) S) : WO (dEqG true (.ref a) (.ref b) S) P := by
 have e : ∀ n : Nat, S[n]? = some (.lst (ksX ks)) → tell S 40 (.ref n) = some (.lst ((ks.map fun (k : Nat) => (k : Int)).map D.int)) := by
  intro n hn
  show ((lstAt S (.ref n)).bind fun l => (tellL (tell S 39) l).map D.lst) = _
  rw [lstAt_of hn, Option.bind_some, ksX_tell]
  rfl
 refine ox_eqG (e a h1) (e b h2) rfl (eqG_ints _ _) ?_
 rw [decide_eq_true rfl]
 exact k
theorem t_forked {lv kn k0 : Nat} {ks : List Nat} (h : StAt sn fn dn bx fs S) (hl : fs.length ≤ 890) (hk : S[kn]? = some (.lst (ksX ks))) (h0 : ks[0]? = some k0) (hkl : ks.length ≤ 100) (h1 : kn ≠ fn) (h2 : kn ≠ dn) : W (tw__law_forked fu [.ref sn, .int (lv : Int), .ref kn] S) fun v S' => ∃ (i : Nat) (fs' : List Fact), v = .int (i : Int) ∧ ForkOf fs' lv ks i ∧ Grown sn fn dn bx fs 2 S fs' S' := by
 obtain ⟨t0, t1, t2⟩ := h.there
 have hkn := (List.getElem?_eq_some_iff.1 hk).1
 have hne : S.length ≠ fn ∧ S.length ≠ dn := ⟨fun e => t1 (List.getElem?_eq_none (by omega)), fun e => t2 (List.getElem?_eq_none (by omega))⟩
 have hk0 : atI (ksX ks) 0 = some (.int (k0 : Int)) := atI_nat (i := 0) (ksX_at h0)
 walk_at "wr"; unfold tb__law_forked
 walk_at "w"
 refine ox_list (lstAt_of hk) ?_
 walk_at "w"
 have g0 : Grown sn fn dn bx fs 0 S fs (S ++ [.lst (ksX ks)]) := Grown.of_pre h (List.prefix_append _ _)
 refine wx_meth ?_
 walk_at "w"
 refine ⟨_, _, rfl, g0.st.o, rfl, ?_⟩
 walk_at "w"
 refine (t_fork (fu := fu) (lv := lv) (kn := S.length) g0.st (by omega) at_new h0 hkl).imp ?_
 rintro _ S2 ⟨i, fs2, rfl, fo, g2⟩
 walk_at "w"
 have gg := g0.trans g2
 have hh2 : S2[S.length]? = some (.lst (ksX ks)) := g2.at_old at_new hne.1 hne.2
 have hk2 := gg.at_old hk h1 h2
 refine wx_if (wx_or ?_)
 walk_at "w"
 refine ox_neKs hh2 hk2 ?_
 refine ⟨_, rfl, (fun z => by cases z), fun _ => ?_⟩
 walk_at "w"
 refine t_whole.imp ?_
 rintro _ _ ⟨rfl, rfl⟩
 refine ⟨_, rfl, (fun z => by cases z), fun _ => ?_⟩
 walk_at "w"
 refine wx_for (wx_iR1 ?_)
 walk_at "w"
 refine ox_len (lstAt_of hh2) ?_
 rw [ksX_len]
 refine ⟨_, rfl, ⟨by omega, by omega⟩, _, rfl, ?_⟩
 refine wx_forI (fun j ρ S3 => ∃ (a5 : Option Xv) (l : List Xv), ρ = [some (.ref sn), some (.int (lv : Int)), some (.ref kn), some (.ref S.length), some (.int (i : Int)), a5, none] ∧ l.length = ks.length ∧ S3[S.length]? = some (.lst l) ∧ Grown sn fn dn bx fs (0 + 1) S fs2 S3) (fun _ _ _ _ _ => rfl) ?_ ?_ ?_
 ·rintro j w ρ S3 hw ⟨a5, l, rfl, ll, hl3, g3⟩
  obtain ⟨hj, rfl⟩ := rangeX_at hw
  rw [Int.zero_add]
  have hjl : j < ks.length := by omega
  refine .of rfl ?_
  dsimp only [List.set]
  refine wx_store ?_
  walk_at "w"
  refine ox_ixL (lstAt_of (g3.at_old hk h1 h2)) hk0 ?_
  walk_at "w"
  refine ⟨_, _, _, j, wlAt_of hl3, rfl, ?_, ?_⟩
  ·first | exact ixN_nat (by omega) | (unfold ixN; simp; omega)
  ·exact ⟨_, _, rfl, by rw [List.length_set]; exact ll, at_set hl3, g3.set (Nat.le_refl _) t0 t1 t2⟩
 ·exact ⟨none, _, rfl, ksX_len _, hh2, gg⟩
 ·rintro ρ S3 ⟨a5, l, rfl, ll, hl3, g3⟩
  walk_at "w"
  refine wx_mt ?_
  walk_at "w"
  refine ⟨⟨_, lstAt_of hl3⟩, ?_⟩
  walk_at "w"
  refine ox_ixL (lstAt_of (g3.at_old hk h1 h2)) hk0 ?_
  walk_at "w"
  refine ox_append (wlAt_of hl3) (by rw [ll]; exact sz100 hkl) ?_
  refine wx_seq (wx_set ?_)
  have g4 := g3.set (c := .lst (l ++ [.int (k0 : Int)])) (Nat.le_refl _) t0 t1 t2
  generalize hS4 : S3.set S.length (.lst (l ++ [.int (k0 : Int)])) = S4 at g4 ⊢
  have hk4 := g4.at_old hk h1 h2
  refine t_alike (kn := kn) (k0 := k0) hk4 hkl ?_ ?_ ?_
  ·walk_at "w"
   exact ⟨rfl, rfl⟩
  ·intro k
   dsimp only [capR, List.map, List.set]
   walk_at "w"
   refine ox_ixL (lstAt_of hk4) hk0 ?_
   walk_at "w"
   exact ⟨rfl, rfl⟩
  dsimp only [List.set]
  have g5 := g4.app (List.prefix_append S4 [.lst ((ks.map fun (k : Nat) => decide ((k : Int) = (k0 : Int))).map Xv.bl)])
  generalize hS5 : S4 ++ [.lst ((ks.map fun (k : Nat) => decide ((k : Int) = (k0 : Int))).map Xv.bl)] = S5 at g5 ⊢
  have hk5 := g5.at_old hk h1 h2
  obtain ⟨k1, e1, fo1⟩ := id fo
  rw [h0] at e1
  cases e1
  refine wx_seq (wx_cut (fun ρ S6 => ρ = [some (.ref sn), some (.int (lv : Int)), some (.ref kn), some (.ref S.length), some (.int (i : Int)), a5, some (.bl (decide (∀ k ∈ ks, k = k0)))] ∧ S6 = S5) (wx_if (wx_and ?_)) ?_)
  ·walk_at "w"
   refine wx_ifT (fun hc => ?_) (fun hc => ?_)
   ·walk_at "w"
    refine ox_ixL (lstAt_of hk5) hk0 ?_
    walk_at "w"
    rcases fo1 with fo1 | fo1
    ·rw [fo1.2]
     refine ⟨fun z => ?_, fun _ => wx_next ⟨rfl, rfl⟩⟩
     simp at z
    ·exact absurd hc fo1.1
   ·exact ⟨(fun z => by cases z), fun _ => wx_next ⟨rfl, rfl⟩⟩
  rintro _ S5' ⟨rfl, e5⟩
  rw [e5]
  refine wx_seq (wx_cut (fun ρ S6 => ρ = [some (.ref sn), some (.int (lv : Int)), some (.ref kn), some (.ref S.length), some (.int (i : Int)), a5, some (.bl (decide (∀ k ∈ ks, k = k0)))] ∧ S5 <+: S6) (wx_if (wx_and ?_)) ?_)
  ·walk_at "w"
   by_cases hc : ∀ k ∈ ks, k = k0
   ·rw [decide_eq_true hc]
    refine ⟨(fun z => by cases z), fun _ => ⟨(fun z => by cases z), fun _ => wx_next ⟨rfl, List.prefix_refl _⟩⟩⟩
   ·rw [decide_eq_false hc]
    refine ⟨fun _ => ?_, (fun z => by cases z)⟩
    rcases fo1 with fo1 | fo1
    ·exact absurd fo1.1 hc
    walk_at "w"
    refine wx_meth ?_
    walk_at "w"
    refine ⟨_, _, rfl, g5.st.o, rfl, ?_⟩
    walk_at "w"
    refine (t_told g5.st fo1.2).imp ?_
    rintro _ _ ⟨rfl, rfl⟩
    walk_at "w"
    refine ox_tuple hk5 ?_
    walk_at "w"
    refine (t_same 9 (pl_fork hkl)).imp ?_
    rintro _ S6 ⟨rfl, p6⟩
    refine ⟨_, rfl, (fun z => by cases z), fun _ => wx_next ⟨rfl, p6⟩⟩
  rintro _ S6 ⟨rfl, p6⟩
  have g6 := g5.app p6
  have hk6 := g6.at_old hk h1 h2
  have gl := g6.len
  refine wx_seq (wx_if ?_)
  walk_at "w"
  refine wx_meth ?_
  walk_at "w"
  refine ⟨_, _, rfl, g6.st.o, rfl, ?_⟩
  walk_at "w"
  refine ox_list (lstAt_of hk6) ?_
  walk_at "w"
  refine (t_fork (fu := fu) (lv := lv) (kn := S6.length) (g6.st.pre (List.prefix_append _ _)) (by omega) at_new h0 hkl).imp ?_
  rintro _ S7 ⟨i7, fs7, rfl, fo7, g7⟩
  walk_at "w"
  have : i7 = i := fo7.one g7.st.nd (fo.mono g7.pre)
  subst this
  refine ⟨fun z => ?_, fun _ => wx_next ?_⟩
  ·simp at z
  ·walk_at "w"
   exact ⟨_, _, rfl, fo7, ((g6.app (List.prefix_append _ _)).trans g7).more (by omega)⟩
end
section
variable {fu : Nat} {S S' S2 : Sto} {x y : Xv} {ln sn fn dn : Nat} {bx : Xv} {fs : List Fact}
structure GrL (ln sn fn dn : Nat) (bx : Xv) (fs : List Fact) (m : Nat) (S : Sto) (fs' : List Fact) (S' : Sto) : Prop where
 st : StAt sn fn dn bx fs' S'
 pre : fs <+: fs'
 len : fs'.length ≤ fs.length + m
 left : LeftAt ln S'
 kp : Kp (fun n => n = fn ∨ n = dn ∨ n = ln) S S'
structure Apart (ln sn fn dn : Nat) (S : Sto) : Prop where
 s : ln ≠ sn
 f : ln ≠ fn
 d : ln ≠ dn
 bl : ln < S.length
 bs : sn < S.length
 bf : fn < S.length
 bd : dn < S.length
theorem GrL.grown {fs1 fs2 : List Fact} {m m' : Nat} (ap : Apart ln sn fn dn S) (a : GrL ln sn fn dn bx fs m S fs1 S') (b : Grown sn fn dn bx fs1 m' S' fs2 S2) : GrL ln sn fn dn bx fs (m + m') S fs2 S2 :=
 ⟨b.st, a.pre.trans b.pre, by have := a.len; have := b.len; omega, a.left.keep b.kp (fun e => by rcases e with e | e; exact ap.f e; exact ap.d e), a.kp.trans (b.kp.mono fun n e => by rcases e with e | e; exact .inl e; exact .inr (.inl e))⟩
theorem GrL.take {fs1 : List Fact} {m : Nat} (ap : Apart ln sn fn dn S) (a : GrL ln sn fn dn bx fs m S fs1 S') (l : LeftAt ln S2) (b : Kp (· = ln) S' S2) : GrL ln sn fn dn bx fs m S fs1 S2 :=
 ⟨a.st.keep b (fun e => ap.s e.symm) (fun e => ap.f e.symm) (fun e => ap.d e.symm), a.pre, a.len, l, a.kp.trans (b.mono fun n e => .inr (.inr e))⟩
theorem GrL.app {fs1 : List Fact} {m : Nat} (a : GrL ln sn fn dn bx fs m S fs1 S') (p : S' <+: S2) : GrL ln sn fn dn bx fs m S fs1 S2 := ⟨a.st.pre p, a.pre, a.len, a.left.keep (Kp.pre (w := fun _ => False) p) id, a.kp.trans (Kp.pre p)⟩
theorem GrL.set {fs1 : List Fact} {m n : Nat} {c : Ce} (ap : Apart ln sn fn dn S) (a : GrL ln sn fn dn bx fs m S fs1 S') (h : S.length ≤ n) : GrL ln sn fn dn bx fs m S fs1 (S'.set n c) := by
 have := ap.bl
 have := ap.bs
 have := ap.bf
 have := ap.bd
 refine ⟨⟨at_oth a.st.o (by omega), at_oth a.st.f (by omega), at_oth a.st.d (by omega), a.st.nd⟩, a.pre, a.len, ?_, a.kp.set (.inr h)⟩
 obtain ⟨ns, e⟩ := a.left
 exact ⟨ns, at_oth e (by omega)⟩
theorem GrL.more {fs1 : List Fact} {m m' : Nat} (a : GrL ln sn fn dn bx fs m S fs1 S') (h : m ≤ m') : GrL ln sn fn dn bx fs m' S fs1 S' := ⟨a.st, a.pre, by have := a.len; omega, a.left, a.kp⟩
theorem GrL.at_old {fs1 : List Fact} {m n : Nat} {c : Ce} (g : GrL ln sn fn dn bx fs m S fs1 S') (h : S[n]? = some c) (h1 : n ≠ fn) (h2 : n ≠ dn) (h3 : n ≠ ln) : S'[n]? = some c := g.kp.2 _ _ h fun e => by
 rcases e with e | e | e
 ·exact h1 e
 ·exact h2 e
 ·exact h3 e
noncomputable def boxX (b : Str × Nat) : Xv := .tup [.str b.1, .int (b.2 : Int)]
noncomputable def bsX (bs : List (Str × Nat)) : List Xv := bs.map boxX
structure BOk (bs : List (Str × Nat)) : Prop where
 len : bs.length ≤ 9
 siz : ∀ b ∈ bs, 1 ≤ b.2 ∧ b.2 ≤ 9
noncomputable def SOk (bs : List (Str × Nat)) (st : List Nat) : Prop := st.length = bs.length ∧ ∀ (i : Nat) s b, st[i]? = some s → bs[i]? = some b → s < b.2
theorem BOk.rev {bs : List (Str × Nat)} (h : BOk bs) : BOk bs.reverse := ⟨by rw [List.length_reverse]; exact h.len, fun b hb => h.siz b (List.mem_reverse.1 hb)⟩
theorem SOk.rev {bs : List (Str × Nat)} {st : List Nat} (h : SOk bs st) : SOk bs.reverse st.reverse := by
 obtain ⟨h1, h2⟩ := h
 refine ⟨by rw [List.length_reverse, List.length_reverse, h1], fun i s b a c => ?_⟩
 have hi : i < st.length := by
  have := (List.getElem?_eq_some_iff.1 a).1
  rwa [List.length_reverse] at this
 rw [List.getElem?_reverse hi] at a
 rw [List.getElem?_reverse (by omega)] at c
 rw [← h1] at c
 exact h2 _ s b a c
theorem pl_boxes {n : Nat} : ∀ bs : List (Str × Nat), (bsX bs).all (plX (n + 1)) = true
 | [] => rfl
 | b :: r => by
  show (plX (n + 1) (boxX b) && (bsX r).all (plX (n + 1))) = true
  rw [pl_boxes r, Bool.and_true]
  cases n <;> simp [plX, boxX]
theorem bsX_len (bs : List (Str × Nat)) : (bsX bs).length = bs.length := by simp [bsX]
theorem bsX_at {bs : List (Str × Nat)} {i : Nat} {b : Str × Nat} (h : bs[i]? = some b) : (bsX bs)[i]? = some (boxX b) := by unfold bsX; rw [List.getElem?_map, h]; rfl
theorem pl_bs {bs : List (Str × Nat)} (h : bs.length ≤ 100) : plX 9 (.tup (bsX bs)) = true := by
 show (decide ((bsX bs).length ≤ 100) && (bsX bs).all (plX 8)) = true
 rw [pl_boxes (n := 7), bsX_len, decide_eq_true h]
 rfl
noncomputable def heldX (p : Nat × Q2) : Xv := .tup [.int (p.1 : Int), qv p.2]
theorem atI_last {l : List Xv} {y : Xv} : atI (l ++ [y]) (-1) = some y := by
 unfold atI ixN
 rw [if_neg (by decide)]
 simp only [List.length_append, List.length_cons, List.length_nil]
 rw [if_pos (by omega), Option.bind_some, show ((-1 : Int) + ((l.length + (0 + 1) : Nat) : Int)).toNat = l.length by omega]
 simp
end
section
variable {fu : Nat} {S S' S2 : Sto} {x y : Xv} {ln sn fn dn : Nat} {bx : Xv} {fs : List Fact}
theorem ForkOf.va {st ks : List Nat} {q : Q2} {lv i j k h : Nat} (f : ForkOf fs lv ks i) (hj : st[lv]? = some j) (hk : ks[j]? = some k) (v : VA fs st q h k) : VA fs st q (h + 1) i := by
 obtain ⟨k0, e0, ⟨a, rfl⟩ | ⟨_, b⟩⟩ := f
 ·rw [a k (List.mem_of_getElem? hk)] at v
  exact v.more (by omega)
 ·exact .fork b hj hk v
theorem small_nat {n : Nat} (h : n ≤ 9) : Builtin.Range.small ((n : Int) - 1) (-1) (-1) = true := small_down (by omega) (by omega)
theorem t_picks {P : Xv → Sto → Prop} {size m : Nat} {ρ : Rho} {cap : List (Option Nat)} {e : TwE} {n : TwE} (hl : LeftAt ln S) (hm : 0 < m) (hs : size ≤ 100)
  (hn : W (n ρ S) fun v S' => v = .int (size : Int) ∧ S' = S)
  (he : ∀ (k : Nat) (S2 : Sto), LeftAt ln S2 → Kp (· = ln) S S2 → W (e ((capR cap ρ).set 0 (some (.int (k : Int)))) S2) fun v S' => ∃ c : Int, v = .int c ∧ 0 ≤ c ∧ c < (m : Int) ∧ LeftAt ln S' ∧ Kp (· = ln) S2 S')
  (k : ∀ (ps : List Nat) S2, ps.length = size → (∀ p ∈ ps, p < m) → LeftAt ln S2 → Kp (· = ln) S S2 → P (.ref S2.length) (S2 ++ [.lst (ksX ps)])) : W (eComp cap (iR1 n) (gN 0) bTrue e ρ S) P := by
 refine wx_comp (wx_iR1 (hn.imp ?_))
 rintro _ S1 ⟨rfl, rfl⟩
 refine ⟨_, rfl, ⟨by omega, by omega⟩, _, rfl, ?_⟩
 refine wx_compI (by rw [rangeX_len]; exact Nat.le_of_lt (sz100 (by omega))) (fun i es S2 => ∃ ps : List Nat, es = ksX ps ∧ (∀ p ∈ ps, p < m) ∧ LeftAt ln S2 ∧ Kp (· = ln) S1 S2) (fun _ _ _ _ _ => rfl) ?_ ⟨[], rfl, (fun p hp => by cases hp), hl, Kp.refl _⟩ ?_
 ·rintro i w es S2 hw hel ⟨ps, rfl, hp, l2, k2⟩
  obtain ⟨hi, rfl⟩ := rangeX_at hw
  rw [Int.zero_add]
  refine .of rfl ?_
  walk_at "w"
  refine ⟨rfl, ?_⟩
  refine (he i S2 l2 k2).imp ?_
  rintro _ S3 ⟨c, rfl, c0, c1, l3, k3⟩
  refine ⟨ps ++ [c.toNat], ?_, ?_, l3, k2.trans k3⟩
  ·rw [ksX_app, Int.toNat_of_nonneg c0]
  ·intro p h
   rcases List.mem_append.1 h with h | h
   ·exact hp p h
   ·rw [List.mem_singleton] at h
    omega
 ·rintro es S2 hlen ⟨ps, rfl, hp, l2, k2⟩
  rw [ksX_len, rangeX_len, Int.toNat_natCast] at hlen
  exact k ps S2 hlen hp l2 k2
theorem t_keeps {bs : List (Str × Nat)} {qs : List Q2} {st : List Nat} {qn : Nat} (h : StAt sn fn dn (.tup (bsX bs)) fs S) (ap : Apart ln sn fn dn S) (left : LeftAt ln S) (hl : fs.length ≤ 700) (hb : BOk bs) (hst : SOk bs st)
  (hq : S[qn]? = some (.lst (qs.map qv))) (h1 : qn ≠ fn) (h2 : qn ≠ dn) (h3 : qn ≠ ln) (hql : qs.length ≤ 11) (hq0 : 0 < qs.length) (hfu : 100 < fu) :
  W (tw__law_keeps fu [.ref ln, .ref sn, .tup (bsX bs), .tup (ksX st), .ref qn] S) fun v S' => v = .bl true ∧ ∃ fs', GrL ln sn fn dn (.tup (bsX bs)) fs 40 S fs' S' := by
 have ap1 := ap.bl
 have ap2 := ap.bs
 have ap3 := ap.bf
 have ap4 := ap.bd
 have g00 : GrL ln sn fn dn (.tup (bsX bs)) fs 0 S fs S := ⟨h, List.prefix_refl _, by omega, left, Kp.refl _⟩
 walk_at "wr"; unfold tb__law_keeps
 walk_at "w"
 refine (t_leaves h (by omega) hq h1 h2 hql (by omega)).imp ?_
 rintro _ S1 ⟨nn, ns, fs1, rfl, hnn, en1, nl, lp1, g1⟩
 walk_at "w"
 have gl1 := g00.grown ap g1
 rw [Nat.zero_add] at gl1
 have hn0 : 0 < ns.length := by omega
 refine wx_if (wx_or ?_)
 walk_at "w"
 refine ox_eqNil (lstAt_of (getP (List.prefix_append _ _) en1)) lstAt_new ?_
 rw [show (false != (ksX ns).isEmpty) = false by
  cases ns with
  | nil => simp at hn0
  | cons a r => rfl]
 refine ⟨_, rfl, (fun z => by cases z), fun _ => ?_⟩
 have gl2 := gl1.app (List.prefix_append S1 [.lst []])
 walk_at "w"
 refine wx_fld ?_
 walk_at "w"
 refine ⟨_, _, _, rfl, gl2.st.o, rfl, ?_⟩
 walk_at "w"
 refine (t_same 9 (pl_bs (by have := hb.len; omega))).imp ?_
 rintro _ S3 ⟨rfl, p3⟩
 refine ⟨_, rfl, (fun z => by cases z), fun _ => ?_⟩
 have gl3 := gl2.app p3
 have en3 : S3[nn]? = some (.lst (ksX ns)) := getP p3 (getP (List.prefix_append _ _) en1)
 have ens : ns[0]? = some ns[0] := List.getElem?_eq_getElem hn0
 have eqs : qs[0]? = some qs[0] := List.getElem?_eq_getElem hq0
 walk_at "w"
 refine ox_ixL (lstAt_of en3) (atI_nat (i := 0) (ksX_at ens)) ?_
 walk_at "w"
 refine ox_ixL (lstAt_of (gl3.at_old hq h1 h2 h3)) (atI_nat (i := 0) (qs_at eqs)) ?_
 walk_at "w"
 refine wx_for (wx_iR3 ?_)
 walk_at "w"
 refine WO.of (show dLen [Xv.tup (bsX bs)] _ = some (.int (bs.length : Int), _) by rw [← bsX_len bs]; rfl) ?_
 walk_at "w"
 refine ⟨_, _, rfl, rfl, rfl, small_nat hb.len, _, rfl, ?_⟩
 have hnS3 : nn < S3.length := (List.getElem?_eq_some_iff.1 en3).1
 have hS3 : S.length ≤ S3.length := gl3.kp.1
 refine wx_forI (fun i ρ S4 => ∃ (node : Nat) (q : Q2) (hs : List (Nat × Q2)) (fs4 : List Fact) (a8 a9 a10 a11 a12 a13 : Option Xv), ρ = [some (.ref ln), some (.ref sn), some (.tup (bsX bs)), some (.tup (ksX st)), some (.ref qn), some (.ref nn), some (.int (node : Int)), some (.ref S3.length), a8, a9, a10, a11, a12, a13] ∧ hs.length = i ∧ (∀ p ∈ hs ++ [(node, q)], VA fs4 st p.2 i p.1) ∧ S4[S3.length]? = some (.lst ((hs ++ [(node, q)]).map heldX)) ∧ S4[nn]? = some (.lst (ksX ns)) ∧ LeavesP fs4 qs ns ∧ GrL ln sn fn dn (.tup (bsX bs)) fs (22 + 2 * i) S fs4 S4) (fun _ _ _ _ _ => rfl) ?_ ?_ ?_
 ·rintro i w ρ S4 hw ⟨node, q, hs, fs4, a8, a9, a10, a11, a12, a13, rfl, hhs, hva, eh4, en4, lp4, g4⟩
  obtain ⟨hi, rfl⟩ := downX_at hw
  have hi : i < bs.length := by omega
  obtain ⟨lv, hlv⟩ : ∃ lv : Nat, lv + i + 1 = bs.length := ⟨bs.length - 1 - i, by omega⟩
  rw [show ((bs.length : Int) - 1 - (i : Int)) = (lv : Int) by omega]
  have hlb : lv < bs.length := by omega
  have eb : bs[lv]? = some bs[lv] := List.getElem?_eq_getElem hlb
  have es : st[lv]? = some (st[lv]'(by rw [hst.1]; exact hlb)) := List.getElem?_eq_getElem _
  have hsl := hst.2 lv _ _ es eb
  generalize st[lv]'(by rw [hst.1]; exact hlb) = sj at es hsl
  have hsz := hb.siz _ (List.mem_of_getElem? eb)
  generalize hbb : bs[lv] = b at eb hsz hsl
  have hb9 := hb.len
  refine .of rfl ?_
  dsimp only [List.set]
  walk_at "w"
  refine ox_ixT rfl (atI_nat (bsX_at eb)) ?_
  walk_at "w"
  refine ox_ixT rfl atI_1 ?_
  refine wx_seq (wx_set ?_)
  refine t_picks (ln := ln) (size := b.2) (m := qs.length) g4.left hq0 (by omega) ?_ ?_ ?_
  ·walk_at "w"
   exact ⟨rfl, rfl⟩
  ·intro k S5 l5 k5
   dsimp only [capR, List.map, List.set]
   walk_at "w"
   refine ox_len (lstAt_of (k5.2 _ _ (g4.at_old hq h1 h2 h3) h3)) ?_
   rw [List.length_map]
   walk_at "w"
   refine (t_take (many := (qs.length : Int)) l5 (by omega)).imp ?_
   rintro _ S6 ⟨c, rfl, c0, c1, l6, k6⟩
   exact ⟨c, rfl, c0, c1, l6, k6⟩
  intro ps S5 hpl hps l5 k5
  dsimp only [List.set]
  have g5 := g4.take ap l5 k5
  have en5 := k5.2 _ _ en4 (show ¬ nn = ln by omega)
  have eh5 := k5.2 _ _ eh4 (show ¬ S3.length = ln by omega)
  have hS5 : S3.length < S5.length := (List.getElem?_eq_some_iff.1 eh5).1
  refine wx_seq (wx_set (wx_comp (wx_iL ?_)))
  walk_at "w"
  refine ⟨_, lstAt_new, _, lstAt_new, ?_⟩
  have en5' : (S5 ++ [Ce.lst (ksX ps)])[nn]? = some (.lst (ksX ns)) := getP (List.prefix_append _ _) en5
  have eh5' : (S5 ++ [Ce.lst (ksX ps)])[S3.length]? = some (.lst ((hs ++ [(node, q)]).map heldX)) := getP (List.prefix_append _ _) eh5
  have ep5' : (S5 ++ [Ce.lst (ksX ps)])[S5.length]? = some (.lst (ksX ps)) := at_new
  have g5' := g5.app (List.prefix_append S5 [Ce.lst (ksX ps)])
  have hS5' : (S5 ++ [Ce.lst (ksX ps)]).length = S5.length + 1 := by simp
  generalize S5 ++ [Ce.lst (ksX ps)] = S6 at en5' eh5' ep5' g5' hS5' ⊢
  refine wx_compI (by rw [ksX_len]; exact Nat.le_of_lt (sz100 (by omega))) (fun i es S7 => S7 = S6 ∧ ∃ ks : List Nat, es = ksX ks ∧ ks = (ps.take i).map fun p => ns.getD p 0) ?_ ?_ ⟨rfl, [], rfl, by simp⟩ ?_
  ·rintro i es _ _ ⟨rfl, _⟩
   exact lstAt_of ep5'
  ·rintro i w es _ hw hel ⟨rfl, ks, rfl, rfl⟩
   obtain ⟨p, e1, rfl⟩ := ksX_get hw
   have hpm := hps p (List.mem_of_getElem? e1)
   have hpn : p < ns.length := by omega
   refine .of rfl ?_
   dsimp only [capR, List.map, List.set]
   walk_at "w"
   refine ⟨rfl, ?_⟩
   walk_at "w"
   refine ox_ixL (lstAt_of en5') (atI_nat (ksX_at (List.getElem?_eq_getElem hpn))) ?_
   refine ⟨rfl, _, ?_, rfl⟩
   obtain ⟨hi, e1⟩ := List.getElem?_eq_some_iff.1 e1
   rw [List.take_succ_eq_append_getElem hi, List.map_append, e1]
   rw [show [p].map (fun p => ns.getD p 0) = [ns[p]] by simp [List.getD, List.getElem?_eq_getElem hpn], ksX_app]
  rintro es S7 _ ⟨e7, ks, rfl, rfl⟩
  rw [e7, ksX_len, List.take_length]
  clear e7
  have hkl : (ps.map fun p => ns.getD p 0).length = b.2 := by rw [List.length_map, hpl]
  have hka : ∀ (j : Nat) p, ps[j]? = some p → (ps.map fun p => ns.getD p 0)[j]? = some (ns.getD p 0) := fun j p e => by rw [List.getElem?_map, e]; rfl
  generalize (ps.map fun p => ns.getD p 0) = ks at hkl hka ⊢
  walk_at "w"
  refine (t_take (many := (b.2 : Int) + 1) (g5'.app (List.prefix_append S6 [Ce.lst (ksX ks)])).left (by omega)).imp ?_
  rintro _ S8 ⟨c, rfl, c0, c1, l8, k8⟩
  have g8 := (g5'.app (List.prefix_append S6 [Ce.lst (ksX ks)])).take ap l8 k8
  have en8 := k8.2 _ _ (getP (List.prefix_append _ [Ce.lst (ksX ks)]) en5') (show ¬ nn = ln by omega)
  have eh8 := k8.2 _ _ (getP (List.prefix_append _ [Ce.lst (ksX ks)]) eh5') (show ¬ S3.length = ln by omega)
  have ep8 := k8.2 _ _ (getP (List.prefix_append _ [Ce.lst (ksX ks)]) ep5') (show ¬ S5.length = ln by omega)
  have ek8 := k8.2 _ _ (at_new (S := S6) (c := Ce.lst (ksX ks))) (show ¬ S6.length = ln by omega)
  obtain ⟨cn, rfl⟩ : ∃ cn : Nat, c = (cn : Int) := ⟨c.toNat, by omega⟩
  have hpj : ps[sj]? = some (ps[sj]'(by omega)) := List.getElem?_eq_getElem _
  have hpm := hps _ (List.mem_of_getElem? hpj)
  generalize ps[sj]'(by omega) = pj at hpj hpm
  have hqj : qs[pj]? = some qs[pj] := List.getElem?_eq_getElem hpm
  have hnj : ns[pj]? = some (ns[pj]'(by omega)) := List.getElem?_eq_getElem _
  have lpj := lp4 pj _ _ hqj hnj
  have hkj := hka sj pj hpj
  rw [show ns.getD pj 0 = ns[pj]'(by omega) by simp [List.getD, hnj]] at hkj
  generalize ns[pj]'(by omega) = nj at hnj lpj hkj
  walk_at "w"
  refine ox_ixT rfl (atI_nat (ksX_at es)) ?_
  refine ox_ixL (lstAt_of ep8) (atI_nat (ksX_at hpj)) ?_
  refine ox_ixL (lstAt_of (g8.at_old hq h1 h2 h3)) (atI_nat (qs_at hqj)) ?_
  walk_at "w"
  refine wx_cut (fun ρ S9 => ∃ ks' : List Nat, ρ = [some (.ref ln), some (.ref sn), some (.tup (bsX bs)), some (.tup (ksX st)), some (.ref qn), some (.ref nn), some (.int (node : Int)), some (.ref S3.length), some (.int (lv : Int)), some (.int (b.2 : Int)), some (.ref S5.length), some (.ref S6.length), some (.int (cn : Int)), some (qv qs[pj])] ∧ ks' = (if cn < b.2 then ks.set cn node else ks) ∧ S9[S6.length]? = some (.lst (ksX ks')) ∧ S9[nn]? = some (.lst (ksX ns)) ∧ S9[S3.length]? = some (.lst ((hs ++ [(node, q)]).map heldX)) ∧ GrL ln sn fn dn (.tup (bsX bs)) fs (22 + 2 * i) S fs4 S9) (wx_if ?_) ?_
  ·walk_at "w"
   refine wx_ifT (fun hc => ?_) (fun hc => ?_)
   ·refine wx_store ?_
    walk_at "w"
    refine ⟨_, _, _, cn, wlAt_of ek8, rfl, ?_, ?_⟩
    ·rw [ksX_len]
     unfold ixN; simp; omega
    ·refine ⟨_, rfl, rfl, ?_, at_oth en8 (by omega), at_oth eh8 (by omega), g8.set ap (by omega)⟩
     rw [at_set ek8, if_pos (by omega)]
     unfold ksX
     rw [List.map_set]
   ·exact wx_next ⟨_, rfl, rfl, by rw [if_neg (by omega)]; exact ek8, en8, eh8, g8⟩
  rintro _ S9 ⟨ks', rfl, hks', ek9, en9, eh9, g9⟩
  have hkl' : ks'.length = b.2 := by rw [hks']; split <;> simp [hkl]
  have hkj' : ks'[sj]? = some (if cn = sj then node else nj) := by
   rw [hks']
   by_cases e : cn = sj
   ·rw [if_pos (by omega), if_pos e, e, List.getElem?_set, if_pos rfl, if_pos (by omega)]
   ·rw [if_neg e]
    split
    ·rw [List.getElem?_set, if_neg e]; exact hkj
    ·exact hkj
  refine wx_seq (wx_cut (fun ρ S10 => ρ = [some (.ref ln), some (.ref sn), some (.tup (bsX bs)), some (.tup (ksX st)), some (.ref qn), some (.ref nn), some (.int (node : Int)), some (.ref S3.length), some (.int (lv : Int)), some (.int (b.2 : Int)), some (.ref S5.length), some (.ref S6.length), some (.int (cn : Int)), some (qv (if cn = sj then q else qs[pj]))] ∧ S10 = S9) (wx_if ?_) ?_)
  ·walk_at "w"
   refine ox_ixT rfl (atI_nat (ksX_at es)) ?_
   walk_at "w"
   refine wx_ifT (fun hc => ?_) (fun hc => ?_)
   ·walk_at "w"
    refine ox_ixL (lstAt_of eh9) (z := heldX (node, q)) (by rw [List.map_append]; exact atI_last) ?_
    walk_at "w"
    refine ox_ixT rfl atI_1 ?_
    exact ⟨by rw [if_pos (by omega)], rfl⟩
   ·exact wx_next ⟨by rw [if_neg (by omega)], rfl⟩
  rintro _ S10 ⟨rfl, e10⟩
  rw [e10]
  clear e10
  have gl9 := g9.len
  walk_at "w"
  refine (t_forked (lv := lv) g9.st (by omega) ek9 (List.getElem?_eq_getElem (by omega)) (by omega) (by omega) (by omega)).imp ?_
  rintro _ S11 ⟨i', fs11, rfl, fo, g11⟩
  have gg := g9.grown ap g11
  have en11 := g11.at_old en9 (by omega) (by omega)
  have eh11 := g11.at_old eh9 (by omega) (by omega)
  walk_at "w"
  refine wx_mt ?_
  walk_at "w"
  refine ⟨⟨_, lstAt_of eh11⟩, ?_⟩
  walk_at "w"
  refine ox_append (wlAt_of eh11) (by simp; exact sz100 (by omega)) ?_
  refine wx_if ?_
  walk_at "w"
  refine WO.of (show dIsN (.int (i' : Int)) _ = some (.bl false, _) from rfl) ?_
  refine ⟨_, rfl, (fun z => by cases z), fun _ => wx_next ?_⟩
  refine ⟨i', (if cn = sj then q else qs[pj]), hs ++ [(node, q)], fs11, _, _, _, _, _, _, rfl, by simp [hhs], ?_, ?_, at_oth en11 (by omega), lp4.mono g11.pre, (gg.set ap (by omega)).more (by omega)⟩
  ·intro p hp
   rcases List.mem_append.1 hp with hp | hp
   ·exact ((hva p hp).mono g11.pre).more (by omega)
   ·rw [List.mem_singleton] at hp
    subst hp
    refine fo.va es hkj' ?_
    by_cases e : cn = sj
    ·rw [if_pos e, if_pos e]
     exact (hva (node, q) (by simp)).mono g11.pre
    ·rw [if_neg e, if_neg e]
     exact .leaf (getP g11.pre lpj)
  ·rw [at_set eh11, List.map_append (l₂ := [(i', _)])]
   rfl
 ·refine ⟨ns[0], qs[0], [], fs1, none, none, none, none, none, none, rfl, rfl, ?_, at_new, getP (List.prefix_append _ _) en3, lp1, gl3.app (List.prefix_append _ _)⟩
  intro p hp
  rw [List.nil_append, List.mem_singleton] at hp
  subst hp
  exact .leaf (lp1 0 _ _ eqs ens)
 ·rintro ρ S4 ⟨node, q, hs, fs4, a8, a9, a10, a11, a12, a13, rfl, hhs, hva, eh4, en4, lp4, g4⟩
  have hb9 := hb.len
  rw [downX_len] at hhs hva g4
  have hhl : hs.length ≤ 9 := by omega
  refine wx_ret (wx_fn (wx_cons (wx_comp (wx_iL ?_))))
  walk_at "w"
  refine ⟨_, lstAt_of eh4, _, lstAt_of eh4, ?_⟩
  refine wx_compI (by simp; exact Nat.le_of_lt (sz100 (by omega))) (fun i es S5 => S4 <+: S5 ∧ es = List.replicate i (.bl true)) ?_ ?_ ⟨List.prefix_refl _, rfl⟩ ?_
  ·rintro i es S5 _ ⟨p5, _⟩
   exact lstAt_of (getP p5 eh4)
  ·rintro i w es S5 hw hel ⟨p5, rfl⟩
   rw [List.getElem?_map] at hw
   cases hp : (hs ++ [(node, q)])[i]? with
   | none => rw [hp] at hw; cases hw
   | some p =>
    rw [hp] at hw
    cases hw
    have hv := hva p (List.mem_of_getElem? hp)
    refine .of rfl ?_
    dsimp only [capR, List.map, List.set]
    walk_at "w"
    refine ⟨rfl, ?_⟩
    walk_at "w"
    have g5 := g4.app p5
    refine wx_meth ?_
    walk_at "w"
    refine ⟨_, _, rfl, g5.st.o, rfl, ?_⟩
    walk_at "w"
    refine (t_value g5.st hv (by omega)).imp ?_
    rintro _ _ ⟨rfl, rfl⟩
    walk_at "w"
    refine (t_same 9 (pl_qv p.2)).imp ?_
    rintro _ S6 ⟨rfl, p6⟩
    exact ⟨p5.trans p6, by rw [List.replicate_succ']⟩
  ·rintro es S5 _ ⟨p5, rfl⟩
   walk_at "w"
   refine ox_all lstAt_new (bols_yes _) ?_
   exact ⟨by simp, fs4, (g4.app (p5.trans (List.prefix_append _ _))).more (by omega)⟩
end
section
variable {fu : Nat} {S S' S2 : Sto} {x y : Xv} {ln : Nat}
theorem ox_abs {P : Xv → Sto → Prop} {p : Int} (k : P (.int (p.natAbs : Int)) S) : WO (dAbs [.int p] S) P := .of (show dAbs [.int p] S = some (.int (if p < 0 then -p else p), S) from rfl) (by
 rw [show (if p < 0 then -p else p) = (p.natAbs : Int) by split <;> omega]
 exact k)
theorem ox_catS {P : Xv → Sto → Prop} {a b : Str} (h : a.length + b.length ≤ sizeLine) (k : P (.str (a ++ b)) S) : WO (dCatS (.str a) (.str b) S) P := .of (by unfold dCatS; exact if_pos h) k
theorem ox_slS {P : Xv → Sto → Prop} {a : Str} {lo hi : Option Int} (h : a.length ≤ sizeLine) (k : P (.str (Txt.slice a lo hi)) S) : WO (dSlS (.str a) lo hi S) P := .of (by unfold dSlS; exact if_pos h) k
theorem sz100' {n : Nat} (h : n ≤ 100) : n ≤ sizeLine := Nat.le_of_lt (sz100 h)
theorem abc_at {v : Int} (h0 : 0 ≤ v) (h1 : v < 26) : ∃ c : Str, c.length = 1 ∧ dIxS (.str "abcdefghijklmnopqrstuvwxyz") (.int v) S = some (.str c, S) := by
 have all : ∀ n : Fin 26, (Str.ofString "abcdefghijklmnopqrstuvwxyz").cps.toList[n.1]? = some (97 + n.1) := by decide
 obtain ⟨n, rfl⟩ : ∃ n : Nat, v = n := ⟨v.toNat, by omega⟩
 have e := all ⟨n, by omega⟩
 refine ⟨⟨#[97 + n]⟩, rfl, ?_⟩
 unfold dIxS pur2
 dsimp only
 rw [if_pos (by decide), atI_nn (by omega) (by rw [Int.toNat_natCast]; exact e)]
 rfl
theorem t_word {n : Int} {k : Nat} (hk : k ≤ 8) : W (tw__law_word fu [.int n, .int (k : Int)] S) fun v S' => ∃ z : Str, v = .str z ∧ z.length = k ∧ S' = S := by
 walk_at "wr"; unfold tb__law_word
 walk_at "w"
 refine wx_for (wx_iR1 ?_)
 walk_at "w"
 refine ⟨⟨by omega, by omega⟩, _, rfl, ?_⟩
 refine wx_forI (fun i ρ S2 => ∃ (m : Int) (z : Str) (a3 : Option Xv), ρ = [some (.int m), some (.int (k : Int)), some (.str z), a3] ∧ z.length = i ∧ S2 = S) (fun _ _ _ _ _ => rfl) ?_ ?_ ?_
 ·rintro i w ρ S2 hw ⟨m, z, a3, rfl, hz, rfl⟩
  obtain ⟨hi, rfl⟩ := rangeX_at hw
  refine .of rfl ?_
  dsimp only [List.set]
  walk_at "w"
  refine ox_mod (by decide) ?_
  obtain ⟨c, hc, e⟩ := abc_at (S := S2) (Int.emod_nonneg m (show (26 : Int) ≠ 0 by decide)) (Int.emod_lt_of_pos m (show (0 : Int) < 26 by decide))
  refine WO.of e ?_
  refine ox_catS (sz100' (by omega)) ?_
  walk_at "w"
  refine ox_fdiv (by decide) ?_
  walk_at "w"
  exact ⟨_, _, _, rfl, by rw [Str.length_append]; omega, rfl⟩
 ·exact ⟨n, _, none, rfl, rfl, rfl⟩
 ·rintro ρ S2 ⟨m, z, a3, rfl, hz, rfl⟩
  rw [rangeX_len, Int.toNat_natCast] at hz
  walk_at "w"
  exact ⟨hz, rfl⟩
noncomputable def strsX (zs : List Str) : List Xv := zs.map Xv.str
theorem t_strs {P : Xv → Sto → Prop} {size : Nat} {ρ : Rho} {cap : List (Option Nat)} {e n : TwE} (hs : size ≤ 100)
  (hn : W (n ρ S) fun v S' => v = .int (size : Int) ∧ S' = S)
  (he : ∀ k : Nat, k < size → W (e ((capR cap ρ).set 0 (some (.int (k : Int)))) S) fun v S' => ∃ z : Str, v = .str z ∧ S' = S)
  (k : ∀ zs : List Str, zs.length = size → P (.ref S.length) (S ++ [.lst (strsX zs)])) : W (eComp cap (iR1 n) (gN 0) bTrue e ρ S) P := by
 refine wx_comp (wx_iR1 (hn.imp ?_))
 rintro _ S1 ⟨rfl, rfl⟩
 refine ⟨_, rfl, ⟨by omega, by omega⟩, _, rfl, ?_⟩
 refine wx_compI (by rw [rangeX_len]; exact sz100' (by omega)) (fun i es S2 => S2 = S1 ∧ ∃ zs : List Str, es = strsX zs) (fun _ _ _ _ _ => rfl) ?_ ⟨rfl, [], rfl⟩ ?_
 ·rintro i w es S2 hw hel ⟨rfl, zs, rfl⟩
  obtain ⟨hi, rfl⟩ := rangeX_at hw
  rw [Int.zero_add]
  refine .of rfl ?_
  walk_at "w"
  refine ⟨rfl, ?_⟩
  refine (he i (by omega)).imp ?_
  rintro _ S3 ⟨z, rfl, rfl⟩
  exact ⟨rfl, zs ++ [z], by simp [strsX]⟩
 ·rintro es S2 hlen ⟨rfl, zs, rfl⟩
  rw [rangeX_len, Int.toNat_natCast] at hlen
  exact k zs (by simpa [strsX] using hlen)
theorem LeftAt.app {T : Sto} (h : LeftAt ln S) : LeftAt ln (S ++ T) := h.keep (Kp.pre (w := fun _ => False) (List.prefix_append _ _)) id
theorem t_names {m : Nat} (hl : LeftAt ln S) (hm : m ≤ 9) : W (tw__law_names fu [.ref ln, .int (m : Int)] S) fun v S' => ∃ (n : Nat) (zs : List Str), v = .ref n ∧ zs.length = m ∧ S'[n]? = some (.lst (strsX zs)) ∧ S.length ≤ n ∧ LeftAt ln S' ∧ Kp (· = ln) S S' := by
 walk_at "wr"; unfold tb__law_names
 walk_at "w"
 refine (t_take hl (by decide)).imp ?_
 rintro _ S1 ⟨way, rfl, w0, w1, l1, k1⟩
 walk_at "w"
 refine wx_if ?_
 walk_at "w"
 refine wx_ifT (fun hc => ?_) (fun hc => ?_)
 ·walk_at "w"
  refine (t_take l1.app (by decide)).imp ?_
  rintro _ S2 ⟨tn, rfl, t0, t1, l2, k2⟩
  refine wx_ret ?_
  have hn : ¬ S1.length = ln := fun e => by
   obtain ⟨ns, en⟩ := l1
   have := (List.getElem?_eq_some_iff.1 en).1
   omega
  have e2 := k2.2 _ _ at_new hn
  refine t_strs (size := m) (by omega) (by walk_at "w"; exact ⟨rfl, rfl⟩) ?_ ?_
  ·intro k hk
   dsimp only [capR, List.map, List.set]
   walk_at "w"
   refine ox_mod (by decide) ?_
   have h0 := Int.emod_nonneg (tn + (k : Int)) (show (13 : Int) ≠ 0 by decide)
   have h1 := Int.emod_lt_of_pos (tn + (k : Int)) (show (0 : Int) < 13 by decide)
   generalize (tn + (k : Int)) % 13 = j at h0 h1
   obtain ⟨j, rfl⟩ : ∃ jn : Nat, j = (jn : Int) := ⟨j.toNat, by omega⟩
   have h1 : j < 13 := by omega
   refine ox_ixL (lstAt_of e2) (atI_nat (z := .str ((["pass", "end", "lost", "set", "hand", "draw", "if", "gain", "while", "look", "times", "leaf", "fork"] : List Str).getD j "")) ?_) ⟨_, rfl, rfl⟩
   match j, h1 with
   | 0, _ => rfl
   | 1, _ => rfl
   | 2, _ => rfl
   | 3, _ => rfl
   | 4, _ => rfl
   | 5, _ => rfl
   | 6, _ => rfl
   | 7, _ => rfl
   | 8, _ => rfl
   | 9, _ => rfl
   | 10, _ => rfl
   | 11, _ => rfl
   | 12, _ => rfl
   | j + 13, h => exact absurd h (by omega)
  ·intro zs hz
   have kk := k1.trans ((Kp.pre (List.prefix_append _ _)).trans k2)
   exact ⟨_, zs, rfl, hz, at_new, kk.1, l2.app, kk.app⟩
 ·walk_at "w"
  refine (t_take l1 (by decide)).imp ?_
  rintro _ S2 ⟨c, rfl, c0, c1, l2, k2⟩
  walk_at "w"
  refine (t_word (k := 8) (by decide)).imp ?_
  rintro _ S3 ⟨z, rfl, hz, rfl⟩
  have kk := k1.trans k2
  refine wx_seq (wx_if (wx_and ?_))
  walk_at "w"
  have go : ∀ {N : Rho → Sto → Prop} {R : Xv → Sto → Prop}, (∀ S4, LeftAt ln S4 → Kp (· = ln) S S4 → ∀ zs : List Str, zs.length = m → R (.ref S4.length) (S4 ++ [.lst (strsX zs)])) → WS (sSeq (sAsg (eCall (tw__law_take fu) [(eVar 0), (eC (.int 1664))]) (gN 6)) (sSeq (sAsg (eOp dAdd (eC (.int 1)) (eOp dMod (eVar 6) (eC (.int 8)))) (gN 7)) (sSeq (sAsg (eOp dMod (eOp dFdiv (eVar 6) (eC (.int 8))) (eVar 7)) (gN 8)) (sRet (eComp [none, some 5, some 7, some 8, some 6] (iR1 (eVar 1)) (gN 0) bTrue (eOp dCatS (eOp dCatS (eSl dSlS (eVar 1) oNo (oSome (eVar 3))) (eCall (tw__law_word fu) [(eOp dAdd (eOp dFdiv (eVar 4) (eC (.int 64))) (eVar 0)), (eC (.int 1))])) (eSl dSlS (eVar 1) (oSome (eOp dAdd (eVar 3) (eC (.int 1)))) (oSome (eVar 2)))))))) [some (.ref ln), some (.int (m : Int)), some (.int way), none, none, some (.str z), none, none, none] S3) N R := by
   intro N R fin
   walk_at "w"
   refine (t_take l2 (by decide)).imp ?_
   rintro _ S4 ⟨d, rfl, d0, d1, l4, k4⟩
   walk_at "w"
   refine ox_mod (by decide) ?_
   walk_at "w"
   refine ox_fdiv (by decide) ?_
   walk_at "w"
   have := Int.emod_nonneg d (show (8 : Int) ≠ 0 by decide)
   refine ox_mod (by omega) ?_
   refine wx_ret ?_
   refine t_strs (size := m) (by omega) (by walk_at "w"; exact ⟨rfl, rfl⟩) ?_ ?_
   ·intro k hk
    dsimp only [capR, List.map, List.set]
    walk_at "w"
    refine ox_slS (sz100' (by omega)) ?_
    walk_at "w"
    refine ox_fdiv (by decide) ?_
    walk_at "w"
    refine (t_word (k := 1) (by decide)).imp ?_
    rintro _ S5 ⟨z1, rfl, hz1, rfl⟩
    have s1 := Txt.slice_le z none (some (d / 8 % (1 + d % 8)))
    refine ox_catS (sz100' (by omega)) ?_
    walk_at "w"
    refine ox_slS (sz100' (by omega)) ?_
    have s2 := Txt.slice_le z (some (d / 8 % (1 + d % 8) + 1)) (some (1 + d % 8))
    refine ox_catS (sz100' (by rw [Str.length_append]; omega)) ?_
    exact ⟨_, rfl, rfl⟩
   ·intro zs hz
    exact fin S4 l4 (kk.trans k4) zs hz
  have fin : ∀ S4, LeftAt ln S4 → Kp (· = ln) S S4 → ∀ zs : List Str, zs.length = m → ∃ (n : Nat) (zs' : List Str), Xv.ref S4.length = .ref n ∧ zs'.length = m ∧ (S4 ++ [Ce.lst (strsX zs)])[n]? = some (.lst (strsX zs')) ∧ S.length ≤ n ∧ LeftAt ln (S4 ++ [Ce.lst (strsX zs)]) ∧ Kp (· = ln) S (S4 ++ [Ce.lst (strsX zs)]) := fun S4 l4 k4 zs hz => ⟨_, zs, rfl, hz, at_new, k4.1, l4.app, k4.app⟩
  refine wx_ifT (fun h2 => ?_) (fun h2 => ?_)
  ·walk_at "w"
   refine wx_ifT (fun h3 => ?_) (fun h3 => wx_next (go fin))
   refine wx_ret ?_
   refine t_strs (size := m) (by omega) (by walk_at "w"; exact ⟨rfl, rfl⟩) ?_ ?_
   ·intro k hk
    dsimp only [capR, List.map, List.set]
    walk_at "w"
    refine ox_slS (sz100' (by omega)) ?_
    exact ⟨_, rfl, rfl⟩
   ·intro zs hz
    exact fin _ l2 kk zs hz
  ·exact ⟨(fun z => by cases z), fun _ => wx_next (go fin)⟩
end
section
variable {fu : Nat} {S S' S2 : Sto} {x y : Xv} {ln : Nat}
theorem bits60 {p : Int} (h : p.natAbs < 2 ^ 60) : intBits p ≤ 60 := PySem.intBits_le_iff.mpr h
theorem LeftAt.lt (h : LeftAt ln S) : ln < S.length := by
 obtain ⟨ns, en⟩ := h
 exact (List.getElem?_eq_some_iff.1 en).1
theorem t_boxes (hl : LeftAt ln S) : W (tw__law_boxes fu [.ref ln, .int 1000] S) fun v S' => ∃ bs : List (Str × Nat), v = .tup (bsX bs) ∧ BOk bs ∧ LeftAt ln S' ∧ Kp (· = ln) S S' := by
 walk_at "wr"; unfold tb__law_boxes
 walk_at "w"
 refine (t_take hl (by decide)).imp ?_
 rintro _ S1 ⟨c, rfl, c0, c1, l1, k1⟩
 walk_at "w"
 refine wx_cut (fun ρ S2 => ∃ m : Nat, m ≤ 9 ∧ ρ = [some (.ref ln), some (.int 1000), some (.int (m : Int)), none, none, none, none] ∧ S2 = S1) (wx_if ?_) ?_
 ·walk_at "w"
  refine wx_ifT (fun hc => ?_) (fun hc => ?_)
  ·walk_at "w"
   refine ox_mod (by decide) ?_
   walk_at "w"
   have h0 := Int.emod_nonneg c (show (3 : Int) ≠ 0 by decide)
   have h1 := Int.emod_lt_of_pos c (show (0 : Int) < 3 by decide)
   exact ⟨(1 + c % 3).toNat, by omega, by rw [Int.toNat_of_nonneg (by omega)], rfl⟩
  ·exact wx_next ⟨c.toNat, by omega, by rw [Int.toNat_of_nonneg (by omega)], rfl⟩
 rintro _ _ ⟨m, hm, rfl, rfl⟩
 walk_at "w"
 refine wx_for (wx_iL ?_)
 walk_at "w"
 refine (t_names l1 hm).imp ?_
 rintro _ S2 ⟨n, zs, rfl, hz, e2, hn, l2, k2⟩
 have hln := l1.lt
 refine ⟨_, lstAt_of e2, _, lstAt_of e2, ?_⟩
 refine wx_forI (xs := strsX zs) (fun i ρ S3 => ∃ (bs : List (Str × Nat)) (p : Nat) (a5 a6 : Option Xv), ρ = [some (.ref ln), some (.int 1000), some (.int (m : Int)), some (.tup (bsX bs)), some (.int (p : Int)), a5, a6] ∧ bs.length = i ∧ (∀ b ∈ bs, 1 ≤ b.2 ∧ b.2 ≤ 9) ∧ 1 ≤ p ∧ p ≤ 1000 ∧ LeftAt ln S3 ∧ Kp (· = ln) S2 S3) ?_ ?_ ?_ ?_
 ·rintro i ρ S3 _ ⟨bs, p, a5, a6, _, _, _, _, _, l3, k3⟩
  exact lstAt_of (k3.2 _ _ e2 (show ¬ n = ln by omega))
 ·rintro i w ρ S3 hw ⟨bs, p, a5, a6, rfl, hbl, hbs, p0, p1, l3, k3⟩
  unfold strsX at hw
  rw [List.getElem?_map] at hw
  cases hzi : zs[i]? with
  | none => rw [hzi] at hw; cases hw
  | some z =>
   rw [hzi] at hw
   cases hw
   have hi : i < zs.length := (List.getElem?_eq_some_iff.1 hzi).1
   refine .of rfl ?_
   dsimp only [List.set]
   walk_at "w"
   refine (t_take l3 (by decide)).imp ?_
   rintro _ S4 ⟨d, rfl, d0, d1, l4, k4⟩
   walk_at "w"
   refine ox_fdivB ⟨by omega, Nat.le_trans (bits60 (by omega)) (by decide)⟩ ?_
   rw [Int.fdiv_eq_ediv_of_nonneg _ (by omega)]
   walk_at "w"
   have q0 : 1 ≤ (1000 : Nat) / p := (Nat.le_div_iff_mul_le (by omega)).2 (by omega)
   have q1 : p * (1000 / p) ≤ 1000 := Nat.mul_div_le 1000 p
   rw [show (1000 : Int) / (p : Int) = ((1000 / p : Nat) : Int) by rw [Int.natCast_ediv]; rfl]
   generalize hs : (if ((1000 / p : Nat) : Int) < 1 + d then ((1000 / p : Nat) : Int) else 1 + d) = sz
   obtain ⟨s, rfl⟩ : ∃ s : Nat, sz = (s : Int) := ⟨sz.toNat, by split at hs <;> omega⟩
   have hs9 : 1 ≤ s ∧ s ≤ 9 ∧ s ≤ 1000 / p := by split at hs <;> omega
   refine WO.of (show dCatT (.tup (bsX bs)) (.tup [.tup [.str z, .int (s : Int)]]) S4 = some (.tup (bsX bs ++ [.tup [.str z, .int (s : Int)]]), S4) by
    unfold dCatT
    exact if_pos (by rw [bsX_len]; exact sz100' (by simp; omega))) ?_
   walk_at "w"
   have hps : p * s ≤ 1000 := Nat.le_trans (Nat.mul_le_mul_left p hs9.2.2) q1
   refine ox_mulB (by have := bits60 (p := (p : Int)) (by omega); have := bits60 (p := (s : Int)) (by omega); omega) ?_
   walk_at "w"
   refine ⟨bs ++ [(z, s)], p * s, _, _, by rw [Int.natCast_mul, show bsX (bs ++ [(z, s)]) = bsX bs ++ [.tup [.str z, .int (s : Int)]] by simp [bsX, boxX]], by simp [hbl], ?_, Nat.mul_pos p0 hs9.1, hps, l4, k3.trans k4⟩
   intro b hb
   rcases List.mem_append.1 hb with hb | hb
   ·exact hbs b hb
   ·rw [List.mem_singleton] at hb
    subst hb
    exact ⟨hs9.1, hs9.2.1⟩
 ·exact ⟨[], 1, none, none, rfl, rfl, (fun b hb => by cases hb), by decide, by decide, l2, Kp.refl _⟩
 ·rintro ρ S3 ⟨bs, p, a5, a6, rfl, hbl, hbs, p0, p1, l3, k3⟩
  walk_at "w"
  refine ⟨⟨?_, hbs⟩, l3, (k1.trans k2).trans k3⟩
  rw [hbl]
  simp [strsX, hz]
  exact hm
theorem t_state {bs : List (Str × Nat)} (hl : LeftAt ln S) (hb : BOk bs) : W (tw__law_state fu [.ref ln, .tup (bsX bs)] S) fun v S' => ∃ st : List Nat, v = .tup (ksX st) ∧ SOk bs st ∧ LeftAt ln S' ∧ Kp (· = ln) S S' := by
 have hb9 := hb.len
 walk_at "wr"; unfold tb__law_state
 refine wx_ret (wx_fn (wx_cons (wx_comp (wx_iT ?_))))
 walk_at "w"
 refine wx_compI (by rw [bsX_len]; exact sz100' (by omega)) (fun i es S2 => ∃ st : List Nat, es = ksX st ∧ st.length = i ∧ (∀ (j : Nat) s b, st[j]? = some s → bs[j]? = some b → s < b.2) ∧ LeftAt ln S2 ∧ Kp (· = ln) S S2) (fun _ _ _ _ _ => rfl) ?_ ⟨[], rfl, rfl, (fun j s b h => by simp at h), hl, Kp.refl _⟩ ?_
 ·rintro i w es S2 hw hel ⟨st, rfl, hst, hs, l2, k2⟩
  unfold bsX at hw
  rw [List.getElem?_map] at hw
  cases hbi : bs[i]? with
  | none => rw [hbi] at hw; cases hw
  | some b =>
   rw [hbi] at hw
   cases hw
   have hb1 := hb.siz b (List.mem_of_getElem? hbi)
   refine .of rfl ?_
   dsimp only [capR, List.map, List.set]
   walk_at "w"
   refine ⟨rfl, ?_⟩
   walk_at "w"
   refine ox_ixT rfl atI_1 ?_
   walk_at "w"
   refine (t_take l2 (by omega)).imp ?_
   rintro _ S3 ⟨c, rfl, c0, c1, l3, k3⟩
   refine ⟨st ++ [c.toNat], by rw [ksX_app, Int.toNat_of_nonneg c0], by simp [hst], ?_, l3, k2.trans k3⟩
   intro j s b' e1 e2
   rcases Nat.lt_trichotomy j st.length with hj | hj | hj
   ·rw [List.getElem?_append_left hj] at e1
    exact hs j s b' e1 e2
   ·subst hj
    rw [List.getElem?_append_right (Nat.le_refl _), Nat.sub_self] at e1
    cases e1
    rw [hst, hbi] at e2
    cases e2
    omega
   ·rw [List.getElem?_eq_none (by simp; omega)] at e1
    cases e1
 ·rintro es S2 _ ⟨st, rfl, hst, hs, l2, k2⟩
  walk_at "w"
  refine ox_tuple at_new ?_
  refine ⟨st, rfl, ⟨by rw [hst, bsX_len], hs⟩, l2.app, k2.app⟩
theorem low_loop : ∀ (n : Nat) (t b : Xv) (one other : Nat) (a4 : Option Xv), other < n →
  WS (whTw (bE (eOp dGt (eVar 3) (eC (.int 0)))) (sSeq (sAsg (eOp dMod (eVar 2) (eVar 3)) (gN 4)) (sSeq (sAsg (eVar 3) (gN 2)) (sAsg (eVar 4) (gN 3)))) n [some t, some b, some (.int one), some (.int other), a4] S) (fun ρ S' => ∃ a4, ρ = [some t, some b, some (.int (Nat.gcd one other : Nat)), some (.int 0), a4] ∧ S = S') (fun _ _ => False) := by
 intro n
 induction n with
 | zero => intro t b one other a4 h; omega
 | succ n ih =>
  intro t b one other a4 h
  refine wx_turn ?_
  walk_at "w"
  refine wx_ifT (fun h => ?_) (fun h => ?_)
  ·have h0 : 0 < other := by omega
   walk_at "w"
   refine ox_mod (by omega) ?_
   walk_at "w"
   have := ih t b other (one % other) (some (.int ((one % other : Nat) : Int))) (by have := Nat.mod_lt one h0; omega)
   rw [show Nat.gcd other (one % other) = Nat.gcd one other by rw [Nat.gcd_comm other, ← Nat.gcd_rec, Nat.gcd_comm]] at this
   rw [Int.natCast_emod] at this
   exact this
  ·have : other = 0 := by omega
   subst this
   exact ⟨a4, by simp, rfl⟩
theorem t_low {t b : Int} (hbg : Big fu) (h0 : 0 < b) (hb : b.natAbs < 2 ^ 250) : W (tw__law_low fu [.int t, .int b] S) fun v S' => ∃ q : Q2, v = qv q ∧ S' = S := by
 have hfu : b.natAbs < fu := by
  have h1 : (2 : Nat) ^ 250 ≤ 2 ^ 9000 := Nat.pow_le_pow_right (by decide) (by decide)
  exact Nat.lt_of_lt_of_le hb (Nat.le_trans h1 hbg)
 walk_at "wr"; unfold tb__law_low
 walk_at "w"
 refine ox_abs ?_
 walk_at "w"
 refine wx_wh ?_
 rw [show (Xv.int b) = Xv.int ((b.natAbs : Nat) : Int) by rw [Int.natAbs_of_nonneg (by omega)]]
 rcases low_loop (S := S) fu (.int t) (.int ((b.natAbs : Nat) : Int)) t.natAbs b.natAbs none hfu with ⟨ρ, S', e, a4, rfl, rfl⟩ | ⟨_, _, _, z⟩
 rotate_left
 ·exact z.elim
 refine .nx e ?_
 have g0 : 0 < Nat.gcd t.natAbs b.natAbs := Nat.gcd_pos_of_pos_right _ (by omega)
 have gl : Nat.gcd t.natAbs b.natAbs ≤ b.natAbs := Nat.gcd_le_right _ (by omega)
 have gb : ((Nat.gcd t.natAbs b.natAbs : Nat) : Int) ≠ 0 ∧ intBits ((Nat.gcd t.natAbs b.natAbs : Nat) : Int) ≤ 9000 := ⟨by omega, Nat.le_trans (PySem.intBits_le_iff.mpr (show ((Nat.gcd t.natAbs b.natAbs : Nat) : Int).natAbs < 2 ^ 250 by rw [Int.natAbs_natCast]; exact Nat.lt_of_le_of_lt gl hb)) (by decide)⟩
 walk_at "w"
 refine ox_fdivB gb ?_
 walk_at "w"
 refine ox_fdivB gb ?_
 walk_at "w"
 exact ⟨(_, _), rfl, rfl⟩
theorem t_ratio (hbg : Big fu) (hl : LeftAt ln S) : W (tw__law_ratio fu [.ref ln] S) fun v S' => ∃ q : Q2, v = qv q ∧ LeftAt ln S' ∧ Kp (· = ln) S S' := by
 walk_at "wr"; unfold tb__law_ratio
 walk_at "w"
 refine (t_take hl (by decide)).imp ?_
 rintro _ S1 ⟨way, rfl, w0, w1, l1, k1⟩
 walk_at "w"
 refine wx_if ?_
 walk_at "w"
 refine wx_ifT (fun hc => ?_) (fun hc => ?_)
 ·walk_at "w"
  refine (t_take l1 (by decide)).imp ?_
  rintro _ S2 ⟨c, rfl, c0, c1, l2, k2⟩
  walk_at "w"
  refine (t_take l2 (by decide)).imp ?_
  rintro _ S3 ⟨d, rfl, d0, d1, l3, k3⟩
  walk_at "w"
  refine (t_low hbg (by omega) ?_).imp ?_
  ·have : (10 : Int) ^ (60 : Int).toNat < 2 ^ 200 := by decide
   have h2 : (2 : Nat) ^ 200 < 2 ^ 250 := by decide
   have h3 : ((1 + d).natAbs : Int) < ((2 ^ 200 : Nat) : Int) := by
    rw [Int.natAbs_of_nonneg (by omega)]
    exact Int.lt_trans (by omega) this
   exact Nat.lt_trans (Int.ofNat_lt.1 h3) h2
  rintro _ S4 ⟨q, rfl, rfl⟩
  exact ⟨q, rfl, l3, (k1.trans k2).trans k3⟩
 ·walk_at "w"
  refine wx_if ?_
  walk_at "w"
  refine wx_ifT (fun hc => ?_) (fun hc => ?_)
  ·walk_at "w"
   refine (t_take l1 (by decide)).imp ?_
   rintro _ S2 ⟨c, rfl, c0, c1, l2, k2⟩
   walk_at "w"
   refine (t_take l2 (by decide)).imp ?_
   rintro _ S3 ⟨d, rfl, d0, d1, l3, k3⟩
   walk_at "w"
   refine (t_low hbg (by omega) (Nat.lt_trans (show (1 + d).natAbs < 100 by omega) (by decide))).imp ?_
   rintro _ S4 ⟨q, rfl, rfl⟩
   exact ⟨q, rfl, l3, (k1.trans k2).trans k3⟩
  ·walk_at "w"
   refine (t_take l1 (by decide)).imp ?_
   rintro _ S2 ⟨c, rfl, c0, c1, l2, k2⟩
   walk_at "w"
   refine ox_fdiv (by decide) ?_
   walk_at "w"
   exact ⟨(_, _), rfl, l2, k1.trans k2⟩
end
section
variable {fu : Nat} {S S' S2 : Sto} {x y : Xv} {ln sn fn dn : Nat} {bx : Xv} {fs : List Fact}
theorem ox_revL {P : Xv → Sto → Prop} {l : List Xv} (h : lstAt S x = some l) (k : P (.ref S.length) (S ++ [.lst l.reverse])) : WO (dListRev x S) P := .of (by unfold dListRev; rw [h]; rfl) k
theorem ksX_rev (ks : List Nat) : (ksX ks).reverse = ksX ks.reverse := by simp [ksX]
theorem bsX_rev (bs : List (Str × Nat)) : (bsX bs).reverse = bsX bs.reverse := by simp [bsX]
theorem cutD_ints (l : List Int) (lo hi : Option Int) : ∃ m : List Int, L2.cutD (l.map Xv.int) lo hi = m.map Xv.int := by
 unfold L2.cutD
 rw [← List.map_drop, ← List.map_take]
 exact ⟨_, rfl⟩
theorem t_some (hbg : Big fu) {ρ : Rho} {m : Int} {P : Xv → Sto → Prop} {n : TwE} (hl : LeftAt ln S) (hm : 0 ≤ m ∧ m ≤ 11) (hr : ρ[1]? = some (some (.ref ln))) (hn : W (n ρ S) fun v S' => v = .int m ∧ LeftAt ln S' ∧ Kp (· = ln) S S')
  (k : ∀ (qs : List Q2) S2, (qs.length : Int) = m → LeftAt ln S2 → Kp (· = ln) S S2 → P (.ref S2.length) (S2 ++ [.lst (qs.map qv)])) : W (eComp [none, some 1] (iR1 n) (gN 0) bTrue (eCall (tw__law_ratio fu) [(eVar 1)]) ρ S) P := by
 refine wx_comp (wx_iR1 (hn.imp ?_))
 rintro _ S1 ⟨rfl, l1, k1⟩
 refine ⟨_, rfl, ⟨by omega, by omega⟩, _, rfl, ?_⟩
 refine wx_compI (by rw [rangeX_len]; exact sz100' (by omega)) (fun i es S2 => ∃ qs : List Q2, es = qs.map qv ∧ LeftAt ln S2 ∧ Kp (· = ln) S S2) (fun _ _ _ _ _ => rfl) ?_ ⟨[], rfl, l1, k1⟩ ?_
 ·rintro i w es S2 hw hel ⟨qs, rfl, l2, k2⟩
  refine .of rfl ?_
  have hc : (capR [none, some 1] ρ) = [none, some (.ref ln)] := by unfold capR; simp [hr]
  rw [hc]
  dsimp only [List.set]
  walk_at "w"
  refine ⟨rfl, ?_⟩
  walk_at "w"
  refine (t_ratio hbg l2).imp ?_
  rintro _ S3 ⟨q, rfl, l3, k3⟩
  exact ⟨qs ++ [q], by simp, l3, k2.trans k3⟩
 ·rintro es S2 hlen ⟨qs, rfl, l2, k2⟩
  rw [List.length_map, rangeX_len] at hlen
  exact k qs S2 (by omega) l2 k2
theorem w_law (hbg : Big fu) (ns : List Int) : W (tw_law fu [.ref 0] [.frz (ns.map Xv.int)]) fun v _ => v = .bl true := by
 have hfu : 100 < fu := by have := hbg.le; omega
 walk_at "wr"; unfold tb_law; walk_at "w"
 refine ox_slL (l := ns.map Xv.int) rfl ?_
 obtain ⟨ms, em⟩ := cutD_ints ns none (some 200)
 rw [em]
 refine ox_revL lstAt_new ?_
 rw [← List.map_reverse]
 have l0 : LeftAt _ (([Ce.frz (ns.map Xv.int)] ++ [Ce.lst (ms.map Xv.int)]) ++ [Ce.lst (ms.reverse.map Xv.int)]) := ⟨ms.reverse, at_new⟩
 generalize ([Ce.frz (ns.map Xv.int)] ++ [Ce.lst (ms.map Xv.int)]).length = ln at l0 ⊢
 generalize (([Ce.frz (ns.map Xv.int)] ++ [Ce.lst (ms.map Xv.int)]) ++ [Ce.lst (ms.reverse.map Xv.int)]) = S0 at l0 ⊢
 walk_at "w"
 refine (t_boxes l0).imp ?_
 rintro _ S1 ⟨bs, rfl, hb, l1, k1⟩
 walk_at "w"
 refine (t_state l1 hb).imp ?_
 rintro _ S2 ⟨st, rfl, hst, l2, k2⟩
 refine wx_seq (wx_set ?_)
 have ht := t_take (fu := fu) (many := 9) l2 (by decide)
 obtain ⟨_, S3, e3, c, rfl, c0, c1, l3, k3⟩ := id ht
 refine t_some (m := 3 + c) hbg l2 (by omega) rfl ?_ ?_
 ·walk_at "w"
  refine .of e3 ?_
  walk_at "w"
  exact ⟨rfl, l3, k3⟩
 intro qs S4 hqs l4 k4
 dsimp only [List.set]
 have hq4 := at_new (S := S4) (c := Ce.lst (qs.map qv))
 have l5 := l4.app (T := [Ce.lst (qs.map qv)])
 have hl4 := l4.lt
 have hS5 : (S4 ++ [Ce.lst (qs.map qv)]).length = S4.length + 1 := by simp
 generalize hqn : S4.length = qn at hq4 hl4 hS5 ⊢
 generalize S4 ++ [Ce.lst (qs.map qv)] = S5 at hq4 l5 hS5 ⊢
 clear hqn
 walk_at "w"
 refine wx_make ?_
 walk_at "w"
 refine (t_init (n := S5.length) at_new (.tup (bsX bs))).imp ?_
 rintro _ S6 ⟨rfl, st6, k6, len6⟩
 rw [List.length_append, List.length_cons, List.length_nil] at st6 len6
 have k56 : Kp (· = S5.length) S5 S6 := (Kp.pre (List.prefix_append _ _)).trans k6
 have hq6 := k56.2 _ _ hq4 (show ¬ qn = S5.length by omega)
 have l6 := l5.keep k56 (show ¬ ln = S5.length by omega)
 refine ⟨rfl, ?_⟩
 walk_at "w"
 refine wx_make ?_
 walk_at "w"
 refine ox_tupRev rfl ?_
 rw [bsX_rev]
 walk_at "w"
 refine (t_init (n := S6.length) at_new (.tup (bsX bs.reverse))).imp ?_
 rintro _ S7 ⟨rfl, st7, k7, len7⟩
 rw [List.length_append, List.length_cons, List.length_nil] at st7 len7
 have k67 : Kp (· = S6.length) S6 S7 := (Kp.pre (List.prefix_append _ _)).trans k7
 have hq7 := k67.2 _ _ hq6 (show ¬ qn = S6.length by omega)
 have l7 := l6.keep k67 (show ¬ ln = S6.length by omega)
 have st6' := st6.keep k67 (show ¬ S5.length = S6.length by omega) (show ¬ S5.length + (0 + 1) = S6.length by omega) (show ¬ S5.length + (0 + 1) + 1 = S6.length by omega)
 refine ⟨rfl, ?_⟩
 generalize hs6 : S5.length = s6 at st6' k6 k56 len6 hS5 ⊢
 generalize hs7 : S6.length = s7 at st7 len6 len7 ⊢
 clear hs6 hs7 k6 k56 k7 k67 st6
 walk_at "w"
 refine wx_if ?_
 walk_at "w"
 refine ox_revL (lstAt_of hq7) ?_
 rw [← List.map_reverse]
 walk_at "w"
 refine ox_tupRev rfl ?_
 rw [ksX_rev]
 walk_at "w"
 have p8 := List.prefix_append S7 [Ce.lst (qs.reverse.map qv)]
 refine (t_leaves (st7.pre p8) (by simp) at_new (by omega) (by omega) (by rw [List.length_reverse]; omega) (by omega)).imp ?_
 rintro _ S9 ⟨nn, ms9, fs9, rfl, hnn, e9, hm9, _, g9⟩
 walk_at "w"
 refine ox_eqNil (lstAt_of (getP (List.prefix_append _ _) e9)) lstAt_new ?_
 rw [List.length_reverse] at hm9
 rw [show (false != (ksX ms9).isEmpty) = false by
  cases ms9 with
  | nil => simp at hm9; omega
  | cons a r => rfl]
 refine ⟨_, rfl, (fun z => by cases z), fun _ => ?_⟩
 have kk9 : Kp (fun n => n = s7 + (0 + 1) ∨ n = s7 + (0 + 1) + 1) S7 (S9 ++ [Ce.lst []]) := ((Kp.pre p8).trans g9.kp).app
 have st7a := g9.st.pre (List.prefix_append S9 [Ce.lst []])
 have st6a := st6'.keep kk9 (by omega) (by omega) (by omega)
 have hq9 := kk9.2 _ _ hq7 (by omega)
 have l9 := l7.keep kk9 (by omega)
 have len9 := kk9.1
 have fl9 := g9.len
 generalize S9 ++ [Ce.lst []] = T at kk9 st7a st6a hq9 l9 len9 ⊢
 walk_at "w"
 refine wx_if ?_
 walk_at "w"
 refine (t_keeps st6a ⟨by omega, by omega, by omega, by omega, by omega, by omega, by omega⟩ l9 (by simp) hb hst hq9 (by omega) (by omega) (by omega) (by omega) (by omega) hfu).imp ?_
 rintro _ T2 ⟨rfl, fs10, g10⟩
 refine ⟨_, rfl, (fun z => by cases z), fun _ => ?_⟩
 have st7b := st7a.keep g10.kp (by omega) (by omega) (by omega)
 have hq10 := g10.at_old hq9 (by omega) (by omega) (by omega)
 have len10 := g10.kp.1
 have fl10 := g10.len
 walk_at "w"
 refine wx_if ?_
 walk_at "w"
 refine ox_tupRev rfl ?_
 rw [bsX_rev]
 walk_at "w"
 refine ox_tupRev rfl ?_
 rw [ksX_rev]
 walk_at "w"
 refine (t_keeps st7b ⟨by omega, by omega, by omega, by omega, by omega, by omega, by omega⟩ g10.left (by simp at fl9; omega) hb.rev hst.rev hq10 (by omega) (by omega) (by omega) (by omega) (by omega) hfu).imp ?_
 rintro _ T3 ⟨rfl, fs11, g11⟩
 refine ⟨_, rfl, (fun z => by cases z), fun _ => ?_⟩
 have st6b := g10.st.keep g11.kp (by omega) (by omega) (by omega)
 have hq11 := g11.at_old hq10 (by omega) (by omega) (by omega)
 walk_at "w"
 refine (t_leaves st6b (by simp at fl10; omega) hq11 (by omega) (by omega) (by omega) (by omega)).imp ?_
 rintro _ T4 ⟨nn4, ms4, fs12, rfl, hnn4, e12, hm12, _, g12⟩
 walk_at "w"
 refine ox_len (lstAt_of e12) ?_
 walk_at "w"
 refine ox_len (lstAt_of (g12.at_old hq11 (by omega) (by omega))) ?_
 walk_at "w"
 rw [ksX_len, List.length_map, hm12, decide_eq_true rfl]
theorem t_law (hbg : Big fu) (ns : List Int) (hl : ns.length ≤ 63) : ∃ S, tw_law fu [.ref 0] [.frz (ns.map Xv.int)] = some (.ok (.bl true) S) := by
 obtain ⟨v, S, e, rfl⟩ := w_law hbg ns
 exact ⟨S, e⟩
end
end
noncomputable def lawFuel : Nat := 2 ^ 9000
theorem big_lawFuel : Big lawFuel := by unfold Big lawFuel; exact Nat.le_refl _
theorem ok_law {P : Program} {w : World} {K : PySem.W.Frag} {mg : Str → Option Value} {base : Heap} (T : Tx K mg) : FnOk P w K mg base (CXE P w) 13 T.a_law T.fd_law ["_law_script"] (spLawX K) := law_tw (okT_law (fu := lawFuel) T) fun ns hl => t_law big_lawFuel ns hl
theorem all_mk {l : PySem.W.OpenLaw} {w : World} {K : PySem.W.Frag} {h : Heap} {mg : Str → Option Value} {fa : Addr} (X : K.In h) (G : h.Ns mainGlobals mg) (hfa : mg "law" = some (.ref fa))
  {g_Store : Addr}  {f0 : Addr} {od0 an0 : Option Addr} {sl0 : Array (Option Value)} {oc0 kV0 dc0 pm0 cd0 ct0 : Value} {f1 : Addr} {od1 an1 : Option Addr} {sl1 : Array (Option Value)} {oc1 kV1 dc1 pm1 cd1 ct1 : Value} {f2 : Addr} {od2 an2 : Option Addr} {sl2 : Array (Option Value)} {oc2 kV2 dc2 pm2 cd2 ct2 : Value} {f3 : Addr} {od3 an3 : Option Addr} {sl3 : Array (Option Value)} {oc3 kV3 dc3 pm3 cd3 ct3 : Value} {f4 : Addr} {od4 an4 : Option Addr} {sl4 : Array (Option Value)} {oc4 kV4 dc4 pm4 cd4 ct4 : Value} {f5 : Addr} {od5 an5 : Option Addr} {sl5 : Array (Option Value)} {oc5 kV5 dc5 pm5 cd5 ct5 : Value} {f6 : Addr} {od6 an6 : Option Addr} {sl6 : Array (Option Value)} {oc6 kV6 dc6 pm6 cd6 ct6 : Value} {f7 : Addr} {od7 an7 : Option Addr} {sl7 : Array (Option Value)} {oc7 kV7 dc7 pm7 cd7 ct7 : Value} {f8 : Addr} {od8 an8 : Option Addr} {sl8 : Array (Option Value)} {oc8 kV8 dc8 pm8 cd8 ct8 : Value} {f9 : Addr} {od9 an9 : Option Addr} {sl9 : Array (Option Value)} {oc9 kV9 dc9 pm9 cd9 ct9 : Value} {f10 : Addr} {od10 an10 : Option Addr} {sl10 : Array (Option Value)} {oc10 kV10 dc10 pm10 cd10 ct10 : Value} {f11 : Addr} {od11 an11 : Option Addr} {sl11 : Array (Option Value)} {oc11 kV11 dc11 pm11 cd11 ct11 : Value} {f12 : Addr} {od12 an12 : Option Addr} {sl12 : Array (Option Value)} {oc12 kV12 dc12 pm12 cd12 ct12 : Value} {f13 : Addr} {od13 an13 : Option Addr} {sl13 : Array (Option Value)} {oc13 kV13 dc13 pm13 cd13 ct13 : Value} {f14 : Addr} {od14 an14 : Option Addr} {sl14 : Array (Option Value)} {oc14 kV14 dc14 pm14 cd14 ct14 : Value} {f15 : Addr} {od15 an15 : Option Addr} {sl15 : Array (Option Value)} {oc15 kV15 dc15 pm15 cd15 ct15 : Value} {f16 : Addr} {od16 an16 : Option Addr} {sl16 : Array (Option Value)} {oc16 kV16 dc16 pm16 cd16 ct16 : Value} {f17 : Addr} {od17 an17 : Option Addr} {sl17 : Array (Option Value)} {oc17 kV17 dc17 pm17 cd17 ct17 : Value} {f18 : Addr} {od18 an18 : Option Addr} {sl18 : Array (Option Value)} {oc18 kV18 dc18 pm18 cd18 ct18 : Value} {f19 : Addr} {od19 an19 : Option Addr} {sl19 : Array (Option Value)} {oc19 kV19 dc19 pm19 cd19 ct19 : Value} {f20 : Addr} {od20 an20 : Option Addr} {sl20 : Array (Option Value)} {oc20 kV20 dc20 pm20 cd20 ct20 : Value} {f21 : Addr} {od21 an21 : Option Addr} {sl21 : Array (Option Value)} {oc21 kV21 dc21 pm21 cd21 ct21 : Value} {f22 : Addr} {od22 an22 : Option Addr} {sl22 : Array (Option Value)} {oc22 kV22 dc22 pm22 cd22 ct22 : Value} {f23 : Addr} {od23 an23 : Option Addr} {sl23 : Array (Option Value)} {oc23 kV23 dc23 pm23 cd23 ct23 : Value} {f24 : Addr} {od24 an24 : Option Addr} {sl24 : Array (Option Value)} {oc24 kV24 dc24 pm24 cd24 ct24 : Value} {f25 : Addr} {od25 an25 : Option Addr} {sl25 : Array (Option Value)} {oc25 kV25 dc25 pm25 cd25 ct25 : Value} {f26 : Addr} {od26 an26 : Option Addr} {sl26 : Array (Option Value)} {oc26 kV26 dc26 pm26 cd26 ct26 : Value} {f27 : Addr} {od27 an27 : Option Addr} {sl27 : Array (Option Value)} {oc27 kV27 dc27 pm27 cd27 ct27 : Value} {f28 : Addr} {od28 an28 : Option Addr} {sl28 : Array (Option Value)} {oc28 kV28 dc28 pm28 cd28 ct28 : Value} {f29 : Addr} {od29 an29 : Option Addr} {sl29 : Array (Option Value)} {oc29 kV29 dc29 pm29 cd29 ct29 : Value} {f30 : Addr} {od30 an30 : Option Addr} {sl30 : Array (Option Value)} {oc30 kV30 dc30 pm30 cd30 ct30 : Value} {f31 : Addr} {od31 an31 : Option Addr} {sl31 : Array (Option Value)} {oc31 kV31 dc31 pm31 cd31 ct31 : Value} {f32 : Addr} {od32 an32 : Option Addr} {sl32 : Array (Option Value)} {oc32 kV32 dc32 pm32 cd32 ct32 : Value} {f33 : Addr} {od33 an33 : Option Addr} {sl33 : Array (Option Value)} {oc33 kV33 dc33 pm33 cd33 ct33 : Value} {f34 : Addr} {od34 an34 : Option Addr} {sl34 : Array (Option Value)} {oc34 kV34 dc34 pm34 cd34 ct34 : Value} {f35 : Addr} {od35 an35 : Option Addr} {sl35 : Array (Option Value)} {oc35 kV35 dc35 pm35 cd35 ct35 : Value} {f36 : Addr} {od36 an36 : Option Addr} {sl36 : Array (Option Value)} {oc36 kV36 dc36 pm36 cd36 ct36 : Value} {f37 : Addr} {od37 an37 : Option Addr} {sl37 : Array (Option Value)} {oc37 kV37 dc37 pm37 cd37 ct37 : Value} {f38 : Addr} {od38 an38 : Option Addr} {sl38 : Array (Option Value)} {oc38 kV38 dc38 pm38 cd38 ct38 : Value}
  (a_Store : PySem.W.nsIn K mainGlobals "Store" = some (some (.ref g_Store)))
  (A0 : PySem.W.nsIn K mainGlobals "_wall" = some (some (.ref f0))) (L0 : K.lookup f0 = some ⟨oc0, od0, .func (PySem.W.fnOf "_wall" "_wall" (defArgs s__wall) (defBody s__wall) (defScope s__wall) .none kV0 dc0 pm0 an0 cd0 ct0), sl0⟩) (C0 : PySem.W.codeIn K cd0 "_wall" = true) (K0 : PySem.W.keepIn K (.ref f0) = true)
  (A1 : PySem.W.findIn K (.ref g_Store) "__init__" = some (some (.ref f1))) (I1 : PySem.W.isFn K (.ref f1) = true) (L1 : K.lookup f1 = some ⟨oc1, od1, .func (PySem.W.fnOf "__init__" "Store.__init__" (defArgs s_Store___init__) (defBody s_Store___init__) (defScope s_Store___init__) .none kV1 dc1 pm1 an1 cd1 ct1), sl1⟩) (C1 : PySem.W.codeIn K cd1 "Store.__init__" = true) (K1 : PySem.W.keepIn K (.ref f1) = true)
  (A2 : PySem.W.findIn K (.ref g_Store) "number_of" = some (some (.ref f2))) (I2 : PySem.W.isFn K (.ref f2) = true) (L2 : K.lookup f2 = some ⟨oc2, od2, .func (PySem.W.fnOf "number_of" "Store.number_of" (defArgs s_Store_number_of) (defBody s_Store_number_of) (defScope s_Store_number_of) .none kV2 dc2 pm2 an2 cd2 ct2), sl2⟩) (C2 : PySem.W.codeIn K cd2 "Store.number_of" = true) (K2 : PySem.W.keepIn K (.ref f2) = true)
  (A3 : PySem.W.findIn K (.ref g_Store) "leaf" = some (some (.ref f3))) (I3 : PySem.W.isFn K (.ref f3) = true) (L3 : K.lookup f3 = some ⟨oc3, od3, .func (PySem.W.fnOf "leaf" "Store.leaf" (defArgs s_Store_leaf) (defBody s_Store_leaf) (defScope s_Store_leaf) .none kV3 dc3 pm3 an3 cd3 ct3), sl3⟩) (C3 : PySem.W.codeIn K cd3 "Store.leaf" = true) (K3 : PySem.W.keepIn K (.ref f3) = true)
  (A4 : PySem.W.findIn K (.ref g_Store) "fork" = some (some (.ref f4))) (I4 : PySem.W.isFn K (.ref f4) = true) (L4 : K.lookup f4 = some ⟨oc4, od4, .func (PySem.W.fnOf "fork" "Store.fork" (defArgs s_Store_fork) (defBody s_Store_fork) (defScope s_Store_fork) .none kV4 dc4 pm4 an4 cd4 ct4), sl4⟩) (C4 : PySem.W.codeIn K cd4 "Store.fork" = true) (K4 : PySem.W.keepIn K (.ref f4) = true)
  (A5 : PySem.W.findIn K (.ref g_Store) "told" = some (some (.ref f5))) (I5 : PySem.W.isFn K (.ref f5) = true) (L5 : K.lookup f5 = some ⟨oc5, od5, .func (PySem.W.fnOf "told" "Store.told" (defArgs s_Store_told) (defBody s_Store_told) (defScope s_Store_told) .none kV5 dc5 pm5 an5 cd5 ct5), sl5⟩) (C5 : PySem.W.codeIn K cd5 "Store.told" = true) (K5 : PySem.W.keepIn K (.ref f5) = true)
  (A6 : PySem.W.findIn K (.ref g_Store) "level_of" = some (some (.ref f6))) (I6 : PySem.W.isFn K (.ref f6) = true) (L6 : K.lookup f6 = some ⟨oc6, od6, .func (PySem.W.fnOf "level_of" "Store.level_of" (defArgs s_Store_level_of) (defBody s_Store_level_of) (defScope s_Store_level_of) .none kV6 dc6 pm6 an6 cd6 ct6), sl6⟩) (C6 : PySem.W.codeIn K cd6 "Store.level_of" = true) (K6 : PySem.W.keepIn K (.ref f6) = true)
  (A7 : PySem.W.findIn K (.ref g_Store) "kids_of" = some (some (.ref f7))) (I7 : PySem.W.isFn K (.ref f7) = true) (L7 : K.lookup f7 = some ⟨oc7, od7, .func (PySem.W.fnOf "kids_of" "Store.kids_of" (defArgs s_Store_kids_of) (defBody s_Store_kids_of) (defScope s_Store_kids_of) .none kV7 dc7 pm7 an7 cd7 ct7), sl7⟩) (C7 : PySem.W.codeIn K cd7 "Store.kids_of" = true) (K7 : PySem.W.keepIn K (.ref f7) = true)
  (A8 : PySem.W.findIn K (.ref g_Store) "kid_at" = some (some (.ref f8))) (I8 : PySem.W.isFn K (.ref f8) = true) (L8 : K.lookup f8 = some ⟨oc8, od8, .func (PySem.W.fnOf "kid_at" "Store.kid_at" (defArgs s_Store_kid_at) (defBody s_Store_kid_at) (defScope s_Store_kid_at) .none kV8 dc8 pm8 an8 cd8 ct8), sl8⟩) (C8 : PySem.W.codeIn K cd8 "Store.kid_at" = true) (K8 : PySem.W.keepIn K (.ref f8) = true)
  (A9 : PySem.W.findIn K (.ref g_Store) "value_at" = some (some (.ref f9))) (I9 : PySem.W.isFn K (.ref f9) = true) (L9 : K.lookup f9 = some ⟨oc9, od9, .func (PySem.W.fnOf "value_at" "Store.value_at" (defArgs s_Store_value_at) (defBody s_Store_value_at) (defScope s_Store_value_at) .none kV9 dc9 pm9 an9 cd9 ct9), sl9⟩) (C9 : PySem.W.codeIn K cd9 "Store.value_at" = true) (K9 : PySem.W.keepIn K (.ref f9) = true)
  (A10 : PySem.W.findIn K (.ref g_Store) "added" = some (some (.ref f10))) (I10 : PySem.W.isFn K (.ref f10) = true) (L10 : K.lookup f10 = some ⟨oc10, od10, .func (PySem.W.fnOf "added" "Store.added" (defArgs s_Store_added) (defBody s_Store_added) (defScope s_Store_added) .none kV10 dc10 pm10 an10 cd10 ct10), sl10⟩) (C10 : PySem.W.codeIn K cd10 "Store.added" = true) (K10 : PySem.W.keepIn K (.ref f10) = true)
  (A11 : PySem.W.findIn K (.ref g_Store) "multiplied" = some (some (.ref f11))) (I11 : PySem.W.isFn K (.ref f11) = true) (L11 : K.lookup f11 = some ⟨oc11, od11, .func (PySem.W.fnOf "multiplied" "Store.multiplied" (defArgs s_Store_multiplied) (defBody s_Store_multiplied) (defScope s_Store_multiplied) .none kV11 dc11 pm11 an11 cd11 ct11), sl11⟩) (C11 : PySem.W.codeIn K cd11 "Store.multiplied" = true) (K11 : PySem.W.keepIn K (.ref f11) = true)
  (A12 : PySem.W.findIn K (.ref g_Store) "higher" = some (some (.ref f12))) (I12 : PySem.W.isFn K (.ref f12) = true) (L12 : K.lookup f12 = some ⟨oc12, od12, .func (PySem.W.fnOf "higher" "Store.higher" (defArgs s_Store_higher) (defBody s_Store_higher) (defScope s_Store_higher) .none kV12 dc12 pm12 an12 cd12 ct12), sl12⟩) (C12 : PySem.W.codeIn K cd12 "Store.higher" = true) (K12 : PySem.W.keepIn K (.ref f12) = true)
  (A13 : PySem.W.findIn K (.ref g_Store) "reckoned_of" = some (some (.ref f13))) (I13 : PySem.W.isFn K (.ref f13) = true) (L13 : K.lookup f13 = some ⟨oc13, od13, .func (PySem.W.fnOf "reckoned_of" "Store.reckoned_of" (defArgs s_Store_reckoned_of) (defBody s_Store_reckoned_of) (defScope s_Store_reckoned_of) .none kV13 dc13 pm13 an13 cd13 ct13), sl13⟩) (C13 : PySem.W.codeIn K cd13 "Store.reckoned_of" = true) (K13 : PySem.W.keepIn K (.ref f13) = true)
  (A14 : PySem.W.findIn K (.ref g_Store) "chosen_by" = some (some (.ref f14))) (I14 : PySem.W.isFn K (.ref f14) = true) (L14 : K.lookup f14 = some ⟨oc14, od14, .func (PySem.W.fnOf "chosen_by" "Store.chosen_by" (defArgs s_Store_chosen_by) (defBody s_Store_chosen_by) (defScope s_Store_chosen_by) .none kV14 dc14 pm14 an14 cd14 ct14), sl14⟩) (C14 : PySem.W.codeIn K cd14 "Store.chosen_by" = true) (K14 : PySem.W.keepIn K (.ref f14) = true)
  (A15 : PySem.W.findIn K (.ref g_Store) "joined" = some (some (.ref f15))) (I15 : PySem.W.isFn K (.ref f15) = true) (L15 : K.lookup f15 = some ⟨oc15, od15, .func (PySem.W.fnOf "joined" "Store.joined" (defArgs s_Store_joined) (defBody s_Store_joined) (defScope s_Store_joined) .none kV15 dc15 pm15 an15 cd15 ct15), sl15⟩) (C15 : PySem.W.codeIn K cd15 "Store.joined" = true) (K15 : PySem.W.keepIn K (.ref f15) = true)
  (A16 : PySem.W.findIn K (.ref g_Store) "joined_below" = some (some (.ref f16))) (I16 : PySem.W.isFn K (.ref f16) = true) (L16 : K.lookup f16 = some ⟨oc16, od16, .func (PySem.W.fnOf "joined_below" "Store.joined_below" (defArgs s_Store_joined_below) (defBody s_Store_joined_below) (defScope s_Store_joined_below) .none kV16 dc16 pm16 an16 cd16 ct16), sl16⟩) (C16 : PySem.W.codeIn K cd16 "Store.joined_below" = true) (K16 : PySem.W.keepIn K (.ref f16) = true)
  (A17 : PySem.W.findIn K (.ref g_Store) "leaf_by" = some (some (.ref f17))) (I17 : PySem.W.isFn K (.ref f17) = true) (L17 : K.lookup f17 = some ⟨oc17, od17, .func (PySem.W.fnOf "leaf_by" "Store.leaf_by" (defArgs s_Store_leaf_by) (defBody s_Store_leaf_by) (defScope s_Store_leaf_by) .none kV17 dc17 pm17 an17 cd17 ct17), sl17⟩) (C17 : PySem.W.codeIn K cd17 "Store.leaf_by" = true) (K17 : PySem.W.keepIn K (.ref f17) = true)
  (A18 : PySem.W.findIn K (.ref g_Store) "choice_among" = some (some (.ref f18))) (I18 : PySem.W.isFn K (.ref f18) = true) (L18 : K.lookup f18 = some ⟨oc18, od18, .func (PySem.W.fnOf "choice_among" "Store.choice_among" (defArgs s_Store_choice_among) (defBody s_Store_choice_among) (defScope s_Store_choice_among) .none kV18 dc18 pm18 an18 cd18 ct18), sl18⟩) (C18 : PySem.W.codeIn K cd18 "Store.choice_among" = true) (K18 : PySem.W.keepIn K (.ref f18) = true)
  (A19 : PySem.W.findIn K (.ref g_Store) "fixed" = some (some (.ref f19))) (I19 : PySem.W.isFn K (.ref f19) = true) (L19 : K.lookup f19 = some ⟨oc19, od19, .func (PySem.W.fnOf "fixed" "Store.fixed" (defArgs s_Store_fixed) (defBody s_Store_fixed) (defScope s_Store_fixed) .none kV19 dc19 pm19 an19 cd19 ct19), sl19⟩) (C19 : PySem.W.codeIn K cd19 "Store.fixed" = true) (K19 : PySem.W.keepIn K (.ref f19) = true)
  (A20 : PySem.W.findIn K (.ref g_Store) "fixed_below" = some (some (.ref f20))) (I20 : PySem.W.isFn K (.ref f20) = true) (L20 : K.lookup f20 = some ⟨oc20, od20, .func (PySem.W.fnOf "fixed_below" "Store.fixed_below" (defArgs s_Store_fixed_below) (defBody s_Store_fixed_below) (defScope s_Store_fixed_below) .none kV20 dc20 pm20 an20 cd20 ct20), sl20⟩) (C20 : PySem.W.codeIn K cd20 "Store.fixed_below" = true) (K20 : PySem.W.keepIn K (.ref f20) = true)
  (A21 : PySem.W.findIn K (.ref g_Store) "marked" = some (some (.ref f21))) (I21 : PySem.W.isFn K (.ref f21) = true) (L21 : K.lookup f21 = some ⟨oc21, od21, .func (PySem.W.fnOf "marked" "Store.marked" (defArgs s_Store_marked) (defBody s_Store_marked) (defScope s_Store_marked) .none kV21 dc21 pm21 an21 cd21 ct21), sl21⟩) (C21 : PySem.W.codeIn K cd21 "Store.marked" = true) (K21 : PySem.W.keepIn K (.ref f21) = true)
  (A22 : PySem.W.findIn K (.ref g_Store) "made" = some (some (.ref f22))) (I22 : PySem.W.isFn K (.ref f22) = true) (L22 : K.lookup f22 = some ⟨oc22, od22, .func (PySem.W.fnOf "made" "Store.made" (defArgs s_Store_made) (defBody s_Store_made) (defScope s_Store_made) .none kV22 dc22 pm22 an22 cd22 ct22), sl22⟩) (C22 : PySem.W.codeIn K cd22 "Store.made" = true) (K22 : PySem.W.keepIn K (.ref f22) = true)
  (A23 : PySem.W.findIn K (.ref g_Store) "made_behind" = some (some (.ref f23))) (I23 : PySem.W.isFn K (.ref f23) = true) (L23 : K.lookup f23 = some ⟨oc23, od23, .func (PySem.W.fnOf "made_behind" "Store.made_behind" (defArgs s_Store_made_behind) (defBody s_Store_made_behind) (defScope s_Store_made_behind) .none kV23 dc23 pm23 an23 cd23 ct23), sl23⟩) (C23 : PySem.W.codeIn K cd23 "Store.made_behind" = true) (K23 : PySem.W.keepIn K (.ref f23) = true)
  (A24 : PySem.W.findIn K (.ref g_Store) "point" = some (some (.ref f24))) (I24 : PySem.W.isFn K (.ref f24) = true) (L24 : K.lookup f24 = some ⟨oc24, od24, .func (PySem.W.fnOf "point" "Store.point" (defArgs s_Store_point) (defBody s_Store_point) (defScope s_Store_point) .none kV24 dc24 pm24 an24 cd24 ct24), sl24⟩) (C24 : PySem.W.codeIn K cd24 "Store.point" = true) (K24 : PySem.W.keepIn K (.ref f24) = true)
  (A25 : PySem.W.findIn K (.ref g_Store) "nodes_below" = some (some (.ref f25))) (I25 : PySem.W.isFn K (.ref f25) = true) (L25 : K.lookup f25 = some ⟨oc25, od25, .func (PySem.W.fnOf "nodes_below" "Store.nodes_below" (defArgs s_Store_nodes_below) (defBody s_Store_nodes_below) (defScope s_Store_nodes_below) .none kV25 dc25 pm25 an25 cd25 ct25), sl25⟩) (C25 : PySem.W.codeIn K cd25 "Store.nodes_below" = true) (K25 : PySem.W.keepIn K (.ref f25) = true)
  (A26 : PySem.W.nsIn K mainGlobals "_law_take" = some (some (.ref f26))) (L26 : K.lookup f26 = some ⟨oc26, od26, .func (PySem.W.fnOf "_law_take" "_law_take" (defArgs s__law_take) (defBody s__law_take) (defScope s__law_take) .none kV26 dc26 pm26 an26 cd26 ct26), sl26⟩) (C26 : PySem.W.codeIn K cd26 "_law_take" = true) (K26 : PySem.W.keepIn K (.ref f26) = true)
  (A27 : PySem.W.nsIn K mainGlobals "_law_word" = some (some (.ref f27))) (L27 : K.lookup f27 = some ⟨oc27, od27, .func (PySem.W.fnOf "_law_word" "_law_word" (defArgs s__law_word) (defBody s__law_word) (defScope s__law_word) .none kV27 dc27 pm27 an27 cd27 ct27), sl27⟩) (C27 : PySem.W.codeIn K cd27 "_law_word" = true) (K27 : PySem.W.keepIn K (.ref f27) = true)
  (A28 : PySem.W.nsIn K mainGlobals "_law_names" = some (some (.ref f28))) (L28 : K.lookup f28 = some ⟨oc28, od28, .func (PySem.W.fnOf "_law_names" "_law_names" (defArgs s__law_names) (defBody s__law_names) (defScope s__law_names) .none kV28 dc28 pm28 an28 cd28 ct28), sl28⟩) (C28 : PySem.W.codeIn K cd28 "_law_names" = true) (K28 : PySem.W.keepIn K (.ref f28) = true)
  (A29 : PySem.W.nsIn K mainGlobals "_law_boxes" = some (some (.ref f29))) (L29 : K.lookup f29 = some ⟨oc29, od29, .func (PySem.W.fnOf "_law_boxes" "_law_boxes" (defArgs s__law_boxes) (defBody s__law_boxes) (defScope s__law_boxes) .none kV29 dc29 pm29 an29 cd29 ct29), sl29⟩) (C29 : PySem.W.codeIn K cd29 "_law_boxes" = true) (K29 : PySem.W.keepIn K (.ref f29) = true)
  (A30 : PySem.W.nsIn K mainGlobals "_law_state" = some (some (.ref f30))) (L30 : K.lookup f30 = some ⟨oc30, od30, .func (PySem.W.fnOf "_law_state" "_law_state" (defArgs s__law_state) (defBody s__law_state) (defScope s__law_state) .none kV30 dc30 pm30 an30 cd30 ct30), sl30⟩) (C30 : PySem.W.codeIn K cd30 "_law_state" = true) (K30 : PySem.W.keepIn K (.ref f30) = true)
  (A31 : PySem.W.nsIn K mainGlobals "_law_low" = some (some (.ref f31))) (L31 : K.lookup f31 = some ⟨oc31, od31, .func (PySem.W.fnOf "_law_low" "_law_low" (defArgs s__law_low) (defBody s__law_low) (defScope s__law_low) .none kV31 dc31 pm31 an31 cd31 ct31), sl31⟩) (C31 : PySem.W.codeIn K cd31 "_law_low" = true) (K31 : PySem.W.keepIn K (.ref f31) = true)
  (A32 : PySem.W.nsIn K mainGlobals "_law_ratio" = some (some (.ref f32))) (L32 : K.lookup f32 = some ⟨oc32, od32, .func (PySem.W.fnOf "_law_ratio" "_law_ratio" (defArgs s__law_ratio) (defBody s__law_ratio) (defScope s__law_ratio) .none kV32 dc32 pm32 an32 cd32 ct32), sl32⟩) (C32 : PySem.W.codeIn K cd32 "_law_ratio" = true) (K32 : PySem.W.keepIn K (.ref f32) = true)
  (A33 : PySem.W.nsIn K mainGlobals "_law_same" = some (some (.ref f33))) (L33 : K.lookup f33 = some ⟨oc33, od33, .func (PySem.W.fnOf "_law_same" "_law_same" (defArgs s__law_same) (defBody s__law_same) (defScope s__law_same) .none kV33 dc33 pm33 an33 cd33 ct33), sl33⟩) (C33 : PySem.W.codeIn K cd33 "_law_same" = true) (K33 : PySem.W.keepIn K (.ref f33) = true)
  (A34 : PySem.W.nsIn K mainGlobals "_law_whole" = some (some (.ref f34))) (L34 : K.lookup f34 = some ⟨oc34, od34, .func (PySem.W.fnOf "_law_whole" "_law_whole" (defArgs s__law_whole) (defBody s__law_whole) (defScope s__law_whole) .none kV34 dc34 pm34 an34 cd34 ct34), sl34⟩) (C34 : PySem.W.codeIn K cd34 "_law_whole" = true) (K34 : PySem.W.keepIn K (.ref f34) = true)
  (A35 : PySem.W.nsIn K mainGlobals "_law_leaves" = some (some (.ref f35))) (L35 : K.lookup f35 = some ⟨oc35, od35, .func (PySem.W.fnOf "_law_leaves" "_law_leaves" (defArgs s__law_leaves) (defBody s__law_leaves) (defScope s__law_leaves) .none kV35 dc35 pm35 an35 cd35 ct35), sl35⟩) (C35 : PySem.W.codeIn K cd35 "_law_leaves" = true) (K35 : PySem.W.keepIn K (.ref f35) = true)
  (A36 : PySem.W.nsIn K mainGlobals "_law_forked" = some (some (.ref f36))) (L36 : K.lookup f36 = some ⟨oc36, od36, .func (PySem.W.fnOf "_law_forked" "_law_forked" (defArgs s__law_forked) (defBody s__law_forked) (defScope s__law_forked) .none kV36 dc36 pm36 an36 cd36 ct36), sl36⟩) (C36 : PySem.W.codeIn K cd36 "_law_forked" = true) (K36 : PySem.W.keepIn K (.ref f36) = true)
  (A37 : PySem.W.nsIn K mainGlobals "_law_keeps" = some (some (.ref f37))) (L37 : K.lookup f37 = some ⟨oc37, od37, .func (PySem.W.fnOf "_law_keeps" "_law_keeps" (defArgs s__law_keeps) (defBody s__law_keeps) (defScope s__law_keeps) .none kV37 dc37 pm37 an37 cd37 ct37), sl37⟩) (C37 : PySem.W.codeIn K cd37 "_law_keeps" = true) (K37 : PySem.W.keepIn K (.ref f37) = true)
  (A38 : PySem.W.nsIn K mainGlobals "law" = some (some (.ref f38))) (L38 : K.lookup f38 = some ⟨oc38, od38, .func (PySem.W.fnOf "law" "law" (defArgs s_law) (defBody s_law) (defScope s_law) .none kV38 dc38 pm38 an38 cd38 ct38), sl38⟩) (C38 : PySem.W.codeIn K cd38 "law" = true) (K38 : PySem.W.keepIn K (.ref f38) = true)
  (g1_Store : PySem.W.plainGet K g_Store Str.empty = true) (g2_Store : PySem.W.hasDictIn K g_Store = true) (g3_Store : PySem.W.plainOver K g_Store = true) (g4_Store : PySem.W.findIn K (.ref g_Store) "__setattr__" = some (some (.builtin "object.__setattr__"))) (k_Store : PySem.W.makesIn K g_Store = true) (p_Store : PySem.W.keepIn K (.ref g_Store) = true)
  (n_Store_boxes : PySem.W.findIn K (.ref g_Store) "boxes" = some none)
  (n_Store_facts : PySem.W.findIn K (.ref g_Store) "facts" = some none)
  (n_Store_numbers : PySem.W.findIn K (.ref g_Store) "numbers" = some none)
  (N_abs : PySem.W.nsIn K mainGlobals "abs" = some none)
  (N_all : PySem.W.nsIn K mainGlobals "all" = some none)
  (N_bool : PySem.W.nsIn K mainGlobals "bool" = some none)
  (N_int : PySem.W.nsIn K mainGlobals "int" = some none)
  (N_isinstance : PySem.W.nsIn K mainGlobals "isinstance" = some none)
  (N_len : PySem.W.nsIn K mainGlobals "len" = some none)
  (N_list : PySem.W.nsIn K mainGlobals "list" = some none)
  (N_min : PySem.W.nsIn K mainGlobals "min" = some none)
  (N_range : PySem.W.nsIn K mainGlobals "range" = some none)
  (N_reversed : PySem.W.nsIn K mainGlobals "reversed" = some none)
  (N_str : PySem.W.nsIn K mainGlobals "str" = some none)
  (N_tuple : PySem.W.nsIn K mainGlobals "tuple" = some none) :
  ∃ fd : FuncData, (∀ (s : Shared) (v : Value), BindsTo s fd ⟨[v], []⟩ [("_law_script", v)]) ∧ ∀ base : Heap, K.In base → base.Ns mainGlobals mg → FnOk l.prog w K mg base (CXE l.prog w) 13 fa fd ["_law_script"] (spLawX K) := by
 have e := hfa.symm.trans (PySem.W.mg_of X G A38)
 cases e
 let T : Tx K mg := { a__wall := f0, fd__wall := _, F__wall := fun_mk (st := s__wall) L0 C0 K0, m__wall := PySem.W.mg_of X G A0, b__wall := (fun_mk (st := s__wall) L0 C0 K0).binds (ps := ["k"]) fun _ _ _ _ _ _ us hl => match us, hl with | [_], _ => rfl, a_Store___init__ := f1, fd_Store___init__ := _, F_Store___init__ := fun_mk (st := s_Store___init__) L1 C1 K1, b_Store___init__ := (fun_mk (st := s_Store___init__) L1 C1 K1).binds (ps := ["self", "boxes"]) fun _ _ _ _ _ _ us hl => match us, hl with | [_, _], _ => rfl, mk_Store := ⟨k_Store, A1, I1, p_Store⟩, a_Store_number_of := f2, fd_Store_number_of := _, F_Store_number_of := fun_mk (st := s_Store_number_of) L2 C2 K2, b_Store_number_of := (fun_mk (st := s_Store_number_of) L2 C2 K2).binds (ps := ["self", "fact"]) fun _ _ _ _ _ _ us hl => match us, hl with | [_, _], _ => rfl, mt_Store_number_of := ⟨A2, I2, K2⟩, a_Store_leaf := f3, fd_Store_leaf := _, F_Store_leaf := fun_mk (st := s_Store_leaf) L3 C3 K3, b_Store_leaf := (fun_mk (st := s_Store_leaf) L3 C3 K3).binds (ps := ["self", "one"]) fun _ _ _ _ _ _ us hl => match us, hl with | [_, _], _ => rfl, mt_Store_leaf := ⟨A3, I3, K3⟩, a_Store_fork := f4, fd_Store_fork := _, F_Store_fork := fun_mk (st := s_Store_fork) L4 C4 K4, b_Store_fork := (fun_mk (st := s_Store_fork) L4 C4 K4).binds (ps := ["self", "level", "kids"]) fun _ _ _ _ _ _ us hl => match us, hl with | [_, _, _], _ => rfl, mt_Store_fork := ⟨A4, I4, K4⟩, a_Store_told := f5, fd_Store_told := _, F_Store_told := fun_mk (st := s_Store_told) L5 C5 K5, b_Store_told := (fun_mk (st := s_Store_told) L5 C5 K5).binds (ps := ["self", "node"]) fun _ _ _ _ _ _ us hl => match us, hl with | [_, _], _ => rfl, mt_Store_told := ⟨A5, I5, K5⟩, a_Store_level_of := f6, fd_Store_level_of := _, F_Store_level_of := fun_mk (st := s_Store_level_of) L6 C6 K6, b_Store_level_of := (fun_mk (st := s_Store_level_of) L6 C6 K6).binds (ps := ["self", "node"]) fun _ _ _ _ _ _ us hl => match us, hl with | [_, _], _ => rfl, mt_Store_level_of := ⟨A6, I6, K6⟩, a_Store_kids_of := f7, fd_Store_kids_of := _, F_Store_kids_of := fun_mk (st := s_Store_kids_of) L7 C7 K7, b_Store_kids_of := (fun_mk (st := s_Store_kids_of) L7 C7 K7).binds (ps := ["self", "node"]) fun _ _ _ _ _ _ us hl => match us, hl with | [_, _], _ => rfl, mt_Store_kids_of := ⟨A7, I7, K7⟩, a_Store_kid_at := f8, fd_Store_kid_at := _, F_Store_kid_at := fun_mk (st := s_Store_kid_at) L8 C8 K8, b_Store_kid_at := (fun_mk (st := s_Store_kid_at) L8 C8 K8).binds (ps := ["self", "node", "level", "number"]) fun _ _ _ _ _ _ us hl => match us, hl with | [_, _, _, _], _ => rfl, mt_Store_kid_at := ⟨A8, I8, K8⟩, a_Store_value_at := f9, fd_Store_value_at := _, F_Store_value_at := fun_mk (st := s_Store_value_at) L9 C9 K9, b_Store_value_at := (fun_mk (st := s_Store_value_at) L9 C9 K9).binds (ps := ["self", "node", "state"]) fun _ _ _ _ _ _ us hl => match us, hl with | [_, _, _], _ => rfl, mt_Store_value_at := ⟨A9, I9, K9⟩, a_Store_added := f10, fd_Store_added := _, F_Store_added := fun_mk (st := s_Store_added) L10 C10 K10, b_Store_added := (fun_mk (st := s_Store_added) L10 C10 K10).binds (ps := ["self", "one", "other"]) fun _ _ _ _ _ _ us hl => match us, hl with | [_, _, _], _ => rfl, mt_Store_added := ⟨A10, I10, K10⟩, a_Store_multiplied := f11, fd_Store_multiplied := _, F_Store_multiplied := fun_mk (st := s_Store_multiplied) L11 C11 K11, b_Store_multiplied := (fun_mk (st := s_Store_multiplied) L11 C11 K11).binds (ps := ["self", "one", "other"]) fun _ _ _ _ _ _ us hl => match us, hl with | [_, _, _], _ => rfl, mt_Store_multiplied := ⟨A11, I11, K11⟩, a_Store_higher := f12, fd_Store_higher := _, F_Store_higher := fun_mk (st := s_Store_higher) L12 C12 K12, b_Store_higher := (fun_mk (st := s_Store_higher) L12 C12 K12).binds (ps := ["self", "one", "other"]) fun _ _ _ _ _ _ us hl => match us, hl with | [_, _, _], _ => rfl, mt_Store_higher := ⟨A12, I12, K12⟩, a_Store_reckoned_of := f13, fd_Store_reckoned_of := _, F_Store_reckoned_of := fun_mk (st := s_Store_reckoned_of) L13 C13 K13, b_Store_reckoned_of := (fun_mk (st := s_Store_reckoned_of) L13 C13 K13).binds (ps := ["self", "nodes", "rule"]) fun _ _ _ _ _ _ us hl => match us, hl with | [_, _, _], _ => rfl, mt_Store_reckoned_of := ⟨A13, I13, K13⟩, a_Store_chosen_by := f14, fd_Store_chosen_by := _, F_Store_chosen_by := fun_mk (st := s_Store_chosen_by) L14 C14 K14, b_Store_chosen_by := (fun_mk (st := s_Store_chosen_by) L14 C14 K14).binds (ps := ["self", "chooser", "nodes"]) fun _ _ _ _ _ _ us hl => match us, hl with | [_, _, _], _ => rfl, mt_Store_chosen_by := ⟨A14, I14, K14⟩, a_Store_joined := f15, fd_Store_joined := _, F_Store_joined := fun_mk (st := s_Store_joined) L15 C15 K15, b_Store_joined := (fun_mk (st := s_Store_joined) L15 C15 K15).binds (ps := ["self", "nodes", "settle", "known"]) fun _ _ _ _ _ _ us hl => match us, hl with | [_, _, _, _], _ => rfl, mt_Store_joined := ⟨A15, I15, K15⟩, a_Store_joined_below := f16, fd_Store_joined_below := _, F_Store_joined_below := fun_mk (st := s_Store_joined_below) L16 C16 K16, b_Store_joined_below := (fun_mk (st := s_Store_joined_below) L16 C16 K16).binds (ps := ["self", "nodes", "settle", "known"]) fun _ _ _ _ _ _ us hl => match us, hl with | [_, _, _, _], _ => rfl, mt_Store_joined_below := ⟨A16, I16, K16⟩, a_Store_leaf_by := f17, fd_Store_leaf_by := _, F_Store_leaf_by := fun_mk (st := s_Store_leaf_by) L17 C17 K17, b_Store_leaf_by := (fun_mk (st := s_Store_leaf_by) L17 C17 K17).binds (ps := ["self", "nodes", "rule"]) fun _ _ _ _ _ _ us hl => match us, hl with | [_, _, _], _ => rfl, mt_Store_leaf_by := ⟨A17, I17, K17⟩, a_Store_choice_among := f18, fd_Store_choice_among := _, F_Store_choice_among := fun_mk (st := s_Store_choice_among) L18 C18 K18, b_Store_choice_among := (fun_mk (st := s_Store_choice_among) L18 C18 K18).binds (ps := ["self", "nodes"]) fun _ _ _ _ _ _ us hl => match us, hl with | [_, _], _ => rfl, mt_Store_choice_among := ⟨A18, I18, K18⟩, a_Store_fixed := f19, fd_Store_fixed := _, F_Store_fixed := fun_mk (st := s_Store_fixed) L19 C19 K19, b_Store_fixed := (fun_mk (st := s_Store_fixed) L19 C19 K19).binds (ps := ["self", "node", "level", "number"]) fun _ _ _ _ _ _ us hl => match us, hl with | [_, _, _, _], _ => rfl, mt_Store_fixed := ⟨A19, I19, K19⟩, a_Store_fixed_below := f20, fd_Store_fixed_below := _, F_Store_fixed_below := fun_mk (st := s_Store_fixed_below) L20 C20 K20, b_Store_fixed_below := (fun_mk (st := s_Store_fixed_below) L20 C20 K20).binds (ps := ["self", "node", "level", "number", "known"]) fun _ _ _ _ _ _ us hl => match us, hl with | [_, _, _, _, _], _ => rfl, mt_Store_fixed_below := ⟨A20, I20, K20⟩, a_Store_marked := f21, fd_Store_marked := _, F_Store_marked := fun_mk (st := s_Store_marked) L21 C21 K21, b_Store_marked := (fun_mk (st := s_Store_marked) L21 C21 K21).binds (ps := ["self", "test"]) fun _ _ _ _ _ _ us hl => match us, hl with | [_, _], _ => rfl, mt_Store_marked := ⟨A21, I21, K21⟩, a_Store_made := f22, fd_Store_made := _, F_Store_made := fun_mk (st := s_Store_made) L22 C22 K22, b_Store_made := (fun_mk (st := s_Store_made) L22 C22 K22).binds (ps := ["self", "names", "rule"]) fun _ _ _ _ _ _ us hl => match us, hl with | [_, _, _], _ => rfl, mt_Store_made := ⟨A22, I22, K22⟩, a_Store_made_behind := f23, fd_Store_made_behind := _, F_Store_made_behind := fun_mk (st := s_Store_made_behind) L23 C23 K23, b_Store_made_behind := (fun_mk (st := s_Store_made_behind) L23 C23 K23).binds (ps := ["self", "names", "rule", "numbers"]) fun _ _ _ _ _ _ us hl => match us, hl with | [_, _, _, _], _ => rfl, mt_Store_made_behind := ⟨A23, I23, K23⟩, a_Store_point := f24, fd_Store_point := _, F_Store_point := fun_mk (st := s_Store_point) L24 C24 K24, b_Store_point := (fun_mk (st := s_Store_point) L24 C24 K24).binds (ps := ["self", "state"]) fun _ _ _ _ _ _ us hl => match us, hl with | [_, _], _ => rfl, mt_Store_point := ⟨A24, I24, K24⟩, a_Store_nodes_below := f25, fd_Store_nodes_below := _, F_Store_nodes_below := fun_mk (st := s_Store_nodes_below) L25 C25 K25, b_Store_nodes_below := (fun_mk (st := s_Store_nodes_below) L25 C25 K25).binds (ps := ["self", "node"]) fun _ _ _ _ _ _ us hl => match us, hl with | [_, _], _ => rfl, mt_Store_nodes_below := ⟨A25, I25, K25⟩, a__law_take := f26, fd__law_take := _, F__law_take := fun_mk (st := s__law_take) L26 C26 K26, m__law_take := PySem.W.mg_of X G A26, b__law_take := (fun_mk (st := s__law_take) L26 C26 K26).binds (ps := ["_law_left", "_law_many"]) fun _ _ _ _ _ _ us hl => match us, hl with | [_, _], _ => rfl, a__law_word := f27, fd__law_word := _, F__law_word := fun_mk (st := s__law_word) L27 C27 K27, m__law_word := PySem.W.mg_of X G A27, b__law_word := (fun_mk (st := s__law_word) L27 C27 K27).binds (ps := ["_law_number", "_law_size"]) fun _ _ _ _ _ _ us hl => match us, hl with | [_, _], _ => rfl, a__law_names := f28, fd__law_names := _, F__law_names := fun_mk (st := s__law_names) L28 C28 K28, m__law_names := PySem.W.mg_of X G A28, b__law_names := (fun_mk (st := s__law_names) L28 C28 K28).binds (ps := ["_law_left", "_law_many"]) fun _ _ _ _ _ _ us hl => match us, hl with | [_, _], _ => rfl, a__law_boxes := f29, fd__law_boxes := _, F__law_boxes := fun_mk (st := s__law_boxes) L29 C29 K29, m__law_boxes := PySem.W.mg_of X G A29, b__law_boxes := (fun_mk (st := s__law_boxes) L29 C29 K29).binds (ps := ["_law_left", "_law_most"]) fun _ _ _ _ _ _ us hl => match us, hl with | [_, _], _ => rfl, a__law_state := f30, fd__law_state := _, F__law_state := fun_mk (st := s__law_state) L30 C30 K30, m__law_state := PySem.W.mg_of X G A30, b__law_state := (fun_mk (st := s__law_state) L30 C30 K30).binds (ps := ["_law_left", "_law_boxes_here"]) fun _ _ _ _ _ _ us hl => match us, hl with | [_, _], _ => rfl, a__law_low := f31, fd__law_low := _, F__law_low := fun_mk (st := s__law_low) L31 C31 K31, m__law_low := PySem.W.mg_of X G A31, b__law_low := (fun_mk (st := s__law_low) L31 C31 K31).binds (ps := ["_law_top", "_law_bottom"]) fun _ _ _ _ _ _ us hl => match us, hl with | [_, _], _ => rfl, a__law_ratio := f32, fd__law_ratio := _, F__law_ratio := fun_mk (st := s__law_ratio) L32 C32 K32, m__law_ratio := PySem.W.mg_of X G A32, b__law_ratio := (fun_mk (st := s__law_ratio) L32 C32 K32).binds (ps := ["_law_left"]) fun _ _ _ _ _ _ us hl => match us, hl with | [_], _ => rfl, a__law_same := f33, fd__law_same := _, F__law_same := fun_mk (st := s__law_same) L33 C33 K33, m__law_same := PySem.W.mg_of X G A33, b__law_same := (fun_mk (st := s__law_same) L33 C33 K33).binds (ps := ["_law_found", "_law_due"]) fun _ _ _ _ _ _ us hl => match us, hl with | [_, _], _ => rfl, a__law_whole := f34, fd__law_whole := _, F__law_whole := fun_mk (st := s__law_whole) L34 C34 K34, m__law_whole := PySem.W.mg_of X G A34, b__law_whole := (fun_mk (st := s__law_whole) L34 C34 K34).binds (ps := ["_law_found"]) fun _ _ _ _ _ _ us hl => match us, hl with | [_], _ => rfl, a__law_leaves := f35, fd__law_leaves := _, F__law_leaves := fun_mk (st := s__law_leaves) L35 C35 K35, m__law_leaves := PySem.W.mg_of X G A35, b__law_leaves := (fun_mk (st := s__law_leaves) L35 C35 K35).binds (ps := ["_law_store", "_law_some", "_law_state_here"]) fun _ _ _ _ _ _ us hl => match us, hl with | [_, _, _], _ => rfl, a__law_forked := f36, fd__law_forked := _, F__law_forked := fun_mk (st := s__law_forked) L36 C36 K36, m__law_forked := PySem.W.mg_of X G A36, b__law_forked := (fun_mk (st := s__law_forked) L36 C36 K36).binds (ps := ["_law_store", "_law_level", "_law_kids"]) fun _ _ _ _ _ _ us hl => match us, hl with | [_, _, _], _ => rfl, a__law_keeps := f37, fd__law_keeps := _, F__law_keeps := fun_mk (st := s__law_keeps) L37 C37 K37, m__law_keeps := PySem.W.mg_of X G A37, b__law_keeps := (fun_mk (st := s__law_keeps) L37 C37 K37).binds (ps := ["_law_left", "_law_store", "_law_boxes_here", "_law_state_here", "_law_some"]) fun _ _ _ _ _ _ us hl => match us, hl with | [_, _, _, _, _], _ => rfl, a_law := fa, fd_law := _, F_law := fun_mk (st := s_law) L38 C38 K38, m_law := PySem.W.mg_of X G A38, b_law := (fun_mk (st := s_law) L38 C38 K38).binds (ps := ["_law_script"]) fun _ _ _ _ _ _ us hl => match us, hl with | [_], _ => rfl, a_Store := g_Store, m_Store := PySem.W.mg_of X G a_Store, cl_Store := ⟨g1_Store, g2_Store, g3_Store, g4_Store⟩, ns_Store := a_Store, n_Store_boxes := n_Store_boxes, n_Store_facts := n_Store_facts, n_Store_numbers := n_Store_numbers, n_abs := PySem.W.mg_none_of X G N_abs, n_all := PySem.W.mg_none_of X G N_all, n_bool := PySem.W.mg_none_of X G N_bool, n_int := PySem.W.mg_none_of X G N_int, n_isinstance := PySem.W.mg_none_of X G N_isinstance, n_len := PySem.W.mg_none_of X G N_len, n_list := PySem.W.mg_none_of X G N_list, n_min := PySem.W.mg_none_of X G N_min, n_range := PySem.W.mg_none_of X G N_range, n_reversed := PySem.W.mg_none_of X G N_reversed, n_str := PySem.W.mg_none_of X G N_str, n_tuple := PySem.W.mg_none_of X G N_tuple }
 exact ⟨_, fun s v => .of_eq rfl, fun base _ _ => ok_law T⟩
theorem walk {l : PySem.W.OpenLaw} {q : Program} {loose : List Str} {XP : (Str → Option Value) → Heap → Prop} {YP : World → Heap → Prop} {d : DefRec} {K : Params → PySem.W.Frag} (hn : l.most = some 63) (hdf : d.params.defaults = [])
  (hY : ∀ (w : World) (h : Heap), YP w h → (K w.params).In h)
  (F : ∀ (w : World) (mg : Str → Option Value) (fa : Addr) (h : Heap), (K w.params).In h → h.Ns mainGlobals mg → mg d.name = some (.ref fa) →
   ∃ fd : FuncData, (∀ (s : Shared) (u : Value), BindsTo s fd ⟨[u], []⟩ [("_law_script", u)]) ∧ ∀ base : Heap, (K w.params).In base → base.Ns mainGlobals mg → FnOk l.prog w (K w.params) mg base (CXE l.prog w) 13 fa fd ["_law_script"] (spLawX (K w.params))) :
  PySem.W.WalkO q loose XP YP l.row.toRowW d [] (fun f vs => PySem.call f vs) :=
 L2.walk_of (n := 63) (k := 13) (x := "_law_script") (CX := fun w => CXE l.prog w) (sp := fun w => spLawX (K w.params)) hn (by decide) hdf ⟨rfl, by decide, by decide, rfl⟩ hY F (fun _ _ a ns hl hO hS => ⟨a, ns, rfl, hO, hS, hl, fun _ => rfl⟩) fun _ _ _ _ _ ⟨_, _, _, _, _, z⟩ => z
end Prf
open PySem PySem.W PyProof.Rows
set_option maxRecDepth 100000 in
set_option maxHeartbeats 0 in
theorem PySem.Challenge.cw_lots_k40_leaves_and_forks_holds : PySem.Challenge.rw_lots_k40_leaves_and_forks.Holds := by
 w_on; o_law; k_head; (case hw => w_witness2)
 k_fill
 refine Prf.walk (l := PySem.Challenge.rw_lots_k40_leaves_and_forks) rfl rfl (fun w h Y => PySem.W.kIn_of Y) ?F
 case F =>
  intro w mg fa h KX G hmg
  refine' Prf.all_mk KX G hmg ?a_Store ?A0 ?L0 ?C0 ?K0 ?A1 ?I1 ?L1 ?C1 ?K1 ?A2 ?I2 ?L2 ?C2 ?K2 ?A3 ?I3 ?L3 ?C3 ?K3 ?A4 ?I4 ?L4 ?C4 ?K4 ?A5 ?I5 ?L5 ?C5 ?K5 ?A6 ?I6 ?L6 ?C6 ?K6 ?A7 ?I7 ?L7 ?C7 ?K7 ?A8 ?I8 ?L8 ?C8 ?K8 ?A9 ?I9 ?L9 ?C9 ?K9 ?A10 ?I10 ?L10 ?C10 ?K10 ?A11 ?I11 ?L11 ?C11 ?K11 ?A12 ?I12 ?L12 ?C12 ?K12 ?A13 ?I13 ?L13 ?C13 ?K13 ?A14 ?I14 ?L14 ?C14 ?K14 ?A15 ?I15 ?L15 ?C15 ?K15 ?A16 ?I16 ?L16 ?C16 ?K16 ?A17 ?I17 ?L17 ?C17 ?K17 ?A18 ?I18 ?L18 ?C18 ?K18 ?A19 ?I19 ?L19 ?C19 ?K19 ?A20 ?I20 ?L20 ?C20 ?K20 ?A21 ?I21 ?L21 ?C21 ?K21 ?A22 ?I22 ?L22 ?C22 ?K22 ?A23 ?I23 ?L23 ?C23 ?K23 ?A24 ?I24 ?L24 ?C24 ?K24 ?A25 ?I25 ?L25 ?C25 ?K25 ?A26 ?L26 ?C26 ?K26 ?A27 ?L27 ?C27 ?K27 ?A28 ?L28 ?C28 ?K28 ?A29 ?L29 ?C29 ?K29 ?A30 ?L30 ?C30 ?K30 ?A31 ?L31 ?C31 ?K31 ?A32 ?L32 ?C32 ?K32 ?A33 ?L33 ?C33 ?K33 ?A34 ?L34 ?C34 ?K34 ?A35 ?L35 ?C35 ?K35 ?A36 ?L36 ?C36 ?K36 ?A37 ?L37 ?C37 ?K37 ?A38 ?L38 ?C38 ?K38 ?g1_Store ?g2_Store ?g3_Store ?g4_Store ?k_Store ?p_Store ?n_Store_boxes ?n_Store_facts ?n_Store_numbers ?N_abs ?N_all ?N_bool ?N_int ?N_isinstance ?N_len ?N_list ?N_min ?N_range ?N_reversed ?N_str ?N_tuple
  (case a_Store => k_is); (case A0 => k_is); (case L0 => k_is); (case C0 => k_is); (case K0 => k_is); (case A1 => k_is)
  (case I1 => k_is); (case L1 => k_is); (case C1 => k_is); (case K1 => k_is); (case A2 => k_is); (case I2 => k_is)
  (case L2 => k_is); (case C2 => k_is); (case K2 => k_is); (case A3 => k_is); (case I3 => k_is); (case L3 => k_is)
  (case C3 => k_is); (case K3 => k_is); (case A4 => k_is); (case I4 => k_is); (case L4 => k_is); (case C4 => k_is)
  (case K4 => k_is); (case A5 => k_is); (case I5 => k_is); (case L5 => k_is); (case C5 => k_is); (case K5 => k_is)
  (case A6 => k_is); (case I6 => k_is); (case L6 => k_is); (case C6 => k_is); (case K6 => k_is); (case A7 => k_is)
  (case I7 => k_is); (case L7 => k_is); (case C7 => k_is); (case K7 => k_is); (case A8 => k_is); (case I8 => k_is)
  (case L8 => k_is); (case C8 => k_is); (case K8 => k_is); (case A9 => k_is); (case I9 => k_is); (case L9 => k_is)
  (case C9 => k_is); (case K9 => k_is); (case A10 => k_is); (case I10 => k_is); (case L10 => k_is); (case C10 => k_is)
  (case K10 => k_is); (case A11 => k_is); (case I11 => k_is); (case L11 => k_is); (case C11 => k_is); (case K11 => k_is)
  (case A12 => k_is); (case I12 => k_is); (case L12 => k_is); (case C12 => k_is); (case K12 => k_is); (case A13 => k_is)
  (case I13 => k_is); (case L13 => k_is); (case C13 => k_is); (case K13 => k_is); (case A14 => k_is); (case I14 => k_is)
  (case L14 => k_is); (case C14 => k_is); (case K14 => k_is); (case A15 => k_is); (case I15 => k_is); (case L15 => k_is)
  (case C15 => k_is); (case K15 => k_is); (case A16 => k_is); (case I16 => k_is); (case L16 => k_is); (case C16 => k_is)
  (case K16 => k_is); (case A17 => k_is); (case I17 => k_is); (case L17 => k_is); (case C17 => k_is); (case K17 => k_is)
  (case A18 => k_is); (case I18 => k_is); (case L18 => k_is); (case C18 => k_is); (case K18 => k_is); (case A19 => k_is)
  (case I19 => k_is); (case L19 => k_is); (case C19 => k_is); (case K19 => k_is); (case A20 => k_is); (case I20 => k_is)
  (case L20 => k_is); (case C20 => k_is); (case K20 => k_is); (case A21 => k_is); (case I21 => k_is); (case L21 => k_is)
  (case C21 => k_is); (case K21 => k_is); (case A22 => k_is); (case I22 => k_is); (case L22 => k_is); (case C22 => k_is)
  (case K22 => k_is); (case A23 => k_is); (case I23 => k_is); (case L23 => k_is); (case C23 => k_is); (case K23 => k_is)
  (case A24 => k_is); (case I24 => k_is); (case L24 => k_is); (case C24 => k_is); (case K24 => k_is); (case A25 => k_is)
  (case I25 => k_is); (case L25 => k_is); (case C25 => k_is); (case K25 => k_is); (case A26 => k_is); (case L26 => k_is)
  (case C26 => k_is); (case K26 => k_is); (case A27 => k_is); (case L27 => k_is); (case C27 => k_is); (case K27 => k_is)
  (case A28 => k_is); (case L28 => k_is); (case C28 => k_is); (case K28 => k_is); (case A29 => k_is); (case L29 => k_is)
  (case C29 => k_is); (case K29 => k_is); (case A30 => k_is); (case L30 => k_is); (case C30 => k_is); (case K30 => k_is)
  (case A31 => k_is); (case L31 => k_is); (case C31 => k_is); (case K31 => k_is); (case A32 => k_is); (case L32 => k_is)
  (case C32 => k_is); (case K32 => k_is); (case A33 => k_is); (case L33 => k_is); (case C33 => k_is); (case K33 => k_is)
  (case A34 => k_is); (case L34 => k_is); (case C34 => k_is); (case K34 => k_is); (case A35 => k_is); (case L35 => k_is)
  (case C35 => k_is); (case K35 => k_is); (case A36 => k_is); (case L36 => k_is); (case C36 => k_is); (case K36 => k_is)
  (case A37 => k_is); (case L37 => k_is); (case C37 => k_is); (case K37 => k_is); (case A38 => k_is); (case L38 => k_is)
  (case C38 => k_is); (case K38 => k_is); (case g1_Store => k_is); (case g2_Store => k_is); (case g3_Store => k_is); (case g4_Store => k_is)
  (case k_Store => k_is); (case p_Store => k_is); (case n_Store_boxes => k_is); (case n_Store_facts => k_is); (case n_Store_numbers => k_is); (case N_abs => k_is)
  (case N_all => k_is); (case N_bool => k_is); (case N_int => k_is); (case N_isinstance => k_is); (case N_len => k_is); (case N_list => k_is)
  (case N_min => k_is); (case N_range => k_is); (case N_reversed => k_is); (case N_str => k_is); (case N_tuple => k_is)
