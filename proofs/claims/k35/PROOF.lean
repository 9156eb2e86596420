import PyProof.Rows.All
import Wide.All
import OpenK.AllK
import Wide.FinOn
import Lean
import PyProof.EqAt
import PyProof.EqKinds
import PyProof.TupleCall
import PySem.Challenge.RW_lots_k35_trees_refused
set_option Elab.async false
set_option linter.all false
set_option maxRecDepth 100000
namespace PySem.W.Fast
theorem tw10000176548887267575 : True := trivial
theorem tw10013712331172227826 : True := trivial
theorem tw10022652838818062540 : True := trivial
theorem tw10095422350034841123 : True := trivial
theorem tw10099479797605102583 : True := trivial
theorem tw10302164631120848821 : True := trivial
theorem tw10302278609637184064 : True := trivial
theorem tw1036231940203717508 : True := trivial
theorem tw10388272319774038095 : True := trivial
theorem tw10443594794131628927 : True := trivial
theorem tw10470432931211215984 : True := trivial
theorem tw10472420990830892372 : True := trivial
theorem tw10523522025811229683 : True := trivial
theorem tw10600546962464400107 : True := trivial
theorem tw10672778544158374162 : True := trivial
theorem tw10717301449320459888 : True := trivial
theorem tw10820443704091526008 : True := trivial
theorem tw10900018556617494405 : True := trivial
theorem tw10993602847625212571 : True := trivial
theorem tw11018172972867974754 : True := trivial
theorem tw11104721572636690170 : True := trivial
theorem tw11120824806790555416 : True := trivial
theorem tw11150898491358809429 : True := trivial
theorem tw11158535001907846739 : True := trivial
theorem tw11315184556149908199 : True := trivial
theorem tw11392941180446500745 : True := trivial
theorem tw11457536235614152730 : True := trivial
theorem tw11460694960088436308 : True := trivial
theorem tw11512802312458782912 : True := trivial
theorem tw11776356271035923334 : True := trivial
theorem tw11833614472385842965 : True := trivial
theorem tw11878521691425699528 : True := trivial
theorem tw11950012594669403600 : True := trivial
theorem tw12080764967179605618 : True := trivial
theorem tw12096664449852902694 : True := trivial
theorem tw12179201719248279698 : True := trivial
theorem tw12183678910871033083 : True := trivial
theorem tw12234918865933059202 : True := trivial
theorem tw12301010284278373362 : True := trivial
theorem tw12366423991753212115 : True := trivial
theorem tw12565321700345672221 : True := trivial
theorem tw12573827880378464416 : True := trivial
theorem tw12602864463605112501 : True := trivial
theorem tw12647069994086784579 : True := trivial
theorem tw12695958012196240554 : True := trivial
theorem tw12840767975775101339 : True := trivial
theorem tw12992152638252968203 : True := trivial
theorem tw13126511032946418252 : True := trivial
theorem tw13129929447613163755 : True := trivial
theorem tw13213681122971457052 : True := trivial
theorem tw13239902352323917245 : True := trivial
theorem tw13315412319202469810 : True := trivial
theorem tw13390394878494415671 : True := trivial
theorem tw13433479212362755180 : True := trivial
theorem tw13434829174412354459 : True := trivial
theorem tw13451928414959166194 : True := trivial
theorem tw1351001986210856779 : True := trivial
theorem tw1351535965943718156 : True := trivial
theorem tw13706767464623443904 : True := trivial
theorem tw13770399468630939729 : True := trivial
theorem tw14076412640784709909 : True := trivial
theorem tw14084679590074769085 : True := trivial
theorem tw14096876649366516683 : True := trivial
theorem tw14217506380275303921 : True := trivial
theorem tw14255629554416828124 : True := trivial
theorem tw14263097712010004145 : True := trivial
theorem tw14273034868829273227 : True := trivial
theorem tw14295724686963499665 : True := trivial
theorem tw14323112271266497676 : True := trivial
theorem tw14323617280861994558 : True := trivial
theorem tw14355950412385068714 : True := trivial
theorem tw14455566062952114132 : True := trivial
theorem tw14580227698361377977 : True := trivial
theorem tw1459296374732543168 : True := trivial
theorem tw14603149388429960791 : True := trivial
theorem tw14649741754343330865 : True := trivial
theorem tw14714878224830904329 : True := trivial
theorem tw14753773109112812275 : True := trivial
theorem tw14761185960224345985 : True := trivial
theorem tw1479826070256448604 : True := trivial
theorem tw14912446477317583683 : True := trivial
theorem tw14941154445603198669 : True := trivial
theorem tw14953016986339321819 : True := trivial
theorem tw14988500730475417938 : True := trivial
theorem tw15055991162715799268 : True := trivial
theorem tw15059688426122471491 : True := trivial
theorem tw15100525888779106022 : True := trivial
theorem tw151308485888858281 : True := trivial
theorem tw1524759536431993721 : True := trivial
theorem tw15275126221698225462 : True := trivial
theorem tw15288150034152165070 : True := trivial
theorem tw15289525691747526225 : True := trivial
theorem tw15323209941654674894 : True := trivial
theorem tw15417977995152819045 : True := trivial
theorem tw15439549973552516774 : True := trivial
theorem tw15449534932259223823 : True := trivial
theorem tw15474219049228478184 : True := trivial
theorem tw15535150486996384197 : True := trivial
theorem tw15590105495467069746 : True := trivial
theorem tw1559905559078936847 : True := trivial
theorem tw15685281756020990487 : True := trivial
theorem tw15779350647792229686 : True := trivial
theorem tw15794952977759465759 : True := trivial
theorem tw15836017801046350391 : True := trivial
theorem tw15849114470780336473 : True := trivial
theorem tw15862863320490449593 : True := trivial
theorem tw15863009047558460511 : True := trivial
theorem tw15878672546586751884 : True := trivial
theorem tw15880089821998603957 : True := trivial
theorem tw15885239205956267607 : True := trivial
theorem tw16094059136119792855 : True := trivial
theorem tw16116163870020170090 : True := trivial
theorem tw16129870376297238154 : True := trivial
theorem tw16150442283071708305 : True := trivial
theorem tw16277783785778230669 : True := trivial
theorem tw16320128342672017108 : True := trivial
theorem tw16376984173313024332 : True := trivial
theorem tw16407605023013350854 : True := trivial
theorem tw1649892421488618918 : True := trivial
theorem tw16508371535756104055 : True := trivial
theorem tw16516784560271992615 : True := trivial
theorem tw1651762504766381387 : True := trivial
theorem tw16525456071176131888 : True := trivial
theorem tw16554672536501170734 : True := trivial
theorem tw16689439983598423555 : True := trivial
theorem tw16695853685310925452 : True := trivial
theorem tw16801605173222249808 : True := trivial
theorem tw16811278998959781058 : True := trivial
theorem tw16864563455835781212 : True := trivial
theorem tw16875059312209521003 : True := trivial
theorem tw1695677437235400690 : True := trivial
theorem tw1719601711214728400 : True := trivial
theorem tw17392905780070784544 : True := trivial
theorem tw17470473789050793432 : True := trivial
theorem tw17499663957174511486 : True := trivial
theorem tw17588021811838309930 : True := trivial
theorem tw17653184520545899364 : True := trivial
theorem tw17657879330440186258 : True := trivial
theorem tw17732126167660109844 : True := trivial
theorem tw17744647787820353475 : True := trivial
theorem tw17801111611943276307 : True := trivial
theorem tw17808615473769683607 : True := trivial
theorem tw17850342196181756208 : True := trivial
theorem tw17854448897089402510 : True := trivial
theorem tw18060022318646893435 : True := trivial
theorem tw18113333066186400580 : True := trivial
theorem tw1817612420487185796 : True := trivial
theorem tw1818092729980323992 : True := trivial
theorem tw18186754010413273769 : True := trivial
theorem tw18239205190843623468 : True := trivial
theorem tw18269683922024641372 : True := trivial
theorem tw18342751572732093994 : True := trivial
theorem tw18377127907723739916 : True := trivial
theorem tw18386429063125233513 : True := trivial
theorem tw18394190075610639064 : True := trivial
theorem tw1900003155622531399 : True := trivial
theorem tw1947713891352846012 : True := trivial
theorem tw1985284230368093458 : True := trivial
theorem tw2003690146174897232 : True := trivial
theorem tw2088760131751525578 : True := trivial
theorem tw2096143293906066536 : True := trivial
theorem tw2128547045208388205 : True := trivial
theorem tw2181926007072965853 : True := trivial
theorem tw2379340530266193606 : True := trivial
theorem tw2412360859363305722 : True := trivial
theorem tw2438836819435744652 : True := trivial
theorem tw2448425542292393972 : True := trivial
theorem tw249197298080298643 : True := trivial
theorem tw2680759425008128545 : True := trivial
theorem tw2747245567234303811 : True := trivial
theorem tw2943557934282696409 : True := trivial
theorem tw3030537658979099266 : True := trivial
theorem tw3077197749813915279 : True := trivial
theorem tw3196460292263829744 : True := trivial
theorem tw319726482355504336 : True := trivial
theorem tw321900610627489358 : True := trivial
theorem tw323315777087486386 : True := trivial
theorem tw3236895188291302762 : True := trivial
theorem tw3244812280101760240 : True := trivial
theorem tw3314963057255952186 : True := trivial
theorem tw3445100907820683417 : True := trivial
theorem tw3517875131352570641 : True := trivial
theorem tw3548519970491108130 : True := trivial
theorem tw3599032778428284127 : True := trivial
theorem tw3683407531077962057 : True := trivial
theorem tw3774297066303588707 : True := trivial
theorem tw382515064308682593 : True := trivial
theorem tw3871399412577883210 : True := trivial
theorem tw3873534879819394714 : True := trivial
theorem tw3930179367342672834 : True := trivial
theorem tw4000860671755498930 : True := trivial
theorem tw4069126926244525318 : True := trivial
theorem tw4092935691889539254 : True := trivial
theorem tw4143966527060699162 : True := trivial
theorem tw4250683517862249805 : True := trivial
theorem tw4300541696446921888 : True := trivial
theorem tw4391653914559551761 : True := trivial
theorem tw4479730049803857275 : True := trivial
theorem tw4526231563292907819 : True := trivial
theorem tw4545417041939530524 : True := trivial
theorem tw4600541419194926563 : True := trivial
theorem tw4605382612297516280 : True := trivial
theorem tw4616520636093806373 : True := trivial
theorem tw4654607869764049553 : True := trivial
theorem tw4664343848939060340 : True := trivial
theorem tw4686032509578101583 : True := trivial
theorem tw4719422615640124908 : True := trivial
theorem tw4724902860598964282 : True := trivial
theorem tw4786381551223141253 : True := trivial
theorem tw4914603017972658973 : True := trivial
theorem tw4967003663614902347 : True := trivial
theorem tw4980302115032631291 : True := trivial
theorem tw5016056298243659659 : True := trivial
theorem tw5191491605367706702 : True := trivial
theorem tw5208423367354739940 : True := trivial
theorem tw5217442303251604530 : True := trivial
theorem tw5282924937530792551 : True := trivial
theorem tw528717339082139185 : True := trivial
theorem tw5354779126463557467 : True := trivial
theorem tw5407920054424475894 : True := trivial
theorem tw5430268684334791922 : True := trivial
theorem tw5449824427522325191 : True := trivial
theorem tw546593092583019664 : True := trivial
theorem tw5510129207308982092 : True := trivial
theorem tw5555442238661637338 : True := trivial
theorem tw5571686991506995879 : True := trivial
theorem tw5584069351277211717 : True := trivial
theorem tw5607808421541548216 : True := trivial
theorem tw5698371693887196396 : True := trivial
theorem tw5732815062303732570 : True := trivial
theorem tw5819817475622228813 : True := trivial
theorem tw5870519781775260393 : True := trivial
theorem tw5887693790548867743 : True := trivial
theorem tw5890897182094306249 : True := trivial
theorem tw6034061860958474444 : True := trivial
theorem tw6072217659832944937 : True := trivial
theorem tw6086559753402470141 : True := trivial
theorem tw6115308980695877756 : True := trivial
theorem tw614587338099989138 : True := trivial
theorem tw6328458540315570157 : True := trivial
theorem tw6345977928585856945 : True := trivial
theorem tw6348744665530395190 : True := trivial
theorem tw6351197647167443727 : True := trivial
theorem tw6462470471322646723 : True := trivial
theorem tw651142990076860052 : True := trivial
theorem tw6559565455740044513 : True := trivial
theorem tw6659871061816022679 : True := trivial
theorem tw6665069013275682759 : True := trivial
theorem tw6738939427082218618 : True := trivial
theorem tw6841679317789089528 : True := trivial
theorem tw6914378188448573891 : True := trivial
theorem tw6929523401584785600 : True := trivial
theorem tw7002062903804750381 : True := trivial
theorem tw7119457772464279103 : True := trivial
theorem tw7122054508325830362 : True := trivial
theorem tw7135300193475651464 : True := trivial
theorem tw7138514550329749382 : True := trivial
theorem tw7152877003748437734 : True := trivial
theorem tw7171508024059459833 : True := trivial
theorem tw7422004609036968749 : True := trivial
theorem tw745219863921575554 : True := trivial
theorem tw747245590559338244 : True := trivial
theorem tw7502086061007300315 : True := trivial
theorem tw7543254553965655392 : True := trivial
theorem tw762344371310088137 : True := trivial
theorem tw7628018960785880987 : True := trivial
theorem tw7679522496466469949 : True := trivial
theorem tw7764906914024865959 : True := trivial
theorem tw7832574956661914684 : True := trivial
theorem tw7958179346995020867 : True := trivial
theorem tw7977214374510428516 : True := trivial
theorem tw8005817524870081228 : True := trivial
theorem tw8009560974105792705 : True := trivial
theorem tw8040323709231984598 : True := trivial
theorem tw8079865444791574439 : True := trivial
theorem tw8091726973611458672 : True := trivial
theorem tw8103438668446516878 : True := trivial
theorem tw8122336443827313700 : True := trivial
theorem tw8168376914301830194 : True := trivial
theorem tw8176546812902564933 : True := trivial
theorem tw8194230471266873357 : True := trivial
theorem tw8202061053084531329 : True := trivial
theorem tw8253088249241861811 : True := trivial
theorem tw8341139955278438310 : True := trivial
theorem tw8345464273675023302 : True := trivial
theorem tw8353573698693799919 : True := trivial
theorem tw8397778776710931261 : True := trivial
theorem tw8464418709311016027 : True := trivial
theorem tw8638641654924312411 : True := trivial
theorem tw8668258301071657290 : True := trivial
theorem tw8821395734768395843 : True := trivial
theorem tw8827660252134166179 : True := trivial
theorem tw8881944434693333694 : True := trivial
theorem tw8974744963344446480 : True := trivial
theorem tw899273712687041871 : True := trivial
theorem tw9010678452123657879 : True := trivial
theorem tw9122866302023730344 : True := trivial
theorem tw9180295192011932095 : True := trivial
theorem tw9181500638239407729 : True := trivial
theorem tw9285921583631603442 : True := trivial
theorem tw9334375252911206695 : True := trivial
theorem tw9335903494168023398 : True := trivial
theorem tw9416407305313380300 : True := trivial
theorem tw9596257464291737969 : True := trivial
theorem tw9617411259090014434 : True := trivial
theorem tw9628406431728074241 : True := trivial
theorem tw963543487690530067 : True := trivial
theorem tw969462759360492403 : True := trivial
theorem tw9760432995104539756 : True := trivial
theorem tw9809420800533784870 : True := trivial
theorem tw9842694429681495960 : True := trivial
theorem tw9908391376997446022 : True := trivial
theorem tw9963291945221757665 : True := trivial
end PySem.W.Fast
namespace L2
open PySem PySem.Spec PyProof.Rows

noncomputable abbrev Key := Sum Int Str
noncomputable def keyIs : Key → Value → Bool
 | .inl k, v => Value.isInt k v
 | .inr x, v => Value.isStrOf x v
noncomputable def keyH (w : World) : Key → Int
 | .inl k => hashInt k
 | .inr x => hashStr w x
theorem keyIs_shape : ∀ {k : Key} {v : Value}, keyIs k v = true → (∃ i t, k = Sum.inl i ∧ v = Value.int i t) ∨ (∃ x t, k = Sum.inr x ∧ v = Value.str x t)
 | .inl i, v, h => by
  obtain ⟨t, e⟩ := Value.isInt_shape (k := i) (v := v) h
  exact .inl ⟨i, t, rfl, e⟩
 | .inr x, v, h => by
  obtain ⟨t, e⟩ := Value.isStrOf_shape (x := x) (v := v) h
  exact .inr ⟨x, t, rfl, e⟩
theorem key_ll (a b : Int) : decide ((Sum.inl a : Key) = Sum.inl b) = (a == b) := by
 by_cases e : a = b
 ·subst e; simp
 ·have h : ¬ (Sum.inl a : Key) = Sum.inl b := fun q => e (Sum.inl.inj q)
  rw [decide_eq_false h]
  exact (beq_eq_false_iff_ne.mpr e).symm
theorem key_rr (a b : Str) : decide ((Sum.inr a : Key) = Sum.inr b) = decide (a = b) := by
 by_cases e : a = b
 ·subst e; simp
 ·have h : ¬ (Sum.inr a : Key) = Sum.inr b := fun q => e (Sum.inr.inj q)
  rw [decide_eq_false h, decide_eq_false e]
theorem key_lr (a : Int) (b : Str) : decide ((Sum.inl a : Key) = Sum.inr b) = false := decide_eq_false (fun q => nomatch q)
theorem key_rl (a : Str) (b : Int) : decide ((Sum.inr a : Key) = Sum.inl b) = false := decide_eq_false (fun q => nomatch q)

noncomputable def mixKind (prog : Program) (w : World) : PySem.KeyKind prog w Key where
 is := keyIs
 hash := keyH w
 inj := fun v a b ha hb => by
  rcases keyIs_shape ha with ⟨i, t, rfl, rfl⟩ | ⟨x, t, rfl, rfl⟩
  ·rcases keyIs_shape hb with ⟨j, u, rfl, e⟩ | ⟨y, u, rfl, e⟩
   ·injection e with e1 _; rw [e1]
   ·exact nomatch e
  ·rcases keyIs_shape hb with ⟨j, u, rfl, e⟩ | ⟨y, u, rfl, e⟩
   ·exact nomatch e
   ·injection e with e1 _; rw [e1]
 byValue := fun k v h => by
  rcases keyIs_shape h with ⟨i, t, rfl, rfl⟩ | ⟨x, t, rfl, rfl⟩ <;> rfl
 pyHash := fun hv h => by
  rcases keyIs_shape hv with ⟨i, t, rfl, rfl⟩ | ⟨x, t, rfl, rfl⟩
  ·exact wpAny_pyHash_int h
  ·exact wpAny_pyHash_str h
 eqBool := fun hu hv h => by
  rcases keyIs_shape hu with ⟨i, t, rfl, rfl⟩ | ⟨x, t, rfl, rfl⟩
  ·rcases keyIs_shape hv with ⟨j, u, rfl, rfl⟩ | ⟨y, u, rfl, rfl⟩
   ·rw [key_ll] at h; exact wpAny_eqBool_int h
   ·rw [key_lr] at h; exact SeqAt.EqAt.int_str i t y u _ _ _ _ h
  ·rcases keyIs_shape hv with ⟨j, u, rfl, rfl⟩ | ⟨y, u, rfl, rfl⟩
   ·rw [key_rl] at h; exact SeqAt.EqAt.str_int x t j u _ _ _ _ h
   ·rw [key_rr] at h; exact wpAny_eqBool_str h
 «strs» := fun k x t v h => by
  rcases keyIs_shape h with ⟨i, u, rfl, e⟩ | ⟨y, u, rfl, e⟩
  ·exact nomatch e
  ·injection e with e1 _
   subst e1
   cases v <;> rfl

end L2

namespace L2
open PySem PySem.Spec PyProof.Rows

inductive V where
 | non | bl (b : Bool) | int (i : Int) | str (x : Str) | byt (b : Array UInt8) | flt (b : UInt64) | ref (a : Addr) | ty (n : String)
 deriving DecidableEq

noncomputable def RelV : V → Value → Prop
 | .non, u => u = Value.none
 | .bl b, u => u = Value.bool b
 | .int i, u => ∃ t, u = Value.int i t
 | .str x, u => ∃ t, u = Value.str x t
 | .byt b, u => ∃ t, u = Value.bytes b t
 | .flt b, u => ∃ t, u = Value.float b t
 | .ref a, u => u = Value.ref a
 | .ty n, u => u = Value.type n

noncomputable abbrev Vals : List V → List Value → Prop := Paired RelV
theorem Vals.length {xs : List V} {us : List Value} (r : Vals xs us) : xs.length = us.length := Paired.length r
theorem Vals.get : ∀ {xs : List V} {us : List Value} {i : Nat} {x : V}, Vals xs us → xs[i]? = some x → ∃ u, us[i]? = some u ∧ RelV x u
 | _, _, _, _, .nil, e => by simp at e
 | _, _, 0, _, .cons r _, e => by simp at e; subst e; exact ⟨_, rfl, r⟩
 | _, _, i + 1, x, .cons _ t, e => by
  obtain ⟨u, h1, h2⟩ := Vals.get (i := i) (x := x) t (by simpa using e)
  exact ⟨u, by simpa using h1, h2⟩
theorem Vals.append : ∀ {xs ys : List V} {us ws : List Value}, Vals xs us → Vals ys ws → Vals (xs ++ ys) (us ++ ws)
 | _, _, _, _, .nil, s => s
 | _, _, _, _, .cons r t, s => .cons r (Vals.append t s)
theorem Vals.take : ∀ {xs : List V} {us : List Value} (n : Nat), Vals xs us → Vals (xs.take n) (us.take n)
 | _, _, 0, _ => .nil
 | _, _, _ + 1, .nil => .nil
 | _, _, n + 1, .cons r t => .cons r (Vals.take n t)
theorem Vals.drop : ∀ {xs : List V} {us : List Value} (n : Nat), Vals xs us → Vals (xs.drop n) (us.drop n)
 | _, _, 0, r => r
 | _, _, _ + 1, .nil => .nil
 | _, _, n + 1, .cons _ t => Vals.drop n t

noncomputable def RelO : Option V → Option Value → Prop
 | some v, some u => RelV v u
 | none, none => True
 | _, _ => False
noncomputable def KV {κ : Type} : List (κ × V) → List (κ × Value) → Prop := Paired fun (p : κ × V) (q : κ × Value) => p.1 = q.1 ∧ RelV p.2 q.2

noncomputable def kV : Key → V
 | .inl i => .int i
 | .inr x => .str x

inductive NK where
 | int (i : Int) | str (x : Str) | tup (l : List NK)
noncomputable instance : DecidableEq NK := fun a b => Classical.propDecidable (a = b)
mutual
noncomputable def nhash (w : World) : NK → Int
 | .int i => keyH w (.inl i)
 | .str x => keyH w (.inr x)
 | .tup l => reduceHash (Builtin.Tuple.tupleHashOf (nhashL w l))
noncomputable def nhashL (w : World) : List NK → List Int
 | [] => []
 | k :: r => nhash w k :: nhashL w r
end
mutual
noncomputable def ndep : NK → Nat
 | .int _ => 0
 | .str _ => 0
 | .tup l => ndepL l + 1
noncomputable def ndepL : List NK → Nat
 | [] => 0
 | k :: r => max (ndep k) (ndepL r)
end
noncomputable def entryN (w : World) (x : NK × Addr × Value) : DictEntry := { hash := nhash w x.1, key := .ref x.2.1, val := x.2.2 }
inductive HO where
 /-- a list -/
 | lst (xs : List V)
 /-- a tuple (never changes) -/
 | tup (xs : List V)
 /-- a dict whose keys are ints and texts; one whose keys are tuples of ints and texts (the empty one is both) -/
 | dK (kvs : List (Key × V)) | dT (kvs : List (List Key × V))
 /-- a dict whose keys are tuples of any depth: key, where it stands, value -/
 | dN (ks : List (NK × Addr × V))
 /-- a set of ints: its members, its size -/
 | set (S : Int → Bool) (n : Nat)
 /-- an instance of the class at C, its dict at dx, its attributes -/
 | ins (C dx : Addr) (fs : List (Str × V))
 /-- the dict of the instance at x -/
 | own (x : Addr)
 /-- the dict of an exception -/
 | xd (fs : List (Str × V))
 /-- a bound method, f of x -/
 | met (f x : Addr)
 /-- a range object lo, lo + 1, .. below hi -/
 | rng (lo hi : Int)
 /-- a thing that is known to the object (the script; a dict while a loop walks it): read, never written while it is so -/
 | frz (o : Obj) (u : HO)
 /-- a code object's table -/
 | tbl (ps : Array Value)
 /-- any other thing, by what is true of its one object (a def of one's own: SetO a S n := HO.ext fun h => ..) -/
 | ext (φ : Heap → Prop)

noncomputable abbrev Hp := Addr → Option HO
noncomputable def upd (H : Hp) (a : Addr) (o : HO) : Hp := fun b => if b = a then some o else H b
theorem upd_same {H : Hp} {a : Addr} {o : HO} : upd H a o a = some o := by unfold upd; rw [if_pos rfl]
theorem upd_ne {H : Hp} {a b : Addr} {o : HO} (h : b ≠ a) : upd H a o b = H b := by unfold upd; rw [if_neg h]
theorem ne_of_none {H : Hp} {a b : Addr} {o : HO} (h : H a = some o) (h' : H b = none) : a ≠ b := by
 intro e; subst e; rw [h] at h'; cases h'

section
variable (P : Program) (w : World)
noncomputable def ObjOk (H : Hp) (h : Heap) (a : Addr) : HO → Prop
 | .lst xs => xs.length ≤ sizeLine ∧ ∃ (its : List Value) (n : Nat), Vals xs its ∧ h.get? a = some { cls := .type "list", data := .seq its.toArray n }
 | .tup xs => xs.length ≤ sizeLine ∧ ∃ its : List Value, Vals xs its ∧ IsTup h a its.toArray
 | .dK kvs => kvs.length ≤ sizeLine ∧ (a == sysModules) = false ∧ ∃ vs, KV kvs vs ∧ h.DictOf (mixKind P w) a vs
 | .dT kvs => kvs.length ≤ sizeLine ∧ (a == sysModules) = false ∧ ∃ xs : List (List Key × Addr × Value),
   Paired (fun (p : List Key × V) (q : List Key × Addr × Value) => p.1 = q.1 ∧ H q.2.1 = some (.tup (p.1.map kV)) ∧ RelV p.2 q.2.2) kvs xs ∧
   ∃ o es ep, h.get? a = some o ∧ o.ExactDict ∧ o.data = .dict es ep ∧ es.toList = xs.map (entryOfKey (tupleKind (mixKind P w))) ∧ (xs.map (·.1)).Nodup
 | .dN ks => ks.length ≤ sizeLine ∧ (a == sysModules) = false ∧ ∃ xs : List (NK × Addr × Value), Paired (fun (p : NK × Addr × V) (q : NK × Addr × Value) => p.1 = q.1 ∧ p.2.1 = q.2.1 ∧ RelV p.2.2 q.2.2) ks xs ∧
   ∃ o es ep, h.get? a = some o ∧ o.ExactDict ∧ o.data = .dict es ep ∧ es.toList = xs.map (entryN w) ∧ (xs.map (·.1)).Nodup
 | .set S n => h.SetOf (intKind P w) a S n
 | .ins C dx fs => H dx = some (.own a) ∧ fs.length ≤ 1000 ∧ dx ≠ a ∧ h.get? a = some (PySem.W.instObj C dx) ∧
   ∃ mA, h.Ns1 dx mA ∧ (∀ f, RelO (fs.lookup f) (mA f)) ∧ PySem.Within mA (fs.map (·.1))
 | .own _ => ∃ o, h.get? a = some o
 | .xd fs => ∃ mA, h.Ns1 a mA ∧ ∀ f, RelO (fs.lookup f) (mA f)
 | .rng lo hi => ∃ t u v, h.get? a = some { cls := .type "range", data := .fields #[.int lo t, .int hi u, .int 1 v] }
 | .frz o u => h.get? a = some o ∧ ObjOk H h a u
 | .tbl ps => h.get? a = some { cls := .none, data := .fields ps }
 | .met f x => h.get? a = some (PySem.W.methodObj (.ref f) (.ref x))
 | .ext φ => φ h ∧ (∃ o, h.get? a = some o) ∧ ∀ h1 h2 : Heap, φ h1 → (∀ o, h1.get? a = some o → h2.get? a = some o) → φ h2
noncomputable def HOk (H : Hp) (h : Heap) : Prop := ∀ a o, H a = some o → ObjOk P w H h a o
end

section
variable {P : Program} {w : World} {H H' : Hp} {h h' : Heap} {a : Addr} {o : HO}
theorem ObjOk.lt (x : ObjOk P w H h a o) : a < h.objs.size := by
 cases o with
 | lst xs => obtain ⟨_, _, _, _, e⟩ := x; exact Heap.lt_size e
 | tup xs => obtain ⟨_, _, _, p⟩ := x; exact p.lt
 | dK kvs => obtain ⟨_, _, _, _, o, _, _, e, _⟩ := x; exact Heap.lt_size e
 | dT kvs => obtain ⟨_, _, _, _, o, _, _, e, _⟩ := x; exact Heap.lt_size e
 | dN ks => obtain ⟨_, _, _, _, o, _, _, e, _⟩ := x; exact Heap.lt_size e
 | set S n => obtain ⟨o, _, _, _, e, _⟩ := x; exact Heap.lt_size e
 | ins C dx fs => obtain ⟨_, _, _, e, _⟩ := x; exact Heap.lt_size e
 | own y => obtain ⟨_, e⟩ := x; exact Heap.lt_size e
 | xd fs => obtain ⟨_, ⟨_, _, _, e, _⟩, _⟩ := x; exact Heap.lt_size e
 | rng lo hi => obtain ⟨_, _, _, e⟩ := x; exact Heap.lt_size e
 | frz ob u => obtain ⟨e, _⟩ := x; exact Heap.lt_size e
 | tbl ps => exact Heap.lt_size (show h.get? a = some _ from x)
 | met f y => exact Heap.lt_size (show h.get? a = some _ from x)
 | ext φ => obtain ⟨_, ⟨_, e⟩, _⟩ := x; exact Heap.lt_size e
theorem Paired.mapP {α β : Type} {F G : α → β → Prop} : ∀ {l₁ : List α} {l₂ : List β}, Paired F l₁ l₂ → (∀ a b, F a b → G a b) → Paired G l₁ l₂
 | _, _, .nil, _ => .nil
 | _, _, .cons r t, f => .cons (f _ _ r) (Paired.mapP t f)
theorem ObjOk.stay (x : ObjOk P w H h a o) (k : ∀ b u, (b = a ∨ H b = some (.own a)) → h.get? b = some u → h'.get? b = some u)
  (ho : ∀ b, H b = some (.own a) → H' b = some (.own a)) (ht : ∀ b xs, H b = some (.tup xs) → H' b = some (.tup xs)) : ObjOk P w H' h' a o := by
 induction o with
 | lst xs => obtain ⟨z, its, n, r, e⟩ := x; exact ⟨z, its, n, r, k _ _ (.inl rfl) e⟩
 | tup xs => obtain ⟨z, its, r, ob, e, c⟩ := x; exact ⟨z, its, r, ob, k _ _ (.inl rfl) e, c⟩
 | dK kvs => obtain ⟨z, y, vs, r, ob, es, ep, e, c⟩ := x; exact ⟨z, y, vs, r, ob, es, ep, k _ _ (.inl rfl) e, c⟩
 | dT kvs =>
  obtain ⟨z, y, xs, r, ob, es, ep, e, c⟩ := x
  exact ⟨z, y, xs, Paired.mapP r fun p q z => ⟨z.1, ht _ _ z.2.1, z.2.2⟩, ob, es, ep, k _ _ (.inl rfl) e, c⟩
 | dN ks => obtain ⟨z, y, xs, r, ob, es, ep, e, c⟩ := x; exact ⟨z, y, xs, r, ob, es, ep, k _ _ (.inl rfl) e, c⟩
 | set S n => obtain ⟨ob, es, ep, t, e, c⟩ := x; exact ⟨ob, es, ep, t, k _ _ (.inl rfl) e, c⟩
 | ins C dx fs =>
  obtain ⟨d, z, ne, e, mA, ⟨od, es, ep, e2, c⟩, r⟩ := x
  exact ⟨ho _ d, z, ne, k _ _ (.inl rfl) e, mA, ⟨od, es, ep, k _ _ (.inr d) e2, c⟩, r⟩
 | own y => obtain ⟨ob, e⟩ := x; exact ⟨ob, k _ _ (.inl rfl) e⟩
 | xd fs => obtain ⟨mA, ⟨od, es, ep, e, c⟩, r⟩ := x; exact ⟨mA, ⟨od, es, ep, k _ _ (.inl rfl) e, c⟩, r⟩
 | rng lo hi => obtain ⟨t, u, v, e⟩ := x; exact ⟨t, u, v, k _ _ (.inl rfl) e⟩
 | frz ob u ih => obtain ⟨e, q⟩ := x; exact ⟨k _ _ (.inl rfl) e, ih q⟩
 | tbl ps =>
  have e : h.get? a = some { cls := .none, data := .fields ps } := x
  show h'.get? a = some { cls := .none, data := .fields ps }
  exact k a _ (.inl rfl) e
 | met f y =>
  have e : h.get? a = some (PySem.W.methodObj (.ref f) (.ref y)) := x
  show h'.get? a = some (PySem.W.methodObj (.ref f) (.ref y))
  exact k a _ (.inl rfl) e
 | ext φ => obtain ⟨p, ⟨o, e⟩, st⟩ := x; exact ⟨st _ _ p fun o q => k _ _ (.inl rfl) q, ⟨o, k _ _ (.inl rfl) e⟩, st⟩
theorem HOk.lt (x : HOk P w H h) (e : H a = some o) : a < h.objs.size := (x a o e).lt
theorem HOk.fresh (x : HOk P w H h) (e : h.objs.size ≤ a) : H a = none := by
 cases q : H a with
 | none => rfl
 | some u => exact absurd (Nat.lt_of_lt_of_le (x.lt q) e) (Nat.lt_irrefl _)
theorem HOk.kept (x : HOk P w H h) (k : ∀ b u, h.get? b = some u → h'.get? b = some u) : HOk P w H h' := fun a o e =>
 (x a o e).stay (fun b u _ q => k b u q) (fun _ q => q) fun _ _ q => q
theorem HOk.laid (x : HOk P w H h) (k : ∀ b u, h.get? b = some u → h'.get? b = some u) (hp : h.objs.size ≤ a) (new : ObjOk P w (upd H a o) h' a o) : HOk P w (upd H a o) h' := fun b u e => by
 have hn := x.fresh hp
 by_cases hb : b = a
 ·subst hb; rw [upd_same] at e; cases e; exact new
 ·rw [upd_ne hb] at e
  exact (x b u e).stay (fun c v _ q => k c v q) (fun c q => by rw [upd_ne (ne_of_none q hn)]; exact q) fun c xs q => by rw [upd_ne (ne_of_none q hn)]; exact q
end

noncomputable def Rd (H : Hp) (a : Addr) (u : HO) : Prop := H a = some u ∨ ∃ o, H a = some (.frz o u)
theorem Rd.ok {P : Program} {w : World} {H : Hp} {h : Heap} {a : Addr} {u : HO} (r : Rd H a u) (x : HOk P w H h) : ObjOk P w H h a u := by
 rcases r with r | ⟨o, r⟩
 ·exact x a u r
 ·obtain ⟨_, q⟩ := x a _ r
  exact q
noncomputable def Mut : Option HO → Prop
 | some (.lst _) => True
 | some (.dK _) => True
 | some (.dT _) => True
 | some (.dN _) => True
 | some (.set _ _) => True
 | some (.ins _ _ _) => True
 | some (.ext _) => True
 | _ => False
section
variable {P : Program} {w : World} {H : Hp} {h h' : Heap} {x e : Addr} {o' : HO}
theorem HOk.write (ok : HOk P w H h) (mu : Mut (H x)) (he : e = x ∨ H e = some (.own x)) (k : ∀ b u, b ≠ e → h.get? b = some u → h'.get? b = some u) (heo : ∃ u, h'.get? e = some u)
  (new : ObjOk P w (upd H x o') h' x o') : HOk P w (upd H x o') h' := fun b u q => by
 have nown : ∀ c y, H c = some (.own y) → c ≠ x := fun c y r z => by subst z; rw [r] at mu; exact mu
 have ntup : ∀ c xs, H c = some (.tup xs) → c ≠ x := fun c xs r z => by subst z; rw [r] at mu; exact mu
 by_cases hb : b = x
 ·subst hb; rw [upd_same] at q; cases q; exact new
 ·rw [upd_ne hb] at q
  by_cases hbe : b = e
  ·have q' : H b = some (.own x) := by
    rcases he with z | z
    ·exact absurd (hbe.trans z) hb
    ·rw [hbe]; exact z
   rw [q] at q'; cases q'
   obtain ⟨v, hv⟩ := heo
   exact ⟨v, by rw [hbe]; exact hv⟩
  ·refine (ok b u q).stay (fun c v hc r => k c v ?_ r) (fun c r => by rw [upd_ne (nown c b r)]; exact r) fun c xs r => by rw [upd_ne (ntup c xs r)]; exact r
   rcases hc with rfl | hc
   ·exact hbe
   ·rintro rfl
    rcases he with z | z
    ·exact nown c b hc z
    ·rw [hc] at z; cases z; exact hb rfl
end

structure Un (fs ex : List Addr) (H H' : Hp) (h h' : Heap) : Prop where
 keep : ∀ b o, h.get? b = some o → H b = none → b ∉ fs → b ∉ ex → h'.get? b = some o
 slot : ∀ b o, h.get? b = some o → H b = none → b ∈ fs → b ∉ ex → ∃ sl, h'.get? b = some { o with slots := sl }
 free : ∀ b o, h.get? b = some o → H b = none → b ∉ ex → H' b = none
 there : ∀ b o, h.get? b = some o → b ∉ ex → ∃ o', h'.get? b = some o'
 tups : ∀ b xs, H b = some (.tup xs) → H' b = some (.tup xs)
 frzs : ∀ b o u, H b = some (.frz o u) → H' b = some (.frz o u)
 tbls : ∀ b ps, H b = some (.tbl ps) → ∃ more, H' b = some (.tbl (ps ++ more))
section
variable {fs fs' ex ex' : List Addr} {H H1 H2 : Hp} {h h1 h2 h' : Heap} {a x e : Addr} {o : HO}
theorem Un.any (u : Un fs ex H H1 h h1) {b : Addr} {ob : Obj} (q : h.get? b = some ob) (n : H b = none) (hx : b ∉ ex) : ∃ sl, h1.get? b = some { ob with slots := sl } := by
 by_cases hb : b ∈ fs
 ·exact u.slot b ob q n hb hx
 ·exact ⟨ob.slots, u.keep b ob q n hb hx⟩
theorem Un.trans (a : Un fs ex H H1 h h1) (b : Un fs ex H1 H2 h1 h2) : Un fs ex H H2 h h2 where
 keep := fun c ob q n hc hx => b.keep c ob (a.keep c ob q n hc hx) (a.free c ob q n hx) hc hx
 slot := fun c ob q n hc hx => by
  obtain ⟨sl, e1⟩ := a.slot c ob q n hc hx
  obtain ⟨sl', e2⟩ := b.slot c _ e1 (a.free c ob q n hx) hc hx
  exact ⟨sl', e2⟩
 free := fun c ob q n hx => by
  obtain ⟨o', e1⟩ := a.there c ob q hx
  exact b.free c o' e1 (a.free c ob q n hx) hx
 there := fun c ob q hx => by
  obtain ⟨o', e1⟩ := a.there c ob q hx
  exact b.there c o' e1 hx
 tups := fun c xs q => b.tups c xs (a.tups c xs q)
 frzs := fun c ob xs q => b.frzs c ob xs (a.frzs c ob xs q)
 tbls := fun c ps q => by
  obtain ⟨m1, e1⟩ := a.tbls c ps q
  obtain ⟨m2, e2⟩ := b.tbls c _ e1
  exact ⟨m1 ++ m2, by rw [e2, Array.append_assoc]⟩
theorem Un.kept (k : ∀ b u, h.get? b = some u → h'.get? b = some u) : Un fs ex H H h h' :=
 ⟨fun b ob q _ _ _ => k b ob q, fun b ob q _ _ _ => ⟨ob.slots, k b ob q⟩, fun _ _ _ n _ => n, fun b ob q _ => ⟨ob, k b ob q⟩, fun _ _ q => q, fun _ _ _ q => q, fun _ ps q => ⟨#[], by rw [q]; simp⟩⟩
theorem Un.refl : Un fs ex H H h h := Un.kept fun _ _ q => q
theorem Un.laid (k : ∀ b u, h.get? b = some u → h'.get? b = some u) (hp : h.objs.size ≤ a) (hn : H a = none) : Un fs ex H (upd H a o) h h' where
 keep := fun b u q _ _ _ => k b u q
 slot := fun b u q _ _ _ => ⟨u.slots, k b u q⟩
 free := fun b u q n _ => by rw [upd_ne (Nat.ne_of_lt (Nat.lt_of_lt_of_le (Heap.lt_size q) hp))]; exact n
 there := fun b u q _ => ⟨u, k b u q⟩
 tups := fun b xs q => by rw [upd_ne (ne_of_none q hn)]; exact q
 frzs := fun b u xs q => by rw [upd_ne (ne_of_none q hn)]; exact q
 tbls := fun b ps q => ⟨#[], by rw [upd_ne (ne_of_none q hn), q]; simp⟩
theorem Un.write (mu : Mut (H x)) (he : e = x ∨ H e = some (.own x)) (k : ∀ b u, b ≠ e → h.get? b = some u → h'.get? b = some u) (heo : ∃ u, h'.get? e = some u) : Un fs ex H (upd H x o) h h' := by
 have hx : ∀ b, H b = none → b ≠ x := fun b n z => by subst z; rw [n] at mu; exact mu
 have hb : ∀ b, H b = none → b ≠ e := fun b n z => by
  subst z
  rcases he with r | r
  ·exact hx b n r
  ·rw [n] at r; cases r
 have hm : ∀ b u, H b = some u → ¬ Mut (some u) → b ≠ x := fun b u q nm z => by subst z; rw [q] at mu; exact nm mu
 refine ⟨fun b u q n _ _ => k b u (hb b n) q, fun b u q n _ _ => ⟨u.slots, k b u (hb b n) q⟩, fun b u q n _ => by rw [upd_ne (hx b n)]; exact n, fun b u q _ => ?_,
  fun b xs q => by rw [upd_ne (hm b _ q fun z => z)]; exact q, fun b u xs q => by rw [upd_ne (hm b _ q fun z => z)]; exact q, fun b ps q => ⟨#[], by rw [upd_ne (hm b _ q fun z => z), q]; simp⟩⟩
 by_cases hbe : b = e
 ·subst hbe; exact heo
 ·exact ⟨u, k b u hbe q⟩
end

noncomputable def trk (h : Heap) (H : Hp) : List Addr := (List.range h.objs.size).filter fun a => (H a).isSome
noncomputable def hidT (h : Heap) (H : Hp) : Heap := PySem.W.hideAll h (trk h H)
theorem hidT_size (h : Heap) (H : Hp) : (hidT h H).objs.size = h.objs.size := PySem.W.hideAll_size _ _
theorem hidT_get {h : Heap} {H : Hp} {b : Addr} {o : Obj} (e : h.get? b = some o) (n : H b = none) : (hidT h H).get? b = some o :=
 PySem.W.hideAll_get _ e fun hm => by
  have q : (H b).isSome = true := (List.mem_filter.mp hm).2
  rw [n] at q; simp at q
theorem of_hidT {h : Heap} {H : Hp} {b : Addr} {o : Obj} (e : (hidT h H).get? b = some o) : h.get? b = some o ∧ H b = none := by
 have e' : h.get? b = some o := PySem.W.of_hideAll (trk h H) e
 refine ⟨e', ?_⟩
 cases q : H b with
 | none => rfl
 | some x =>
  have hm : b ∈ trk h H := List.mem_filter.mpr ⟨List.mem_range.mpr (Heap.lt_size e'), by simp [q]⟩
  have z : (hidT h H).get? b = none := PySem.W.hideAll_none (trk h H) hm
  rw [z] at e; cases e

end L2

namespace L2
open PySem PySem.Spec PyProof.Rows

structure Mod (K : PySem.W.Frag) (mg : Str → Option Value) (base : Heap) : Prop where
 kin : K.In base
 glob : base.Ns mainGlobals mg
 blt : ∃ mb, base.Ns builtinsNs mb ∧ ∀ x : Str, x ≠ "__name__" → mb x = bootBuiltins x
 nolimit : base.NoLimit

/-- the context: a def's body (or a comprehension's block) running. base: fixed through the whole law; s₀, H₀: the entry; outer: the frames whose slots others may change (a def's callers); stack: all frames that run;
   ex: iterators that were made ahead of the entry and are walked here (a comprehension's); fn: the names whose cells were made at the entry (a def: all; a comprehension's block: its own); calm: not within an except suite; pn: pins that every state bears; xe: what is wanted of an exception that leaves the code -/
structure Cx where
 prog : Program
 w : World
 K : PySem.W.Frag
 mg : Str → Option Value
 base : Heap
 A : Around
 N : List Str
 s₀ : Shared
 H₀ : Hp
 env : Env
 outer : List Env
 stack : List Env
 ex : List Addr
 fn : Str → Bool
 calm : Bool
 pn : List (Addr × Obj)
 xe : Value → Shared → Prop
noncomputable def frs (l : List Env) : List Addr := l.filterMap (·.frame)
noncomputable abbrev Cx.fs (X : Cx) : List Addr := frs X.outer

noncomputable def Vis (sc : Scope) (x : Str) : Prop := sc.names.lookup x = some .local ∨ sc.names.lookup x = some .cell ∨ sc.names.lookup x = some .free
noncomputable def Loc (sc : Scope) (x : Str) : Prop := sc.names.lookup x = some .local ∨ sc.names.lookup x = some .cell
noncomputable def Look (env : Env) (h : Heap) (m : Str → Option Value) (x : Str) (u : Value) : Prop :=
 (env.kindOf x = some .local ∧ m x = some u) ∨ ((env.kindOf x = some .cell ∨ env.kindOf x = some .free) ∧ ∃ c, env.cells.lookup x = some c ∧ h.IsCell c (some u))

structure Cx.Ok (X : Cx) : Prop where
 mod : Mod X.K X.mg X.base
 kind : X.env.scope.kind = .function
 glob : X.env.globals = mainGlobals
 blt : X.env.builtins = builtinsNs
 above : X.s₀.heap.objs.size ≤ X.env.locals
 inj : ∀ x y c, X.env.cells.lookup x = some c → X.env.cells.lookup y = some c → x = y
 has : ∀ x, (X.env.kindOf x = some .cell ∨ X.env.kindOf x = some .free) → ∃ c, X.env.cells.lookup x = some c
 cab : ∀ x c, X.fn x = true → X.env.cells.lookup x = some c → X.s₀.heap.objs.size ≤ c
 hd : X.calm = true → X.A.handled = none
 frames : X.A.frames = some X.stack
 stk : X.stack = X.outer ∨ (X.stack = X.env :: X.outer ∧ X.env.frame = some X.env.locals)
 exf : ∀ b ∈ X.ex, b ≠ X.env.locals ∧ ∀ x c, X.env.cells.lookup x = some c → c ≠ b
 bs : ∀ b o, X.base.get? b = some o → X.s₀.heap.get? b = some o ∧ X.H₀ b = none
 bsz : X.base.objs.size ≤ X.s₀.heap.objs.size
 noex : ∀ b o, X.base.get? b = some o → b ∉ X.ex
 exfs : ∀ b ∈ X.ex, b ∉ X.fs
 funs : X.s₀.heap.FunFrames X.base X.outer
 frf : ∀ b ∈ X.fs, X.H₀ b = none

structure Inv (X : Cx) (pins : List (Addr × Obj)) (σ : List (Option V)) (H : Hp) (s : Shared) : Prop where
 ok : X.Ok
 os : s.os = X.s₀.os
 bare : AllBare s.gens
 base : Un X.fs X.ex X.H₀ H X.s₀.heap s.heap
 loc : ∃ m, s.heap.Ns X.env.locals m ∧ ∀ (i : Nat) (x : Str) (v : V), X.N[i]? = some x → σ[i]? = some (some v) → Vis X.env.scope x → ∃ u, RelV v u ∧ Look X.env s.heap m x u
 cell : ∀ x c, X.env.cells.lookup x = some c → ∃ v, s.heap.IsCell c v
 free : H X.env.locals = none
 freeC : ∀ x c, X.env.cells.lookup x = some c → H c = none
 pin : ∀ p ∈ X.pn ++ pins, s.heap.get? p.1 = some p.2 ∧ H p.1 = none ∧ p.1 ≠ X.env.locals ∧ p.1 ∉ X.fs ∧ ∀ v, p.2.data ≠ .cell v
 hok : HOk X.prog X.w H s.heap
 len : σ.length = X.N.length

section
variable {X : Cx} {pins : List (Addr × Obj)} {σ : List (Option V)} {H H' : Hp} {s : Shared} {h' : Heap}

theorem Cx.Ok.nofr (ok : X.Ok) {b : Addr} {o : Obj} (e : X.base.get? b = some o) : b ∉ X.fs := fun hb => by
 have := (ok.funs.mem hb).1
 rw [e] at this; cases this
theorem Inv.bs (I : Inv X pins σ H s) : ∀ b o, X.base.get? b = some o → s.heap.get? b = some o ∧ H b = none := fun b o e =>
 ⟨I.base.keep b o (I.ok.bs b o e).1 (I.ok.bs b o e).2 (I.ok.nofr e) (I.ok.noex b o e), I.base.free b o (I.ok.bs b o e).1 (I.ok.bs b o e).2 (I.ok.noex b o e)⟩
theorem Inv.bk (I : Inv X pins σ H s) : ∀ b o, X.base.get? b = some o → s.heap.get? b = some o := fun b o e => (I.bs b o e).1
theorem Inv.mod (I : Inv X pins σ H s) : Mod X.K X.mg X.base := I.ok.mod
theorem Inv.kIn (I : Inv X pins σ H s) : X.K.In s.heap := I.ok.mod.kin.keeps I.bk
theorem Inv.lt (I : Inv X pins σ H s) : X.env.locals < s.heap.objs.size := let ⟨_, hn, _⟩ := I.loc; hn.lt
theorem Inv.sz (I : Inv X pins σ H s) : X.s₀.heap.objs.size ≤ s.heap.objs.size := Nat.le_trans I.ok.above (Nat.le_of_lt I.lt)
theorem Inv.nofs (I : Inv X pins σ H s) {a : Addr} (h : s.heap.objs.size ≤ a) : a ∉ X.fs := fun hb => by
 obtain ⟨_, o, ho, _⟩ := I.ok.funs.mem hb
 exact absurd (Nat.lt_of_lt_of_le (Heap.lt_size ho) (Nat.le_trans I.sz h)) (Nat.lt_irrefl _)
theorem Inv.cne (I : Inv X pins σ H s) : ∀ x c, X.env.cells.lookup x = some c → c ≠ X.env.locals := fun x c e z => by
 obtain ⟨v, o, ho, hd⟩ := I.cell x c e
 obtain ⟨m, ⟨o', es, ep, ho', hd', _⟩, _⟩ := I.loc
 rw [z, ho'] at ho; cases ho; rw [hd'] at hd; cases hd
theorem Inv.funs (I : Inv X pins σ H s) : s.heap.FunFrames X.base X.outer := by
 have all : ∀ (l : List Env), (∀ b ∈ frs l, b ∈ X.fs) → X.s₀.heap.FunFrames X.base l → s.heap.FunFrames X.base l := by
  intro l
  induction l with
  | nil => intro _ _; trivial
  | cons env r ih =>
   intro hs hl
   obtain ⟨hk, ⟨L, o, hf, hn, ho, hd⟩, hr⟩ := hl
   have hL : L ∈ X.fs := hs L (by unfold frs; rw [List.filterMap_cons, hf]; exact List.mem_cons_self)
   obtain ⟨sl, e⟩ := I.base.slot L o ho (I.ok.frf L hL) hL fun z => I.ok.exfs L z hL
   exact ⟨hk, ⟨L, _, hf, hn, e, hd⟩, ih (fun b hb => hs b (by unfold frs; rw [List.filterMap_cons, hf]; exact List.mem_cons_of_mem _ hb)) hr⟩
 exact all X.outer (fun _ hb => hb) I.ok.funs

theorem Inv.stack (I : Inv X pins σ H s) : s.heap.FunFrames X.base X.stack := by
 rcases I.ok.stk with e | ⟨e, hf⟩
 ·rw [e]; exact I.funs
 ·rw [e]
  obtain ⟨m, hn, _⟩ := I.loc
  refine .cons (by rw [I.ok.kind]; decide) hf hn ?_ I.funs
  exact Heap.get?_none_of_le (Nat.le_trans I.ok.bsz I.ok.above)
theorem Inv.stkSub (I : Inv X pins σ H s) : ∀ b ∈ frs X.stack, b ∈ X.env.locals :: X.fs := fun b hb => by
 rcases I.ok.stk with e | ⟨e, hf⟩
 ·rw [e] at hb; exact List.mem_cons_of_mem _ hb
 ·rw [e] at hb
  unfold frs at hb
  rw [List.filterMap_cons, hf] at hb
  exact hb
theorem Inv.stkFree (I : Inv X pins σ H s) : ∀ b ∈ frs X.stack, H b = none := fun b hb => by
 rcases List.mem_cons.mp (I.stkSub b hb) with e | hb
 ·rw [e]; exact I.free
 ·obtain ⟨_, o, ho, _⟩ := I.ok.funs.mem hb
  exact I.base.free b o ho (I.ok.frf b hb) fun z => I.ok.exfs b z hb

theorem Inv.step {g' : Array GenState} {t' : Nat} {d' : Drawn} {ch : List Addr} (I : Inv X pins σ H s)
  (hch : ∀ b ∈ ch, (b ∈ X.ex ∨ X.s₀.heap.objs.size ≤ b) ∧ b ≠ X.env.locals ∧ (∀ x c, X.env.cells.lookup x = some c → c ≠ b) ∧ ∀ p ∈ X.pn ++ pins, p.1 ≠ b)
  (keep : ∀ b o, b ≠ X.env.locals → b ∉ X.fs → b ∉ ch → s.heap.get? b = some o → H b = none → h'.get? b = some o)
  (slot : ∀ b o, b ≠ X.env.locals → b ∈ X.fs → b ∉ ch → s.heap.get? b = some o → H b = none → ∃ sl, h'.get? b = some { o with slots := sl }) (free : ∀ b o, b ∉ ch → s.heap.get? b = some o → H b = none → H' b = none)
  (there : ∀ b o, b ∉ ch → s.heap.get? b = some o → ∃ o', h'.get? b = some o')
  (tups : ∀ b xs, H b = some (.tup xs) → H' b = some (.tup xs)) (frzs : ∀ b o u, H b = some (.frz o u) → H' b = some (.frz o u)) (tbls : ∀ b ps, H b = some (.tbl ps) → ∃ more, H' b = some (.tbl (ps ++ more)))
  (ns : ∀ m, s.heap.Ns X.env.locals m → h'.Ns X.env.locals m) (hok : HOk X.prog X.w H' h') (hg : AllBare g') :
  Inv X pins σ H' { s with heap := h', gens := g', drawn := d', toks := t' } := by
 have neL : ∀ b o, X.s₀.heap.get? b = some o → b ≠ X.env.locals := fun b o e => Nat.ne_of_lt (Nat.lt_of_lt_of_le (Heap.lt_size e) I.ok.above)
 have neC : ∀ b o, X.s₀.heap.get? b = some o → b ∉ X.ex → b ∉ ch := fun b o e hx hb => by
  rcases (hch b hb).1 with z | z
  ·exact hx z
  ·exact absurd (Nat.lt_of_lt_of_le (Heap.lt_size e) z) (Nat.lt_irrefl _)
 have cellK : ∀ x c, X.env.cells.lookup x = some c → ∀ v, s.heap.IsCell c v → h'.IsCell c v := fun x c e v ⟨o, ho, hd⟩ => by
  have nch : c ∉ ch := fun z => (hch c z).2.2.1 x c e rfl
  by_cases hc : c ∈ X.fs
  ·obtain ⟨sl, q⟩ := slot c o (I.cne x c e) hc nch ho (I.freeC x c e)
   exact ⟨_, q, hd⟩
  ·exact ⟨o, keep c o (I.cne x c e) hc nch ho (I.freeC x c e), hd⟩
 refine ⟨I.ok, I.os, hg, ⟨fun b o e n hb hx => ?_, fun b o e n hb hx => ?_, fun b o e n hx => ?_, fun b o e hx => ?_, fun b xs e => tups b xs (I.base.tups b xs e), fun b o xs e => frzs b o xs (I.base.frzs b o xs e), fun b ps e => ?_⟩, ?_, fun x c e => ?_, ?_, fun x c e => ?_, fun p hp => ?_, hok, I.len⟩
 ·exact keep b o (neL b o e) hb (neC b o e hx) (I.base.keep b o e n hb hx) (I.base.free b o e n hx)
 ·obtain ⟨sl, e1⟩ := I.base.slot b o e n hb hx
  obtain ⟨sl', e2⟩ := slot b _ (neL b o e) hb (neC b o e hx) e1 (I.base.free b o e n hx)
  exact ⟨sl', e2⟩
 ·obtain ⟨o', e1⟩ := I.base.there b o e hx
  exact free b o' (neC b o e hx) e1 (I.base.free b o e n hx)
 ·obtain ⟨o', e1⟩ := I.base.there b o e hx
  exact there b o' (neC b o e hx) e1
 ·obtain ⟨m1, e1⟩ := I.base.tbls b ps e
  obtain ⟨m2, e2⟩ := tbls b _ e1
  exact ⟨m1 ++ m2, by rw [e2, Array.append_assoc]⟩
 ·obtain ⟨m, hn, hl⟩ := I.loc
  refine ⟨m, ns m hn, fun i x v e1 e2 e3 => ?_⟩
  obtain ⟨u, r, l⟩ := hl i x v e1 e2 e3
  refine ⟨u, r, ?_⟩
  rcases l with l | ⟨k, c, e, z⟩
  ·exact .inl l
  ·exact .inr ⟨k, c, e, cellK x c e _ z⟩
 ·obtain ⟨v, z⟩ := I.cell x c e
  exact ⟨v, cellK x c e v z⟩
 ·obtain ⟨m, ⟨o, _, _, ho, _⟩, _⟩ := I.loc
  exact free _ o (fun z => (hch _ z).2.1 rfl) ho I.free
 ·obtain ⟨v, o, ho, hd⟩ := I.cell x c e
  exact free c o (fun z => (hch c z).2.2.1 x c e rfl) ho (I.freeC x c e)
 ·obtain ⟨e, n, ne, nf, d⟩ := I.pin p hp
  have nch : p.1 ∉ ch := fun z => (hch p.1 z).2.2.2 p hp rfl
  exact ⟨keep p.1 p.2 ne nf nch e n, free p.1 p.2 nch e n, ne, nf, d⟩
theorem Inv.un {t' : Nat} (I : Inv X pins σ H s) (u : Un X.fs [] H H' s.heap h') (hok : HOk X.prog X.w H' h') : Inv X pins σ H' { s with heap := h', toks := t' } := by
 obtain ⟨m, ⟨o, es, ep, ho, r⟩, _⟩ := id I.loc
 obtain ⟨sl, hL⟩ := u.any ho I.free (by simp)
 exact I.step (g' := s.gens) (d' := s.drawn) (ch := []) (fun _ z => nomatch z) (fun b o _ hb _ e n => u.keep b o e n hb (by simp)) (fun b o _ hb _ e n => u.slot b o e n hb (by simp)) (fun b o _ e n => u.free b o e n (by simp)) (fun b o _ e => u.there b o e (by simp)) u.tups u.frzs u.tbls (fun m' hm => by
  obtain ⟨o', es', ep', ho', r'⟩ := hm
  rw [ho] at ho'; cases ho'
  exact ⟨_, es', ep', hL, r'⟩) hok I.bare
theorem Inv.call {g' : Array GenState} {t' : Nat} {d' : Drawn} {ch : List Addr} (I : Inv X pins σ H s) (u : Un (frs X.stack) ch H H' s.heap h') (hok : HOk X.prog X.w H' h') (hg : AllBare g')
  (hch : ∀ b ∈ ch, (b ∈ X.ex ∨ X.s₀.heap.objs.size ≤ b) ∧ b ≠ X.env.locals ∧ (∀ x c, X.env.cells.lookup x = some c → c ≠ b) ∧ ∀ p ∈ X.pn ++ pins, p.1 ≠ b) :
  Inv X pins σ H' { s with heap := h', gens := g', drawn := d', toks := t' } := by
 obtain ⟨m, ⟨o, es, ep, ho, r⟩, _⟩ := id I.loc
 obtain ⟨sl, hL⟩ := u.any ho I.free fun z => (hch _ z).2.1 rfl
 exact I.step (ch := ch) hch (fun b o hL hb hc e n => u.keep b o e n (fun z => (List.mem_cons.mp (I.stkSub b z)).elim hL hb) hc) (fun b o _ _ hc e n => u.any e n hc) (fun b o hc e n => u.free b o e n hc) (fun b o hc e => u.there b o e hc) u.tups u.frzs u.tbls (fun m' hm => by
  obtain ⟨o', es', ep', ho', r'⟩ := hm
  rw [ho] at ho'; cases ho'
  exact ⟨_, es', ep', hL, r'⟩) hok hg
theorem Inv.turned {t' : Nat} {it : Addr} (I : Inv X pins σ H s) (k : ∀ b o, b ≠ it → s.heap.get? b = some o → h'.get? b = some o) (hn : H it = none) (hL : it ≠ X.env.locals)
  (h1 : it ∈ X.ex ∨ X.s₀.heap.objs.size ≤ it) (h2 : ∀ x c, X.env.cells.lookup x = some c → c ≠ it) (h3 : ∀ p ∈ X.pn ++ pins, p.1 ≠ it) : Inv X pins σ H { s with heap := h', toks := t' } := by
 have nit : ∀ b u, H b = some u → b ≠ it := fun b u e z => by rw [z, hn] at e; cases e
 refine I.step (g' := s.gens) (d' := s.drawn) (ch := [it]) (fun b hb => ?_) (fun b o _ _ hc e _ => k b o (fun z => hc (by simp [z])) e) (fun b o _ _ hc e _ => ⟨o.slots, k b o (fun z => hc (by simp [z])) e⟩) (fun _ _ _ _ n => n)
  (fun b o hc e => ⟨o, k b o (fun z => hc (by simp [z])) e⟩) (fun _ _ e => e) (fun _ _ _ e => e) (fun b ps e => ⟨#[], by rw [e]; simp⟩) (fun m hm => ?_) (fun b u e => ?_) I.bare
 ·have e : b = it := by simpa using hb
  subst e
  exact ⟨h1, hL, h2, h3⟩
 ·obtain ⟨o, es, ep, ho, r⟩ := hm
  exact ⟨o, es, ep, k _ o (Ne.symm hL) ho, r⟩
 ·refine (I.hok b u e).stay (fun c v hc q => k c v ?_ q) (fun _ q => q) fun _ _ q => q
  rcases hc with z | z
  ·rw [z]; exact nit b u e
  ·exact nit c _ z
theorem Inv.tok (I : Inv X pins σ H s) (t : Nat) : Inv X pins σ H { s with toks := t } := I.un (h' := s.heap) (t' := t) Un.refl I.hok
theorem Inv.kept {t' : Nat} (I : Inv X pins σ H s) (k : ∀ b u, s.heap.get? b = some u → h'.get? b = some u) : Inv X pins σ H { s with heap := h', toks := t' } := I.un (Un.kept k) (I.hok.kept k)
theorem Inv.laid {a : Addr} {o : HO} {t' : Nat} (I : Inv X pins σ H s) (k : ∀ b u, s.heap.get? b = some u → h'.get? b = some u) (hp : s.heap.objs.size ≤ a) (new : ObjOk X.prog X.w (upd H a o) h' a o) :
  Inv X pins σ (upd H a o) { s with heap := h', toks := t' } := I.un (Un.laid k hp (I.hok.fresh hp)) (I.hok.laid k hp new)
theorem Inv.write {x e : Addr} {o : HO} {t' : Nat} (I : Inv X pins σ H s) (mu : Mut (H x)) (he : e = x ∨ H e = some (.own x)) (k : ∀ b u, b ≠ e → s.heap.get? b = some u → h'.get? b = some u) (heo : ∃ u, h'.get? e = some u)
  (new : ObjOk X.prog X.w (upd H x o) h' x o) : Inv X pins σ (upd H x o) { s with heap := h', toks := t' } := I.un (Un.write mu he k heo) (I.hok.write mu he k heo new)
theorem Inv.weak {σ' : List (Option V)} (I : Inv X pins σ H s) (hl : σ'.length = σ.length) (w : ∀ (i : Nat) v, σ'[i]? = some (some v) → σ[i]? = some (some v)) : Inv X pins σ' H s :=
 ⟨I.ok, I.os, I.bare, I.base, let ⟨m, hn, hl'⟩ := I.loc; ⟨m, hn, fun i x v e1 e2 e3 => hl' i x v e1 (w i v e2) e3⟩, I.cell, I.free, I.freeC, I.pin, I.hok, hl.trans I.len⟩
theorem Inv.pins_of {pins' : List (Addr × Obj)} (I : Inv X pins σ H s) (h : ∀ p ∈ pins', s.heap.get? p.1 = some p.2 ∧ H p.1 = none ∧ p.1 ≠ X.env.locals ∧ p.1 ∉ X.fs ∧ ∀ v, p.2.data ≠ .cell v) : Inv X pins' σ H s :=
 ⟨I.ok, I.os, I.bare, I.base, I.loc, I.cell, I.free, I.freeC, fun p hp => (List.mem_append.mp hp).elim (fun z => I.pin p (List.mem_append_left _ z)) (h p), I.hok, I.len⟩

theorem nodup_ix {N : List Str} (hN : N.Nodup) {i j : Nat} {x : Str} (a : N[i]? = some x) (b : N[j]? = some x) : i = j := by
 obtain ⟨h1, e1⟩ := List.getElem?_eq_some_iff.mp a
 obtain ⟨h2, e2⟩ := List.getElem?_eq_some_iff.mp b
 exact (List.getElem_inj hN).mp (e1.trans e2.symm)

theorem store_ok2 {M : Model} {A : Around} {E : Value → Shared → Prop} {i : Nat} {x : Str} {v : V} {u : Value} {Q : Unit → Shared → Prop} (I : Inv X pins σ H s) (hN : X.N.Nodup) (hi : X.N[i]? = some x) (hx : Loc X.env.scope x) (r : RelV v u)
  (h : ∀ s', Inv X pins (σ.set i (some v)) H s' → (∃ a, Heap.SameBut a s.heap s'.heap ∧ (a = X.env.locals ∨ X.env.cells.lookup x = some a)) → Q () s') (hf : X.fn x = true ∨ X.env.scope.names.lookup x = some .local := by first | exact .inl rfl | exact .inr rfl | assumption) : wpAny M A (storeName X.env x u) Q E s := by
 obtain ⟨m, hn, hl⟩ := id I.loc
 have hcls : (X.env.scope.kind == .class || (X.env.scope.kind == .module && X.env.locals != X.env.globals)) = false := by rw [I.ok.kind]; rfl
 have hiσ : i < σ.length := by rw [I.len]; exact (List.getElem?_eq_some_iff.mp hi).1
 have cne := I.cne
 have tracked : ∀ {a : Addr} {h' : Heap}, (∃ o, s.heap.get? a = some o ∧ H a = none) → Heap.SameBut a s.heap h' → HOk X.prog X.w H h' := fun {a h'} ha hs b ob e => by
  obtain ⟨_, _, hfree⟩ := ha
  refine (I.hok b ob e).stay (fun c w' hc q => (hs.2 c ?_).trans q) (fun _ q => q) fun _ _ q => q
  rintro rfl
  rcases hc with rfl | hc
  ·rw [hfree] at e; cases e
  ·rw [hfree] at hc; cases hc
 rcases hx with hk | hk
 ·refine wpAny_storeName_local hk hn (fun h' hn' hs => ?_) hcls
  obtain ⟨oL, _, _, hoL, _⟩ := id hn
  refine h _ ⟨I.ok, I.os, I.bare, ⟨fun b o e n hb hx => ?_, fun b o e n hb hx => ?_, I.base.free, fun b o e hx => ?_, I.base.tups, I.base.frzs, I.base.tbls⟩, ⟨_, hn', fun j y v' e1 e2 e3 => ?_⟩, fun y c e => ?_, I.free, I.freeC, fun p hp => ?_, tracked ⟨oL, hoL, I.free⟩ hs, by simpa using I.len⟩ ⟨_, hs, .inl rfl⟩
  ·exact (hs.2 b (Nat.ne_of_lt (Nat.lt_of_lt_of_le (Heap.lt_size e) I.ok.above))).trans (I.base.keep b o e n hb hx)
  ·obtain ⟨sl, e1⟩ := I.base.slot b o e n hb hx
   exact ⟨sl, (hs.2 b (Nat.ne_of_lt (Nat.lt_of_lt_of_le (Heap.lt_size e) I.ok.above))).trans e1⟩
  ·obtain ⟨o', e1⟩ := I.base.there b o e hx
   exact ⟨o', (hs.2 b (Nat.ne_of_lt (Nat.lt_of_lt_of_le (Heap.lt_size e) I.ok.above))).trans e1⟩
  ·by_cases hj : j = i
   ·subst hj
    rw [hi] at e1; cases e1
    rw [List.getElem?_set_self hiσ] at e2
    cases e2
    exact ⟨u, r, .inl ⟨hk, by simp⟩⟩
   ·rw [List.getElem?_set_ne (Ne.symm hj)] at e2
    obtain ⟨u', r', q⟩ := hl j y v' e1 e2 e3
    refine ⟨u', r', ?_⟩
    rcases q with ⟨k, e⟩ | ⟨k, c, e, z⟩
    ·refine .inl ⟨k, ?_⟩
     have : y ≠ x := fun e => hj (nodup_ix hN e1 (e ▸ hi))
     simp [this, e]
    ·exact .inr ⟨k, c, e, z.sameBut hs (cne y c e)⟩
  ·obtain ⟨w', z⟩ := I.cell y c e
   exact ⟨w', z.sameBut hs (cne y c e)⟩
  ·obtain ⟨e, n, ne, nf, d⟩ := I.pin p hp
   exact ⟨(hs.2 p.1 ne).trans e, n, ne, nf, d⟩
 ·have hfn : X.fn x = true := by
   rcases hf with z | z
   ·exact z
   ·rw [z] at hk; cases hk
  obtain ⟨c, hc⟩ := I.ok.has x (.inl hk)
  obtain ⟨w', z⟩ := I.cell x c hc
  refine wpAny_storeName_cell I.ok.kind hk hc z (fun h' hc' hs => ?_)
  obtain ⟨oc, hoc, hocd⟩ := id z
  refine h { s with heap := h' } ⟨I.ok, I.os, I.bare, ⟨fun b o e n hb hx => ?_, fun b o e n hb hx => ?_, I.base.free, fun b o e hx => ?_, I.base.tups, I.base.frzs, I.base.tbls⟩, ⟨m, hn.sameBut hs (Ne.symm (cne x c hc)), fun j y v' e1 e2 e3 => ?_⟩, fun y c' e => ?_, I.free, I.freeC, fun p hp => ?_, tracked ⟨oc, hoc, I.freeC x c hc⟩ hs, by simpa using I.len⟩ ⟨c, hs, .inr hc⟩
  ·exact (hs.2 b (Nat.ne_of_lt (Nat.lt_of_lt_of_le (Heap.lt_size e) (I.ok.cab x c hfn hc)))).trans (I.base.keep b o e n hb hx)
  ·obtain ⟨sl, e1⟩ := I.base.slot b o e n hb hx
   exact ⟨sl, (hs.2 b (Nat.ne_of_lt (Nat.lt_of_lt_of_le (Heap.lt_size e) (I.ok.cab x c hfn hc)))).trans e1⟩
  ·obtain ⟨o', e1⟩ := I.base.there b o e hx
   exact ⟨o', (hs.2 b (Nat.ne_of_lt (Nat.lt_of_lt_of_le (Heap.lt_size e) (I.ok.cab x c hfn hc)))).trans e1⟩
  ·by_cases hj : j = i
   ·subst hj
    rw [hi] at e1; cases e1
    rw [List.getElem?_set_self hiσ] at e2
    cases e2
    exact ⟨u, r, .inr ⟨.inl hk, c, hc, hc'⟩⟩
   ·rw [List.getElem?_set_ne (Ne.symm hj)] at e2
    obtain ⟨u', r', q⟩ := hl j y v' e1 e2 e3
    refine ⟨u', r', ?_⟩
    rcases q with q | ⟨k, c', e, z'⟩
    ·exact .inl q
    ·refine .inr ⟨k, c', e, z'.sameBut hs ?_⟩
     rintro rfl
     exact hj (nodup_ix hN e1 (I.ok.inj _ _ _ e hc ▸ hi))
  ·by_cases hcc : c' = c
   ·subst hcc; exact ⟨_, hc'⟩
   ·obtain ⟨w2, z2⟩ := I.cell y c' e
    exact ⟨w2, z2.sameBut hs hcc⟩
  ·obtain ⟨e, n, ne, nf, d⟩ := I.pin p hp
   refine ⟨(hs.2 p.1 ?_).trans e, n, ne, nf, d⟩
   intro q
   rw [q, hoc] at e
   have q' : oc = p.2 := Option.some.inj e
   exact d w' (by rw [← q']; exact hocd)
theorem store_ok {M : Model} {A : Around} {E : Value → Shared → Prop} {i : Nat} {x : Str} {v : V} {u : Value} {Q : Unit → Shared → Prop} (I : Inv X pins σ H s) (hN : X.N.Nodup) (hi : X.N[i]? = some x) (hx : Loc X.env.scope x) (r : RelV v u)
  (h : ∀ s', Inv X pins (σ.set i (some v)) H s' → Q () s') (hf : X.fn x = true ∨ X.env.scope.names.lookup x = some .local := by first | exact .inl rfl | exact .inr rfl | assumption) : wpAny M A (storeName X.env x u) Q E s :=
 store_ok2 I hN hi hx r (fun s' I' _ => h s' I') hf
theorem Inv.call' {s' : Shared} {ch : List Addr} (I : Inv X pins σ H s) (ho : s'.os = s.os) (u : Un (frs X.stack) ch H H' s.heap s'.heap) (hok : HOk X.prog X.w H' s'.heap) (hg : AllBare s'.gens)
  (hch : ∀ b ∈ ch, (b ∈ X.ex ∨ X.s₀.heap.objs.size ≤ b) ∧ b ≠ X.env.locals ∧ (∀ x c, X.env.cells.lookup x = some c → c ≠ b) ∧ ∀ p ∈ X.pn ++ pins, p.1 ≠ b) : Inv X pins σ H' s' := by
 obtain ⟨h', g', d', t', o'⟩ := s'
 have e : o' = s.os := ho
 subst e
 exact I.call (g' := g') (t' := t') (d' := d') u hok hg hch
end

noncomputable abbrev XK := Value → Option Addr → Hp → Prop
noncomputable abbrev St := List (Option V)
noncomputable abbrev VK := V → Hp → Prop
noncomputable abbrev TE := St → Hp → VK → Prop
noncomputable abbrev TT := St → Hp → (Bool → Hp → Prop) → Prop
noncomputable abbrev TA := St → Hp → (List V → Hp → Prop) → Prop
structure Ends where
 nx : St → Hp → Prop
 rt : VK
 bk : St → Hp → Prop := fun _ _ => False
 ct : St → Hp → Prop := fun _ _ => False
noncomputable abbrev TS := Ends → St → Hp → Prop

noncomputable def EP (X : Cx) (pins : List (Addr × Obj)) (σ : St) (Q : VK) (u : Value) (s' : Shared) : Prop := ∃ v H', Inv X pins σ H' s' ∧ RelV v u ∧ Q v H'
noncomputable def TP (X : Cx) (pins : List (Addr × Obj)) (σ : St) (Q : Bool → Hp → Prop) (b : Bool) (s' : Shared) : Prop := ∃ H', Inv X pins σ H' s' ∧ Q b H'
noncomputable def AP (X : Cx) (pins : List (Addr × Obj)) (σ : St) (Q : List V → Hp → Prop) (us : List Value) (s' : Shared) : Prop := ∃ vs H', Inv X pins σ H' s' ∧ Vals vs us ∧ Q vs H'
noncomputable def SP (X : Cx) (pins : List (Addr × Obj)) (D : Ends) (f : Flow) (s' : Shared) : Prop :=
 match f with
 | .next => ∃ σ' H', Inv X pins σ' H' s' ∧ D.nx σ' H'
 | .brk => ∃ σ' H', Inv X pins σ' H' s' ∧ D.bk σ' H'
 | .cont => ∃ σ' H', Inv X pins σ' H' s' ∧ D.ct σ' H'
 | .ret u => ∃ v σ' H', Inv X pins σ' H' s' ∧ RelV v u ∧ D.rt v H'

noncomputable def PE (X : Cx) (e : Expr) (t : TE) : Prop :=
 ∀ (pins : List (Addr × Obj)) (s : Shared) (σ : St) (H : Hp) (Q : VK), Inv X pins σ H s → t σ H Q → wpAny (model X.prog X.w) X.A (eval e X.env) (EP X pins σ Q) X.xe s
noncomputable def PT (X : Cx) (e : Expr) (t : TT) : Prop :=
 ∀ (pins : List (Addr × Obj)) (s : Shared) (σ : St) (H : Hp) (Q : Bool → Hp → Prop), Inv X pins σ H s → t σ H Q → wpAny (model X.prog X.w) X.A (isTrue e X.env (eval e X.env)) (TP X pins σ Q) X.xe s
noncomputable def PW (X : Cx) (e : Expr) (t : TT) : Prop :=
 ∀ (whole : Sem Value) (pins : List (Addr × Obj)) (s : Shared) (σ : St) (H : Hp) (Q : Bool → Hp → Prop), Inv X pins σ H s → t σ H Q → wpAny (model X.prog X.w) X.A (isTrue e X.env whole) (TP X pins σ Q) X.xe s
theorem PW.pt {X : Cx} {e : Expr} {t : TT} (h : PW X e t) : PT X e t := h _
noncomputable def PA (X : Cx) (es : List Expr) (t : TA) : Prop :=
 ∀ (pos : Pos) (pins : List (Addr × Obj)) (s : Shared) (σ : St) (H : Hp) (Q : List V → Hp → Prop), Inv X pins σ H s → t σ H Q → wpAny (model X.prog X.w) X.A (spliced (backTo pos (starEach es X.env))) (AP X pins σ Q) X.xe s
noncomputable def PS (X : Cx) (st : Stmt) (t : TS) : Prop :=
 ∀ (pins : List (Addr × Obj)) (s : Shared) (σ : St) (H : Hp) (D : Ends), Inv X pins σ H s → t D σ H → wpAny (model X.prog X.w) X.A (exec st X.env) (SP X pins D) X.xe s
noncomputable def PSs (X : Cx) (st : List Stmt) (t : TS) : Prop :=
 ∀ (pins : List (Addr × Obj)) (s : Shared) (σ : St) (H : Hp) (D : Ends), Inv X pins σ H s → t D σ H → wpAny (model X.prog X.w) X.A (execs st X.env) (SP X pins D) X.xe s
theorem thn {α : Type} {t : Sem α} {Q Q' : α → Shared → Prop} {M : Model} {A : Around} {E : Value → Shared → Prop} {s : Shared} (h : wpAny M A t Q E s) (hQ : ∀ a s, Q a s → Q' a s) : wpAny M A t Q' E s := wpAny_mono h hQ fun _ _ x => x
end L2

namespace L2
open PySem PySem.Spec PyProof.Rows
section
variable {X : Cx}

theorem bin {a b : Expr} {ta tb : TE} (ha : PE X a ta) (hb : PE X b tb) {pins : List (Addr × Obj)} {s : Shared} {σ : St} {H : Hp} {R : V → V → Hp → Prop} (I : Inv X pins σ H s) (h : ta σ H fun x H1 => tb σ H1 fun y H2 => R x y H2)
  {α : Type} {Q : α → Shared → Prop} {f : Value → Value → Sem α}
  (hf : ∀ v u s2 x y H2, Inv X pins σ H2 s2 → RelV x v → RelV y u → R x y H2 → wpAny (model X.prog X.w) X.A (f v u) Q X.xe s2) :
  wpAny (model X.prog X.w) X.A (eval a X.env) (fun v s₁ => wpAny (model X.prog X.w) X.A (eval b X.env) (fun u s₂ => wpAny (model X.prog X.w) X.A (f v u) Q X.xe s₂) X.xe s₁) X.xe s := by
 refine thn (ha pins s σ H _ I h) fun v s1 ⟨x, H1, I1, r1, q1⟩ => ?_
 refine thn (hb pins s1 σ H1 _ I1 q1) fun u s2 ⟨y, H2, I2, r2, q2⟩ => ?_
 exact hf v u s2 x y H2 I2 r1 r2 q2

noncomputable def tVar (i : Nat) : TE := fun σ H Q => ∃ v, σ[i]? = some (some v) ∧ Q v H
noncomputable def tC (v : V) : TE := fun _ H Q => Q v H
theorem pe_var {i : Nat} {x : Str} {pos : Pos} (hN : X.N[i]? = some x) (hv : Vis X.env.scope x) (hd : (x == ("__debug__" : Str)) = false := by decide) (hcd : (x == ("__classdict__" : Str)) = false := by decide) : PE X (.Name x pos) (tVar i) := by
 intro pins s σ H Q I h
 obtain ⟨v, e, h⟩ := h
 obtain ⟨m, hn, hl⟩ := I.loc
 obtain ⟨u, r, l⟩ := hl i x v hN e hv
 have fin : EP X pins σ Q u s := ⟨v, H, I, r, h⟩
 rcases l with ⟨hk, hm⟩ | ⟨hk, c, hc, hcell⟩
 ·exact wpAny_Name (wpAny_loadName_local I.ok.kind hk hn hm fin) hd
 ·rcases hk with hk | hk
  ·exact wpAny_Name (wpAny_loadName_cell I.ok.kind hk hc hcell fin) hd
  ·exact wpAny_Name (wpAny_loadName_free I.ok.kind hk hc hcell fin hcd) hd
theorem pe_int {i j pos} : PE X (.Constant (.int i) j pos) (tC (.int i)) := fun _ _ _ H _ I h => wpAny_Constant_int ⟨.int i, H, I.tok _, ⟨_, rfl⟩, h⟩
theorem pe_bl {b j pos} : PE X (.Constant (.bool b) j pos) (tC (.bl b)) := fun _ _ _ H _ I h => Constant_bool ⟨.bl b, H, I, rfl, h⟩
theorem pe_non {j pos} : PE X (.Constant .none j pos) (tC .non) := fun _ _ _ H _ I h => Constant_none ⟨.non, H, I, rfl, h⟩
theorem pe_str {x j pos} : PE X (.Constant (.str x) j pos) (tC (.str x)) := fun _ _ _ H _ I h => Calls.Constant_str ⟨.str x, H, I.tok _, ⟨_, rfl⟩, h⟩

noncomputable def Gl (X : Cx) (x : Str) : Prop := X.env.kindOf x = some .globalImplicit
theorem ld_glob {E : Value → Shared → Prop} {pins : List (Addr × Obj)} {s : Shared} {σ : St} {H : Hp} {x : Str} {u : Value} {pos : Pos} {Q : Value → Shared → Prop} (I : Inv X pins σ H s) (hg : Gl X x) (hm : X.mg x = some u) (h : Q u s)
  (hd : (x == ("__debug__" : Str)) = false := by decide) : wpAny (model X.prog X.w) X.A (eval (.Name x pos) X.env) Q E s :=
 Calls.Name_function_global I.ok.kind hg (Calls.loadGlobal_global (by rw [I.ok.glob]; exact I.mod.glob.keeps I.bk) hm h) hd
theorem ld_blt {E : Value → Shared → Prop} {pins : List (Addr × Obj)} {s : Shared} {σ : St} {H : Hp} {x : Str} {u : Value} {pos : Pos} {Q : Value → Shared → Prop} (I : Inv X pins σ H s) (hg : Gl X x) (hm : X.mg x = none) (hv : bootBuiltins x = some u) (h : Q u s)
  (hn : x ≠ "__name__" := by decide) (hd : (x == ("__debug__" : Str)) = false := by decide) : wpAny (model X.prog X.w) X.A (eval (.Name x pos) X.env) Q E s := by
 obtain ⟨mb, h1, h2⟩ := I.mod.blt
 exact Calls.Name_function_global I.ok.kind hg (Calls.loadGlobal_builtin (by rw [I.ok.glob]; exact I.mod.glob.keeps I.bk) hm (by rw [I.ok.blt]; exact h1.keeps I.bk) ((h2 x hn).trans hv) h) hd
theorem pe_glob {x : Str} {v : V} {u : Value} {pos : Pos} (hg : Gl X x) (hm : X.mg x = some u) (r : RelV v u) (hd : (x == ("__debug__" : Str)) = false := by decide) : PE X (.Name x pos) (tC v) :=
 fun _ _ _ H _ I h => ld_glob I hg hm ⟨v, H, I, r, h⟩ hd
theorem pe_bltn {x : Str} {v : V} {u : Value} {pos : Pos} (hg : Gl X x) (hm : X.mg x = none) (hv : bootBuiltins x = some u) (r : RelV v u) (hn : x ≠ "__name__" := by decide) (hd : (x == ("__debug__" : Str)) = false := by decide) : PE X (.Name x pos) (tC v) :=
 fun _ _ _ H _ I h => ld_blt I hg hm hv ⟨v, H, I, r, h⟩ hn hd

noncomputable def t2I (ta tb : TE) (k : Int → Int → Hp → Prop) : St → Hp → Prop := fun σ H => ta σ H fun x H1 => tb σ H1 fun y H2 => ∃ i j, x = .int i ∧ y = .int j ∧ k i j H2
variable {a b : Expr} {ta tb : TE} {pos : Pos}

noncomputable def PC (X : Cx) (op : CmpOp) (a b : Expr) (t : TE) : Prop :=
 ∀ (pins : List (Addr × Obj)) (s : Shared) (σ : St) (H : Hp) (Q : VK), Inv X pins σ H s → t σ H Q →
  wpAny (model X.prog X.w) X.A (eval a X.env) (fun v s₁ => wpAny (model X.prog X.w) X.A (eval b X.env) (fun u s₂ => wpAny (model X.prog X.w) X.A (compareOp op v u) (EP X pins σ Q) X.xe s₂) X.xe s₁) X.xe s
theorem nobehind (b : Expr) {op : CmpOp} (h : op ≠ .In) (h2 : op ≠ .NotIn) : behindInMarks op b = false := by
 have e1 : (op == CmpOp.In) = false := by cases op <;> first | rfl | exact absurd rfl h
 have e2 : (op == CmpOp.NotIn) = false := by cases op <;> first | rfl | exact absurd rfl h2
 cases b <;> simp [behindInMarks, e1, e2]
noncomputable def tCmp (p : Int → Int → Bool) (ta tb : TE) : TE := fun σ H Q => t2I ta tb (fun i j H2 => Q (.bl (p i j)) H2) σ H
noncomputable abbrev tLt : TE → TE → TE := tCmp fun i j => decide (i < j)
noncomputable abbrev tLe : TE → TE → TE := tCmp fun i j => decide (i ≤ j)
noncomputable abbrev tGt : TE → TE → TE := tCmp fun i j => decide (j < i)
noncomputable abbrev tGe : TE → TE → TE := tCmp fun i j => decide (j ≤ i)
noncomputable abbrev tEqI : TE → TE → TE := tCmp fun i j => decide (i = j)
noncomputable abbrev tNeI : TE → TE → TE := tCmp fun i j => !decide (i = j)
theorem pc_int {op : CmpOp} {p : Int → Int → Bool} (ha : PE X a ta) (hb : PE X b tb)
  (rule : ∀ (i j : Int) (t u : Tok) (Q : Value → Shared → Prop) (s : Shared), Q (.bool (p i j)) s → wpAny (model X.prog X.w) X.A (compareOp op (.int i t) (.int j u)) Q X.xe s) : PC X op a b (tCmp p ta tb) := by
 intro pins s σ H Q I h
 refine bin ha hb I h fun v u s2 x y H2 I2 rx ry q => ?_
 obtain ⟨i, j, rfl, rfl, q⟩ := q
 obtain ⟨t, rfl⟩ := rx
 obtain ⟨t', rfl⟩ := ry
 exact rule i j t t' _ s2 ⟨.bl _, H2, I2, rfl, q⟩
theorem pc_lt (ha : PE X a ta) (hb : PE X b tb) : PC X .Lt a b (tLt ta tb) := pc_int ha hb fun _ _ _ _ _ _ h => lt_int h
theorem pc_gt (ha : PE X a ta) (hb : PE X b tb) : PC X .Gt a b (tGt ta tb) := pc_int ha hb fun _ _ _ _ _ _ h => gt_int h
theorem pc_eqI (ha : PE X a ta) (hb : PE X b tb) : PC X .Eq a b (tEqI ta tb) := pc_int ha hb fun _ _ _ _ _ _ h => eq_int (by rw [Bool.beq_eq_decide_eq]; exact h)
theorem pc_neI (ha : PE X a ta) (hb : PE X b tb) : PC X .NotEq a b (tNeI ta tb) := pc_int ha hb fun _ _ _ _ _ _ h => ne_int (by rw [bne, Bool.beq_eq_decide_eq]; exact h)
noncomputable def tIsN (ta : TE) : TE := fun σ H Q => ta σ H fun x H1 => Q (.bl (decide (x = .non))) H1
noncomputable def tNotN (ta : TE) : TE := fun σ H Q => ta σ H fun x H1 => Q (.bl (!decide (x = .non))) H1
theorem RelV.none_iff {x : V} {v : Value} (r : RelV x v) : (v == Value.none) = decide (x = .non) := by
 cases x with
 | non => cases r; rfl
 | bl _ => cases r; rfl
 | int _ => obtain ⟨t, rfl⟩ := r; rfl
 | str _ => obtain ⟨t, rfl⟩ := r; rfl
 | byt _ => obtain ⟨t, rfl⟩ := r; rfl
 | flt _ => obtain ⟨t, rfl⟩ := r; rfl
 | ref _ => cases r; rfl
 | ty _ => cases r; rfl
theorem pc_isN {j pos'} (ha : PE X a ta) : PC X .Is a (.Constant .none j pos') (tIsN ta) := by
 intro pins s σ H Q I h
 refine thn (ha pins s σ H _ I h) fun v s1 ⟨x, H1, I1, r1, q1⟩ => ?_
 exact Constant_none (is_none_gen ⟨.bl _, H1, I1, by rw [r1.none_iff]; rfl, q1⟩)
theorem pc_notN {j pos'} (ha : PE X a ta) : PC X .IsNot a (.Constant .none j pos') (tNotN ta) := by
 intro pins s σ H Q I h
 refine thn (ha pins s σ H _ I h) fun v s1 ⟨x, H1, I1, r1, q1⟩ => ?_
 exact Constant_none (isnot_none_gen ⟨.bl _, H1, I1, by rw [r1.none_iff]; rfl, q1⟩)
noncomputable def tB (t : TE) : TT := fun σ H Q => t σ H fun x H1 => ∃ c, x = .bl c ∧ Q c H1
theorem pe_cmp {op : CmpOp} {t : TE} (h : PC X op a b t) (h1 : behindInMarks op b = false := by first | exact nobehind _ (by decide) (by decide) | rfl) : PE X (.Compare a [op] [b] pos) t := fun pins s σ H Q I hw => wpAny_Compare1 (h pins s σ H Q I hw) h1
theorem pt_cmp {op : CmpOp} {t : TE} (h : PC X op a b t) (h1 : behindInMarks op b = false := by first | exact nobehind _ (by decide) (by decide) | rfl) : PT X (.Compare a [op] [b] pos) (tB t) := by
 intro pins s σ H Q I hw
 refine wpAny_isTrue_Compare1 (thn (h pins s σ H _ I hw) fun v s1 h1 => thn h1 fun u s2 h2 => thn h2 fun c s3 ⟨x, H1, I1, r1, q1⟩ => ?_) h1
 obtain ⟨d, rfl, q⟩ := q1
 cases r1
 exact wpAny_truthy_bool ⟨H1, I1, q⟩
theorem pt_val {e : Expr} {t : TE} (h : PE X e t) (he : ∀ whole, isTrue e X.env whole = (do let v ← whole; standAt e.pos; holding [v] (truthy v)) := by intro _; rfl) : PT X e (tB t) := by
 intro pins s σ H Q I hw
 refine isTrue_plain (thn (h pins s σ H _ I hw) fun v s1 ⟨x, H1, I1, r1, q1⟩ => ?_) (he _)
 obtain ⟨d, rfl, q⟩ := q1
 cases r1
 exact wpAny_truthy_bool ⟨H1, I1, q⟩

variable {tA tB' : TT} {rest : List Expr}
noncomputable def tAnd (t u : TT) : TT := fun σ H Q => t σ H fun c H1 => if c = true then u σ H1 Q else Q false H1
noncomputable def tOr (t u : TT) : TT := fun σ H Q => t σ H fun c H1 => if c = true then Q true H1 else u σ H1 Q
noncomputable def tNot (t : TT) : TT := fun σ H Q => t σ H fun c H1 => Q (!c) H1
theorem pw_and1 (ha : PT X a tA) : PW X (.BoolOp .And [a] pos) tA := by
 intro wh pins s σ H Q I h
 refine isTrue_and (thn (ha pins s σ H Q I h) fun c s1 e => ?_)
 cases c with
 | true => exact isTrue_and_nil e
 | false => exact e
theorem pw_or1 (ha : PT X a tA) : PW X (.BoolOp .Or [a] pos) tA := by
 intro wh pins s σ H Q I h
 refine isTrue_or (thn (ha pins s σ H Q I h) fun c s1 e => ?_)
 cases c with
 | false => exact isTrue_or_nil e
 | true => exact e
theorem pw_and (ha : PT X a tA) (hb : PW X (.BoolOp .And (b :: rest) pos) tB') : PW X (.BoolOp .And (a :: b :: rest) pos) (tAnd tA tB') := by
 intro wh pins s σ H Q I h
 refine isTrue_and (thn (ha pins s σ H _ I h) fun c s1 ⟨H1, I1, q1⟩ => ?_)
 cases c with
 | true => exact hb wh pins s1 σ H1 Q I1 q1
 | false => exact ⟨H1, I1, q1⟩
theorem pw_or (ha : PT X a tA) (hb : PW X (.BoolOp .Or (b :: rest) pos) tB') : PW X (.BoolOp .Or (a :: b :: rest) pos) (tOr tA tB') := by
 intro wh pins s σ H Q I h
 refine isTrue_or (thn (ha pins s σ H _ I h) fun c s1 ⟨H1, I1, q1⟩ => ?_)
 cases c with
 | true => exact ⟨H1, I1, q1⟩
 | false => exact hb wh pins s1 σ H1 Q I1 q1
theorem pt_not (ha : PT X a tA) : PT X (.UnaryOp .Not a pos) (tNot tA) := by
 intro pins s σ H Q I h
 exact isTrue_not (ha pins s σ H (fun c H1 => Q (!c) H1) I h)
noncomputable def tAndV (ta tb : TE) : TE := fun σ H Q => ta σ H fun x H1 => ∃ c, x = .bl c ∧ if c = true then tb σ H1 Q else Q (.bl false) H1
noncomputable def tNotV (ta : TE) : TE := fun σ H Q => ta σ H fun x H1 => ∃ c, x = .bl c ∧ Q (.bl (!c)) H1
theorem pe_one {op} {t : TE} (h : PE X a t) : PE X (.BoolOp op [a] pos) t := fun pins s σ H Q I hw => BoolOp_one (h pins s σ H Q I hw)
theorem pe_and (ha : PE X a ta) (hb : PE X (.BoolOp .And (b :: rest) pos) tb) : PE X (.BoolOp .And (a :: b :: rest) pos) (tAndV ta tb) := by
 intro pins s σ H Q I h
 refine BoolOp_and (thn (ha pins s σ H _ I h) fun v s1 ⟨x, H1, I1, r1, q1⟩ => ?_)
 obtain ⟨c, rfl, q1⟩ := q1
 cases r1
 refine wpAny_truthy_bool ?_
 cases c with
 | true => exact hb pins s1 σ H1 Q I1 q1
 | false => exact ⟨.bl false, H1, I1, rfl, q1⟩
theorem pe_not (ha : PE X a ta) : PE X (.UnaryOp .Not a pos) (tNotV ta) := by
 intro pins s σ H Q I h
 refine UnaryOp_ (thn (ha pins s σ H _ I h) fun v s1 ⟨x, H1, I1, r1, q1⟩ => ?_)
 obtain ⟨c, rfl, q1⟩ := q1
 cases r1
 exact not_of (wpAny_truthy_bool ⟨.bl (!c), H1, I1, rfl, q1⟩)
noncomputable def tIf (t : TT) (ta tb : TE) : TE := fun σ H Q => t σ H fun c H1 => if c = true then ta σ H1 Q else tb σ H1 Q
theorem pe_ifExp {c : Expr} (hc : PT X c tA) (ha : PE X a ta) (hb : PE X b tb) : PE X (.IfExp c a b pos) (tIf tA ta tb) := by
 intro pins s σ H Q I h
 refine wpAny_IfExp (thn (hc pins s σ H _ I h) fun d s1 ⟨H1, I1, q1⟩ => ?_)
 cases d with
 | true => exact ha pins s1 σ H1 Q I1 q1
 | false => exact hb pins s1 σ H1 Q I1 q1
end
end L2

namespace L2
open PySem PySem.Spec PyProof.Rows

noncomputable def SqL (K : PySem.W.Frag) (H : Hp) (a : Addr) (xs : List V) : Prop :=
 Rd H a (.lst xs) ∨
  ∃ (o : Obj) (its : Array Value) (n : Nat), K.lookup a = some o ∧ o.cls = .type "list" ∧ o.dict = none ∧ o.data = .seq its n ∧ its.size ≤ sizeLine ∧ Vals xs its.toList
noncomputable def SqT (K : PySem.W.Frag) (H : Hp) (a : Addr) (xs : List V) : Prop :=
 Rd H a (.tup xs) ∨
  ∃ (o : Obj) (its : Array Value) (n : Nat), K.lookup a = some o ∧ o.cls = .type "tuple" ∧ o.data = .seq its n ∧ its.size ≤ sizeLine ∧ Vals xs its.toList
noncomputable def SqX (K : PySem.W.Frag) (H : Hp) (a : Addr) (xs : List V) : Prop :=
 Rd H a (.lst xs) ∨ ∃ (its : Array Value) (n : Nat), K.lookup a = some { cls := .type "list", data := .seq its n } ∧ its.size ≤ sizeLine ∧ Vals xs its.toList
theorem SqX.sql {K : PySem.W.Frag} {H : Hp} {a : Addr} {xs : List V} (h : SqX K H a xs) : SqL K H a xs := by
 rcases h with h | ⟨its, n, hk, hz, r⟩
 ·exact .inl h
 ·exact .inr ⟨_, its, n, hk, rfl, rfl, rfl, hz, r⟩
theorem SqX.of {K : PySem.W.Frag} {H : Hp} {a : Addr} {xs : List V} (h : H a = some (.lst xs)) : SqX K H a xs := .inl (.inl h)
noncomputable def absV : Value → Option V
 | .none => some .non
 | .bool b => some (.bl b)
 | .int i _ => some (.int i)
 | .str x _ => some (.str x)
 | .bytes b _ => some (.byt b)
 | .float b _ => some (.flt b)
 | .ref a => some (.ref a)
 | .type n => some (.ty n)
 | _ => none
theorem RelV.abs {x : V} {u : Value} (r : RelV x u) : absV u = some x := by
 cases x with
 | non => cases r; rfl
 | bl _ => cases r; rfl
 | int _ => obtain ⟨t, rfl⟩ := r; rfl
 | str _ => obtain ⟨t, rfl⟩ := r; rfl
 | byt _ => obtain ⟨t, rfl⟩ := r; rfl
 | flt _ => obtain ⟨t, rfl⟩ := r; rfl
 | ref _ => cases r; rfl
 | ty _ => cases r; rfl
theorem RelV.inj {x y : V} {u : Value} (r : RelV x u) (q : RelV y u) : x = y := Option.some.inj (r.abs.symm.trans q.abs)
theorem Vals.inj : ∀ {xs ys : List V} {us : List Value}, Vals xs us → Vals ys us → xs = ys
 | _, _, _, .nil, .nil => rfl
 | _, _, _, .cons r t, .cons r' t' => by rw [r.inj r', Vals.inj t t']
section
variable {X : Cx} {pins : List (Addr × Obj)} {σ : St} {H : Hp} {s : Shared} {a : Addr} {xs ys : List V}
theorem SqT.of {K : PySem.W.Frag} (h : H a = some (.tup xs)) : SqT K H a xs := .inl (.inl h)
theorem Inv.list (I : Inv X pins σ H s) (h : SqL X.K H a xs) : ∃ its : List Value, Vals xs its ∧ PlainL s.heap a its.toArray ∧ xs.length ≤ sizeLine := by
 rcases h with h | ⟨o, its, n, hk, hc, hd, hs, hz, r⟩
 ·obtain ⟨z, its, n, r, e⟩ := h.ok I.hok
  exact ⟨its, r, ⟨_, n, e, rfl, rfl, rfl⟩, z⟩
 ·refine ⟨its.toList, r, ⟨o, n, I.kIn a o hk, hc, hd, by simpa using hs⟩, ?_⟩
  have e := r.length
  simp only [Array.length_toList] at e
  omega
theorem Inv.tuple (I : Inv X pins σ H s) (h : SqT X.K H a xs) : ∃ its : List Value, Vals xs its ∧ IsTup s.heap a its.toArray ∧ xs.length ≤ sizeLine := by
 rcases h with h | ⟨o, its, n, hk, hc, hs, hz, r⟩
 ·obtain ⟨z, its, r, p⟩ := h.ok I.hok
  exact ⟨its, r, p, z⟩
 ·refine ⟨its.toList, r, ⟨o, I.kIn a o hk, hc, n, by simpa using hs⟩, ?_⟩
  have e := r.length
  simp only [Array.length_toList] at e
  omega
theorem Inv.list_inj (I : Inv X pins σ H s) (h : SqL X.K H a xs) (h' : SqL X.K H a ys) : xs = ys := by
 obtain ⟨its, r, ⟨o, n, e, _, _, d⟩, _⟩ := I.list h
 obtain ⟨its', r', ⟨o', n', e', _, _, d'⟩, _⟩ := I.list h'
 rw [e] at e'; cases e'
 rw [d] at d'
 injection d' with d1 _
 have : its = its' := by simpa using congrArg Array.toList d1
 subst this
 exact r.inj r'
theorem Inv.tuple_inj (I : Inv X pins σ H s) (h : SqT X.K H a xs) (h' : SqT X.K H a ys) : xs = ys := by
 obtain ⟨its, r, ⟨o, e, _, n, d⟩, _⟩ := I.tuple h
 obtain ⟨its', r', ⟨o', e', _, n', d'⟩, _⟩ := I.tuple h'
 rw [e] at e'; cases e'
 rw [d] at d'
 injection d' with d1 _
 have : its = its' := by simpa using congrArg Array.toList d1
 subst this
 exact r.inj r'
end

noncomputable abbrev Cx.wish (X : Cx) (E : Value → Shared → Prop) : Cx := { X with xe := E }
noncomputable abbrev Cx.nox (X : Cx) : Cx := X.wish fun _ _ => False
theorem Cx.Ok.wish {X : Cx} (ok : X.Ok) (E : Value → Shared → Prop) : (X.wish E).Ok :=
 ⟨ok.mod, ok.kind, ok.glob, ok.blt, ok.above, ok.inj, ok.has, ok.cab, ok.hd, ok.frames, ok.stk, ok.exf, ok.bs, ok.bsz, ok.noex, ok.exfs, ok.funs, ok.frf⟩
theorem Cx.Ok.unwish {X : Cx} {E : Value → Shared → Prop} (ok : (X.wish E).Ok) : X.Ok :=
 ⟨ok.mod, ok.kind, ok.glob, ok.blt, ok.above, ok.inj, ok.has, ok.cab, ok.hd, ok.frames, ok.stk, ok.exf, ok.bs, ok.bsz, ok.noex, ok.exfs, ok.funs, ok.frf⟩
section
variable {X : Cx} {pins : List (Addr × Obj)} {σ : St} {H : Hp} {s : Shared} {E : Value → Shared → Prop}
theorem Inv.wish (I : Inv X pins σ H s) (E : Value → Shared → Prop) : Inv (X.wish E) pins σ H s := ⟨I.ok.wish E, I.os, I.bare, I.base, I.loc, I.cell, I.free, I.freeC, I.pin, I.hok, I.len⟩
theorem Inv.unwish (I : Inv (X.wish E) pins σ H s) : Inv X pins σ H s := ⟨I.ok.unwish, I.os, I.bare, I.base, I.loc, I.cell, I.free, I.freeC, I.pin, I.hok, I.len⟩
end

section
variable {X : Cx} {st : Stmt} {rest : List Stmt} {t u : TS} {e : Expr} {te : TE} {pos : Pos}
noncomputable def tNext : TS := fun D σ H => D.nx σ H
noncomputable def tSeq (t u : TS) : TS := fun D σ H => t { D with nx := u D } σ H
theorem pss_nil : PSs X [] tNext := fun _ _ σ H _ I h => wpAny_execs_nil ⟨σ, H, I, h⟩
theorem pss_cons (h1 : PS X st t) (h2 : PSs X rest u) : PSs X (st :: rest) (tSeq t u) := by
 intro pins s σ H D I h
 refine wpAny_execs_cons (thn (h1 pins s σ H { D with nx := u D } I h) fun f s1 q => ?_)
 cases f with
 | next =>
  obtain ⟨σ', H', I', q⟩ := q
  exact h2 pins s1 σ' H' D I' q
 | ret v => exact q
 | brk => exact q
 | cont => exact q
theorem pss_one (h1 : PS X st t) : PSs X [st] t := by
 intro pins s σ H D I h
 refine wpAny_execs_cons (thn (h1 pins s σ H D I h) fun f s1 q => ?_)
 cases f with
 | next => exact wpAny_execs_nil q
 | ret v => exact q
 | brk => exact q
 | cont => exact q
theorem Inv.quiet {pins : List (Addr × Obj)} {σ : St} {H : Hp} {s : Shared} (I : Inv X pins σ H s) : interactive X.env = false := by simp [interactive, I.ok.kind]
noncomputable def tDrop (te : TE) : TS := fun D σ H => te σ H fun _ H1 => D.nx σ H1
theorem ps_expr (he : PE X e te) (hs : swapsWith e none pos.line X.env = pure false := by rfl) : PS X (.Expr e pos) (tDrop te) := by
 intro pins s σ H D I h
 exact wpAny_Expr_any (thn (he pins s σ H _ I h) fun v s1 ⟨x, H1, I1, r1, q1⟩ => ⟨σ, H1, I1, q1⟩) I.quiet hs
noncomputable def tRet (te : TE) : TS := fun D σ H => te σ H D.rt
theorem ps_ret (he : PE X e te) : PS X (.Return (some e) pos) (tRet te) := by
 intro pins s σ H D I h
 exact wpAny_Return_some (thn (he pins s σ H _ I h) fun v s1 ⟨x, H1, I1, r1, q1⟩ => ⟨x, σ, H1, I1, r1, q1⟩)
noncomputable def tIfS (c : TT) (t u : TS) : TS := fun D σ H => c σ H fun b H1 => if b = true then t D σ H1 else u D σ H1
theorem ps_if {c : Expr} {a b : List Stmt} {tc : TT} (hc : PT X c tc) (ha : PSs X a t) (hb : PSs X b u) : PS X (.If c a b pos) (tIfS tc t u) := by
 intro pins s σ H D I h
 refine wpAny_If (thn (hc pins s σ H _ I h) fun d s1 ⟨H1, I1, q1⟩ => ?_)
 cases d with
 | true => exact ha pins s1 σ H1 D I1 q1
 | false => exact hb pins s1 σ H1 D I1 q1
noncomputable def tNever : TS := fun _ _ _ => False
theorem ps_never : PS X st tNever := fun _ _ _ _ _ _ h => h.elim
end

noncomputable abbrev TG := V → St → Hp → (St → Hp → Prop) → Prop
noncomputable abbrev TGs := List V → St → Hp → (St → Hp → Prop) → Prop
noncomputable def PG (X : Cx) (target : Expr) (t : TG) : Prop :=
 ∀ (pins : List (Addr × Obj)) (s : Shared) (σ : St) (H : Hp) (v : V) (u : Value) (Q : St → Hp → Prop), Inv X pins σ H s → RelV v u → t v σ H Q →
  wpAny (model X.prog X.w) X.A (assign target X.env u) (fun _ s' => ∃ σ' H', Inv X pins σ' H' s' ∧ Q σ' H') X.xe s
noncomputable def PGs (X : Cx) (ts : List Expr) (t : TGs) : Prop :=
 ∀ (pins : List (Addr × Obj)) (s : Shared) (σ : St) (H : Hp) (vs : List V) (us : List Value) (Q : St → Hp → Prop), Inv X pins σ H s → Vals vs us → t vs σ H Q →
  wpAny (model X.prog X.w) X.A (assignInOrder ((assignEach ts X.env).map (·.2)) us) (fun _ s' => ∃ σ' H', Inv X pins σ' H' s' ∧ Q σ' H') X.xe s
noncomputable abbrev TSet := V → V → V → Hp → (Hp → Prop) → Prop
noncomputable abbrev TIp := V → V → Hp → VK → Prop
section
variable {X : Cx} {pos : Pos}
noncomputable def gName (i : Nat) : TG := fun v σ H Q => Q (σ.set i (some v)) H
theorem pg_name {i : Nat} {x : Str} (hN : X.N.Nodup) (hi : X.N[i]? = some x) (hx : Loc X.env.scope x) (hf : X.fn x = true ∨ X.env.scope.names.lookup x = some .local := by first | exact .inl rfl | exact .inr rfl | assumption) : PG X (.Name x pos) (gName i) := by
 intro pins s σ H v u Q I r h
 exact wpAny_assign_Name (store_ok I hN hi hx r (fun s' I' => ⟨_, H, I', h⟩) hf)
noncomputable def gNil : TGs := fun vs σ H Q => vs = [] ∧ Q σ H
noncomputable def gCons (t : TG) (u : TGs) : TGs := fun vs σ H Q => ∃ v r, vs = v :: r ∧ t v σ H fun σ' H' => u r σ' H' Q
theorem pgs_nil : PGs X [] gNil := by
 intro pins s σ H vs us Q I r h
 obtain ⟨e, h⟩ := h
 subst e
 cases r
 exact assignInOrder_nil ⟨σ, H, I, h⟩
theorem pgs_cons {e : Expr} {es : List Expr} {t : TG} {u : TGs} (h1 : PG X e t) (h2 : PGs X es u)
  (hs : (assignEach (e :: es) X.env).map (·.2) = assign e X.env :: (assignEach es X.env).map (·.2) := by rfl) : PGs X (e :: es) (gCons t u) := by
 intro pins s σ H vs us Q I r h
 obtain ⟨v, vr, e1, h⟩ := h
 subst e1
 cases r with
 | cons r rr =>
  rw [hs]
  refine assignInOrder_cons (thn (h1 pins s σ H _ _ _ I r h) fun _ s1 ⟨σ1, H1, I1, q1⟩ => ?_)
  exact h2 pins s1 σ1 H1 _ _ Q I1 rr q1
noncomputable def gTup (K : PySem.W.Frag) (n : Nat) (t : TGs) : TG := fun v σ H Q => ∃ a xs, v = .ref a ∧ SqT K H a xs ∧ xs.length = n ∧ t xs σ H Q
theorem pg_tup {es : List Expr} {k : Nat} {t : TGs} {n : Nat} (hc : X.calm = true) (h : PGs X es t)
  (hn : (assignEach es X.env).length = n := by rfl) (hst : (assignEach es X.env).findIdx? (·.1) = none := by rfl) : PG X (.Tuple es k pos) (gTup X.K n t) := by
 intro pins s σ H v u Q I r hw
 obtain ⟨a, xs, e1, hq, hl, hw⟩ := hw
 subst e1
 cases r
 obtain ⟨its, rv, ht, hz⟩ := I.tuple hq
 refine assign_Tuple_tuple (I.ok.hd hc) ht (by simp [hn, ← hl, rv.length]) hst fun h' hx => ?_
 have I1 : Inv X pins σ H { s with heap := h' } := I.kept (t' := s.toks) fun b o e => hx b o (Nat.ne_of_lt (Heap.lt_size e)) e
 exact h pins _ σ H xs _ Q I1 (by simpa using rv) hw
noncomputable def tAsg (te : TE) (g : TG) : TS := fun D σ H => te σ H fun x H1 => g x σ H1 D.nx
theorem ps_asg {tg e : Expr} {te : TE} {g : TG} (he : PE X e te) (hg : PG X tg g) (hs : swapsWithSole [tg] e pos.line X.env = pure false := by rfl) (hw : swappedStores [tg] e X.env = pure none := by rfl)
  (h1 : (assignEach [tg] X.env).map (·.2) = [assign tg X.env] := by rfl) : PS X (.Assign [tg] e pos) (tAsg te g) := by
 intro pins s σ H D I h
 refine wpAny_Assign_stores (thn (he pins s σ H _ I h) fun v s1 ⟨x, H1, I1, r1, q1⟩ => ?_) hs hw
 rw [h1]
 exact thn (hg pins s1 σ H1 x v _ I1 r1 q1) fun _ s2 q => q
theorem ps_set {i : Nat} {x : Str} {e : Expr} {te : TE} {pos' : Pos} (hN : X.N.Nodup) (hi : X.N[i]? = some x) (hx : Loc X.env.scope x) (he : PE X e te) (hs : swapsWith e (some (.Name x pos')) pos.line X.env = pure false := by rfl) (hf : X.fn x = true ∨ X.env.scope.names.lookup x = some .local := by first | exact .inl rfl | exact .inr rfl | assumption) :
  PS X (.Assign [.Name x pos'] e pos) (tAsg te (gName i)) := by
 intro pins s σ H D I h
 refine wpAny_Assign_Name (thn (he pins s σ H _ I h) fun v s1 ⟨y, H1, I1, r1, q1⟩ => ?_) hs
 exact store_ok I1 hN hi hx r1 (fun s2 I2 => ⟨_, H1, I2, q1⟩) hf
end

section
variable {X : Cx} {pos : Pos}
noncomputable def tWhile (c : TT) (tb : TS) : TS := fun D σ H => ∃ W : Nat → St → Hp → Prop, (∃ m, W m σ H) ∧ ∀ m σ H, W m σ H →
 c σ H fun b H1 => if b = true then ∃ N : St → Hp → Prop, (∀ σ' H', N σ' H' → ∃ m', m' < m ∧ W m' σ' H') ∧ tb { D with nx := N, ct := N, bk := D.nx } σ H1 else D.nx σ H1
theorem ps_while {c : Expr} {body : List Stmt} {tc : TT} {tb : TS} (hp : PassesOwn (model X.prog X.w) X.A X.env X.xe) (hc : PT X c tc) (hb : PSs X body tb) : PS X (.While c body [] pos) (tWhile tc tb) := by
 intro pins s σ H D I h
 obtain ⟨W, ⟨m0, w0⟩, turn⟩ := h
 refine wpAny_While (codeAny_whileLoop (fun n s' => ∃ σ' H', Inv X pins σ' H' s' ∧ W n σ' H') ?_ m0 ⟨σ, H, I, w0⟩)
 rintro n s1 ⟨σ1, H1, I1, w1⟩
 refine wpAny_passesOwn hp (thn (hc pins s1 σ1 H1 _ I1 (turn n σ1 H1 w1)) fun b s2 ⟨H2, I2, q2⟩ => ?_)
 cases b with
 | true =>
  obtain ⟨N, hN, q2⟩ := q2
  rw [if_pos rfl]
  refine wpAny_passesOwn hp (thn (hb pins s2 σ1 H2 _ I2 q2) fun f s3 q3 => ?_)
  cases f with
  | next =>
   obtain ⟨σ3, H3, I3, n3⟩ := q3
   obtain ⟨m', hm, w3⟩ := hN σ3 H3 n3
   exact ⟨m', hm, σ3, H3, I3, w3⟩
  | cont =>
   obtain ⟨σ3, H3, I3, n3⟩ := q3
   obtain ⟨m', hm, w3⟩ := hN σ3 H3 n3
   exact ⟨m', hm, σ3, H3, I3, w3⟩
  | brk => exact q3
  | ret v => exact q3
 | false =>
  rw [if_neg Bool.false_ne_true]
  exact wpAny_execs_nil ⟨σ1, H2, I2, q2⟩
end

structure It where
 go : Nat → Hp → Prop
 yld : Nat → Hp → V → Hp → Prop
 stop : Nat → Hp → Prop
noncomputable def FpOk (X : Cx) (pins : List (Addr × Obj)) (H : Hp) (b : Addr) : Prop :=
 H b = none ∧ b ≠ X.env.locals ∧ b ∉ X.fs ∧ (b ∈ X.ex ∨ X.s₀.heap.objs.size ≤ b) ∧ (∀ x c, X.env.cells.lookup x = some c → c ≠ b) ∧ ∀ p ∈ X.pn ++ pins, p.1 ≠ b
theorem Inv.fpOk {X : Cx} {pins : List (Addr × Obj)} {σ : St} {H H' : Hp} {s : Shared} {b : Addr} (I : Inv X pins σ H s) (hb : s.heap.objs.size ≤ b) (hn : H' b = none) : FpOk X pins H' b := by
 refine ⟨hn, Nat.ne_of_gt (Nat.lt_of_lt_of_le I.lt hb), I.nofs hb, .inr (Nat.le_trans I.sz hb), fun x c e z => ?_, fun p hp z => ?_⟩
 ·obtain ⟨v, q⟩ := I.cell x c e
  exact absurd (Nat.lt_of_lt_of_le q.lt (by rw [z]; exact hb)) (Nat.lt_irrefl _)
 ·exact absurd (Nat.lt_of_lt_of_le (Heap.lt_size (I.pin p hp).1) (by rw [z]; exact hb)) (Nat.lt_irrefl _)
structure Turn (P : Program) (w : World) (K : PySem.W.Frag) (tg : Expr) (J : It) (fp : List Addr) (it : Addr) (tn : Nat → Heap → Prop) : Prop where
 mem : it ∈ fp
 obj : ∀ i h, tn i h → ∀ b ∈ fp, ∃ o, h.get? b = some o ∧ ∀ v, o.data ≠ .cell v
 keep : ∀ i h h', tn i h → (∀ b ∈ fp, ∀ o, h.get? b = some o → h'.get? b = some o) → tn i h'
 item : ∀ (X : Cx), X.prog = P → X.w = w → X.K = K → X.calm = true → ∀ (i : Nat) (pins : List (Addr × Obj)) (s : Shared) (σ : St) (H : Hp) (E : Value → Shared → Prop), Inv X pins σ H s → (∀ b ∈ fp, FpOk X pins H b) → tn i s.heap → J.go i H →
  wpAny (model P w) X.A (pyNext (.ref it)) (fun r s1 => ∃ u, r = some u ∧
   wpAny (model P w) X.A (letOwnedTupleGo tg (.ref it) u) (fun _ s2 => ∃ x H', Inv X pins σ H' s2 ∧ RelV x u ∧ J.yld i H x H' ∧ tn (i + 1) s2.heap ∧ ∀ b ∈ fp, H' b = none) E s1) E s
 done : ∀ (X : Cx), X.prog = P → X.w = w → X.K = K → X.calm = true → ∀ (i : Nat) (pins : List (Addr × Obj)) (s : Shared) (σ : St) (H : Hp) (E : Value → Shared → Prop), Inv X pins σ H s → (∀ b ∈ fp, FpOk X pins H b) → tn i s.heap → J.stop i H →
  wpAny (model P w) X.A (pyNext (.ref it)) (fun r s1 => r = none ∧ Inv X pins σ H s1) E s
 self : ∀ (A : Around) (i : Nat) (s : Shared) (Q : Value → Shared → Prop) (E : Value → Shared → Prop), tn i s.heap → Q (.ref it) s → wpAny (model P w) A (pyIter (.ref it)) Q E s
noncomputable abbrev TI := St → Hp → (It → Hp → Prop) → Prop
noncomputable def PIE (X : Cx) (pins : List (Addr × Obj)) (σ : St) (tg : Expr) (R : It → Hp → Prop) (itv : Value) (s2 : Shared) : Prop :=
 ∃ (it : Addr) (fp : List Addr) (tn : Nat → Heap → Prop) (J : It) (H' : Hp), itv = .ref it ∧ Inv X pins σ H' s2 ∧ Turn X.prog X.w X.K tg J fp it tn ∧ tn 0 s2.heap ∧ (∀ b ∈ fp, FpOk X pins H' b) ∧ R J H'
noncomputable def PI (X : Cx) (tg iter : Expr) (wi : TI) : Prop :=
 ∀ (pins : List (Addr × Obj)) (s : Shared) (σ : St) (H : Hp) (R : It → Hp → Prop), Inv X pins σ H s → wi σ H R →
  wpAny (model X.prog X.w) X.A (eval iter X.env) (fun v s1 => wpAny (model X.prog X.w) X.A (pyIter v) (PIE X pins σ tg R) X.xe s1) X.xe s

theorem go_of {M : Model} {A : Around} {E : Value → Shared → Prop} {s : Shared} {tg : Expr} {it : Addr} {u : Value} {o : Obj} {n : String} {vs : Array Value} {Q : Unit → Shared → Prop} (ho : s.heap.get? it = some o) (hc : o.cls = .type n) (hd : o.data = .fields vs)
    (hn : ["enumerate", "zip", "dict_itemiterator", "dict_reverseitemiterator", "odict_iterator", "itertools.zip_longest", "itertools.pairwise"].contains n = false) (hQ : Q () s) : wpAny M A (letOwnedTupleGo tg (.ref it) u) Q E s := by
  unfold letOwnedTupleGo
  cases tg <;> first
    | exact wpAny_pure hQ
    | (cases u <;> first
        | exact wpAny_pure hQ
        | (refine wpAny_bind (wpAny_load ho ?_)
           rw [hc, hd]
           show wpAny M A (if (["enumerate", "zip", "dict_itemiterator", "dict_reverseitemiterator", "odict_iterator", "itertools.zip_longest", "itertools.pairwise"].contains n && vs[0]? == some (rawInt _)) = true then _ else _) Q E s
           rw [if_neg (by intro h; rw [hn, Bool.false_and] at h; cases h)]
           exact wpAny_pure hQ))

noncomputable def Itl (K : PySem.W.Frag) (a : Addr) : It :=
 ⟨fun i H => ∃ xs x, SqL K H a xs ∧ xs[i]? = some x, fun i H x H' => H' = H ∧ ∀ xs, SqL K H a xs → xs[i]? = some x, fun i H => ∃ xs, SqL K H a xs ∧ xs.length ≤ i⟩
noncomputable def Itt (K : PySem.W.Frag) (a : Addr) : It :=
 ⟨fun i H => ∃ xs x, SqT K H a xs ∧ xs[i]? = some x, fun i H x H' => H' = H ∧ ∀ xs, SqT K H a xs → xs[i]? = some x, fun i H => ∃ xs, SqT K H a xs ∧ xs.length ≤ i⟩
noncomputable def Itr (lo : Int) (n : Nat) : It := ⟨fun i _ => i < n, fun i H x H' => H' = H ∧ x = .int (lo + i), fun i _ => n ≤ i⟩
theorem turn_list {P : Program} {w : World} {K : PySem.W.Frag} {tg : Expr} (a it : Addr) : Turn P w K tg (Itl K a) [it] it (fun i h => h.IsListIter it a i) where
 mem := by simp
 obj := fun i h st b hb => by
  have e : b = it := by simpa using hb
  subst e
  obtain ⟨o, e, c, d⟩ := st
  exact ⟨o, e, fun v z => by rw [d] at z; cases z⟩
 keep := fun i h h' st k => st.at fun o e => k it (by simp) o e
 item := by
  intro X hP hw hK hc i pins s σ H E I hf st hg
  subst hP hw hK
  obtain ⟨xs, x, hq, hx⟩ := hg
  obtain ⟨its, rv, p, hz⟩ := I.list hq
  obtain ⟨u, hu, ru⟩ := rv.get hx
  obtain ⟨f0, f1, f2, f3, f4, f5⟩ := hf it (by simp)
  refine wpAny_pyNext_list_item st p.isList (x := u) (by simpa using hu) fun h' st' sb => ?_
  have I1 : Inv X pins σ H { s with heap := h' } := I.turned (t' := s.toks) (fun b o hb e => (sb.2 b hb).trans e) f0 f1 f3 f4 f5
  obtain ⟨o, e, c, d⟩ := id st'
  exact ⟨u, rfl, go_of (s := { s with heap := h' }) e c d (by decide) ⟨x, H, I1, ru, ⟨rfl, fun ys hy => by rw [I.list_inj hy hq]; exact hx⟩, st', fun b hb => (hf b hb).1⟩⟩
 done := by
  intro X hP hw hK hc i pins s σ H E I hf st hg
  subst hP hw hK
  obtain ⟨xs, hq, hx⟩ := hg
  obtain ⟨its, rv, p, hz⟩ := I.list hq
  obtain ⟨f0, f1, f2, f3, f4, f5⟩ := hf it (by simp)
  have hl := rv.length
  exact wpAny_pyNext_list_end (I.ok.hd hc) st p.isList (by simp; omega) fun h' eb => ⟨rfl, I.turned (t' := s.toks) (fun b o hb e => eb b o hb e) f0 f1 f3 f4 f5⟩
 self := fun _ _ _ _ _ st h => wpAny_pyIter_listiter st h
theorem turn_tuple {P : Program} {w : World} {K : PySem.W.Frag} {tg : Expr} (a it : Addr) : Turn P w K tg (Itt K a) [it] it (fun i h => h.IsTupleIter it a i) where
 mem := by simp
 obj := fun i h st b hb => by
  have e : b = it := by simpa using hb
  subst e
  obtain ⟨o, e, c, d⟩ := st
  exact ⟨o, e, fun v z => by rw [d] at z; cases z⟩
 keep := fun i h h' st k => st.at fun o e => k it (by simp) o e
 item := by
  intro X hP hw hK hc i pins s σ H E I hf st hg
  subst hP hw hK
  obtain ⟨xs, x, hq, hx⟩ := hg
  obtain ⟨its, rv, p, hz⟩ := I.tuple hq
  obtain ⟨u, hu, ru⟩ := rv.get hx
  obtain ⟨f0, f1, f2, f3, f4, f5⟩ := hf it (by simp)
  refine wpAny_pyNext_tuple_item st (show s.heap.IsTuple a its.toArray from p) (x := u) (by simpa using hu) fun h' st' sb => ?_
  have I1 : Inv X pins σ H { s with heap := h' } := I.turned (t' := s.toks) (fun b o hb e => (sb.2 b hb).trans e) f0 f1 f3 f4 f5
  obtain ⟨o, e, c, d⟩ := id st'
  exact ⟨u, rfl, go_of (s := { s with heap := h' }) e c d (by decide) ⟨x, H, I1, ru, ⟨rfl, fun ys hy => by rw [I.tuple_inj hy hq]; exact hx⟩, st', fun b hb => (hf b hb).1⟩⟩
 done := by
  intro X hP hw hK hc i pins s σ H E I hf st hg
  subst hP hw hK
  obtain ⟨xs, hq, hx⟩ := hg
  obtain ⟨its, rv, p, hz⟩ := I.tuple hq
  obtain ⟨f0, f1, f2, f3, f4, f5⟩ := hf it (by simp)
  have hl := rv.length
  exact wpAny_pyNext_tuple_end (I.ok.hd hc) st (show s.heap.IsTuple a its.toArray from p) (by simp; omega) fun h' eb => ⟨rfl, I.turned (t' := s.toks) (fun b o hb e => eb b o hb e) f0 f1 f3 f4 f5⟩
 self := fun _ _ _ _ _ st h => wpAny_pyIter_tupleiter st h
theorem turn_range {P : Program} {w : World} {K : PySem.W.Frag} {tg : Expr} (it : Addr) (lo : Int) (n : Nat) : Turn P w K tg (Itr lo n) [it] it (fun i h => IsRangeIter h it (lo + (i : Nat) * 1) ((n : Int) - (i : Nat)) 1) where
 mem := by simp
 obj := fun i h st b hb => by
  have e : b = it := by simpa using hb
  subst e
  exact ⟨_, st, fun v z => by
   have z' : Data.fields _ = Data.cell v := z
   cases z'⟩
 keep := fun i h h' st k => k it (by simp) _ st
 item := by
  intro X hP hw hK hc i pins s σ H E I hf st hg
  subst hP hw hK
  obtain ⟨f0, f1, f2, f3, f4, f5⟩ := hf it (by simp)
  have W := Walks.range (prog := X.prog) (w := X.w) (I.ok.hd hc) it lo 1 n
  refine W.item i s _ _ hg st fun v h' tk hv st' kk => ?_
  obtain ⟨t, rfl⟩ := hv
  have I1 : Inv X pins σ H { s with heap := h', toks := tk } := I.turned (fun b o hb e => kk b o (by simpa using hb) e) f0 f1 f3 f4 f5
  refine ⟨_, rfl, go_of (s := { s with heap := h', toks := tk }) (n := "range_iterator") st' rfl rfl (by decide) ⟨.int (lo + i), H, I1, ⟨t, ?_⟩, ⟨rfl, rfl⟩, st', fun b hb => (hf b hb).1⟩⟩
  rw [Int.mul_one]
 done := by
  intro X hP hw hK hc i pins s σ H E I hf st hg
  subst hP hw hK
  obtain ⟨f0, f1, f2, f3, f4, f5⟩ := hf it (by simp)
  exact wpAny_pyNext_range_end (I.ok.hd hc) st (by have : n ≤ i := hg; omega) fun h' eb => ⟨rfl, I.turned (t' := s.toks) (fun b o hb e => eb b o hb e) f0 f1 f3 f4 f5⟩
 self := fun _ _ _ _ _ st h => wpAny_pyIter_rangeiter st h
end L2

namespace L2
open PySem PySem.Spec PyProof.Rows
section
variable {X : Cx} {tg : Expr}
noncomputable def iList (K : PySem.W.Frag) (tl : TE) : TI := fun σ H R => tl σ H fun x H1 => ∃ a, x = .ref a ∧ (∃ xs, SqL K H1 a xs) ∧ R (Itl K a) H1
noncomputable def iTup (K : PySem.W.Frag) (tl : TE) : TI := fun σ H R => tl σ H fun x H1 => ∃ a, x = .ref a ∧ (∃ xs, SqT K H1 a xs) ∧ R (Itt K a) H1
theorem pi_list {l : Expr} {tl : TE} (hl : PE X l tl) : PI X tg l (iList X.K tl) := by
 intro pins s σ H R I h
 refine thn (hl pins s σ H _ I h) fun v s1 ⟨x, H1, I1, r1, q1⟩ => ?_
 obtain ⟨a, e, ⟨xs, hq⟩, q⟩ := q1
 subst e
 cases r1
 obtain ⟨its, rv, p, hz⟩ := I1.list hq
 refine wpAny_pyIter_list p.isList ?_
 refine ⟨s1.heap.objs.size, [s1.heap.objs.size], _, _, H1, rfl, I1.kept (t' := s1.toks) fun b o e => Heap.get?_push_of_some _ e, turn_list a _, ⟨_, Heap.get?_push_size _ rfl, rfl, rfl⟩, fun b hb => ?_, q⟩
 have e : b = s1.heap.objs.size := by simpa using hb
 subst e
 exact I1.fpOk (Nat.le_refl _) (I1.hok.fresh (Nat.le_refl _))
theorem pi_tup {l : Expr} {tl : TE} (hl : PE X l tl) : PI X tg l (iTup X.K tl) := by
 intro pins s σ H R I h
 refine thn (hl pins s σ H _ I h) fun v s1 ⟨x, H1, I1, r1, q1⟩ => ?_
 obtain ⟨a, e, ⟨xs, hq⟩, q⟩ := q1
 subst e
 cases r1
 obtain ⟨its, rv, p, hz⟩ := I1.tuple hq
 refine wpAny_pyIter_tuple (show s1.heap.IsTuple a its.toArray from p) ?_
 refine ⟨s1.heap.objs.size, [s1.heap.objs.size], _, _, H1, rfl, I1.kept (t' := s1.toks) fun b o e => Heap.get?_push_of_some _ e, turn_tuple a _, ⟨_, Heap.get?_push_size _ rfl, rfl, rfl⟩, fun b hb => ?_, q⟩
 have e : b = s1.heap.objs.size := by simpa using hb
 subst e
 exact I1.fpOk (Nat.le_refl _) (I1.hok.fresh (Nat.le_refl _))
theorem range_it {pins : List (Addr × Obj)} {σ : St} {H : Hp} {s : Shared} {R : It → Hp → Prop} {E : Value → Shared → Prop} {lo hi : Int} {t u v : Tok} {tk : Nat} (I : Inv X pins σ H s) (h1 : -(2 ^ 62) ≤ lo) (h2 : lo < 2 ^ 62) (h3 : -(2 ^ 62) ≤ hi) (h4 : hi < 2 ^ 62)
  (q : R (Itr lo (hi - lo).toNat) H) : wpAny (model X.prog X.w) X.A (pyIter (.ref s.heap.objs.size)) (PIE X pins σ tg R) E { s with heap := s.heap.push { cls := .type "range", data := .fields #[.int lo t, .int hi u, .int 1 v] }, toks := tk } := by
 refine wpAny_pyIter_range (IsRange.new ..) (small_one h1 h2 h3 h4) ?_
 have I1 : Inv X pins σ H { s with heap := s.heap.push { cls := .type "range", data := .fields #[.int lo t, .int hi u, .int 1 v] }, toks := tk } := I.kept fun b o e => Heap.get?_push_of_some _ e
 refine ⟨(s.heap.push { cls := .type "range", data := .fields #[.int lo t, .int hi u, .int 1 v] }).objs.size, [(s.heap.push { cls := .type "range", data := .fields #[.int lo t, .int hi u, .int 1 v] }).objs.size], _, _, H, rfl,
  I1.kept (t' := tk) fun b o e => Heap.get?_push_of_some _ e, turn_range _ lo (hi - lo).toNat, ?_, fun b hb => ?_, q⟩
 ·have e1 : lo + ((0 : Nat) : Int) * 1 = lo := by simp
  have e2 : (((hi - lo).toNat : Nat) : Int) - ((0 : Nat) : Int) = Builtin.Range.rangeSize lo hi 1 := by rw [rangeSize_one]; split <;> omega
  show IsRangeIter _ _ (lo + ((0 : Nat) : Int) * 1) ((((hi - lo).toNat : Nat) : Int) - ((0 : Nat) : Int)) 1
  rw [e1, e2]
  exact Heap.get?_push_size _ rfl
 ·have e : b = (s.heap.push { cls := .type "range", data := .fields #[.int lo t, .int hi u, .int 1 v] }).objs.size := by simpa using hb
  subst e
  exact I1.fpOk (Nat.le_refl _) (I1.hok.fresh (Nat.le_refl _))
noncomputable def iRng1 (ta : TA) : TI := fun σ H R => ta σ H fun vs H1 => ∃ j : Int, vs = [.int j] ∧ -(2 ^ 62) ≤ j ∧ j < 2 ^ 62 ∧ R (Itr 0 j.toNat) H1
theorem pi_range1 {a : Expr} {ta : TA} {p pos : Pos} (hg : Gl X "range") (hm : X.mg "range" = none) (ha : PA X [a] ta) (hs : starEach [a] X.env = [(false, eval a X.env)] := by rfl) : PI X tg (.Call (.Name "range" p) [a] [] pos) (iRng1 ta) := by
 intro pins s σ H R I h
 refine Call_ (ld_blt I hg hm boot_range (PyProof.Rows.callWith_type1 (thn (ha pos pins s σ H _ I h) fun us s1 ⟨vs, H1, I1, r1, q1⟩ => ?_) hs rfl))
 obtain ⟨j, e, q1, q2, q⟩ := q1
 subst e
 cases r1 with
 | cons r rr =>
  cases rr
  obtain ⟨t, rfl⟩ := r
  exact call_range_1 (range_it I1 (by omega) (by omega) q1 q2 (by simpa using q))

noncomputable def tFor (wi : TI) (g : TG) (tb : TS) : TS := fun D σ H => wi σ H fun J H1 => ∃ W : Nat → Nat → St → Hp → Prop, (∃ m, W 0 m σ H1) ∧ ∀ i m σ H, W i m σ H →
 (J.stop i H ∧ D.nx σ H) ∨ (J.go i H ∧ ∃ N : St → Hp → Prop, (∀ σ' H', N σ' H' → ∃ m', m' < m ∧ W (i + 1) m' σ' H') ∧ ∀ x H', J.yld i H x H' → g x σ H' fun σ2 H2 => tb { D with nx := N, ct := N, bk := D.nx } σ2 H2)
noncomputable def pinsAt (fp : List Addr) (h : Heap) : List (Addr × Obj) := fp.filterMap fun b => (h.get? b).map fun o => (b, o)
theorem mem_pinsAt {fp : List Addr} {h : Heap} {b : Addr} {o : Obj} (hb : b ∈ fp) (e : h.get? b = some o) : (b, o) ∈ pinsAt fp h := List.mem_filterMap.mpr ⟨b, hb, by rw [e]; rfl⟩
theorem of_pinsAt {fp : List Addr} {h : Heap} {p : Addr × Obj} (hp : p ∈ pinsAt fp h) : p.1 ∈ fp ∧ h.get? p.1 = some p.2 := by
 obtain ⟨b, hb, e⟩ := List.mem_filterMap.mp hp
 cases q : h.get? b with
 | none => rw [q] at e; cases e
 | some o =>
  rw [q] at e
  have e' : (b, o) = p := Option.some.inj e
  subst e'
  exact ⟨hb, q⟩
theorem Inv.pinned {pins : List (Addr × Obj)} {σ : St} {H : Hp} {s : Shared} {fp : List Addr} (I : Inv X pins σ H s) (hf : ∀ b ∈ fp, FpOk X pins H b) (ho : ∀ b ∈ fp, ∃ o, s.heap.get? b = some o ∧ ∀ v, o.data ≠ .cell v) : Inv X (pins ++ pinsAt fp s.heap) σ H s :=
 I.pins_of fun p hp => (List.mem_append.mp hp).elim (fun z => I.pin p (List.mem_append_right _ z)) fun z => by
  obtain ⟨hb, e⟩ := of_pinsAt z
  obtain ⟨f0, f1, f2, _⟩ := hf p.1 hb
  obtain ⟨o, e', d⟩ := ho p.1 hb
  rw [e] at e'; cases e'
  exact ⟨e, f0, f1, f2, d⟩
theorem Inv.unpinned {pins pl : List (Addr × Obj)} {σ : St} {H : Hp} {s : Shared} (I : Inv X (pins ++ pl) σ H s) : Inv X pins σ H s := I.pins_of fun p hp => I.pin p (List.mem_append_right _ (List.mem_append_left _ hp))
theorem ps_for {iter : Expr} {body : List Stmt} {wi : TI} {g : TG} {tb : TS} {pos : Pos} (hp : PassesOwn (model X.prog X.w) X.A X.env X.xe) (hc : X.calm = true) (hi : PI X tg iter wi) (hg : PG X tg g) (hb : PSs X body tb)
  (hs : ∀ x, foldedSetIterable iter X.env x = pure x := by intro _; rfl) : PS X (.For tg iter body [] pos) (tFor wi g tb) := by
 intro pins s σ H D I h
 refine wpAny_For (thn (hi pins s σ H _ I h) fun v s1 h1 => thn h1 fun itv s2 h2 => ?_) hs
 obtain ⟨it, fp, tn, J, H2, e, I2, T, st2, f2, W, ⟨m0, w0⟩, turn⟩ := h2
 subst e
 have stat : ∀ {H' : Hp}, (∀ b ∈ fp, H' b = none) → ∀ b ∈ fp, FpOk X pins H' b := fun hn b hb => ⟨hn b hb, (f2 b hb).2⟩
 refine codeAny_forLoop_any (fun n s' => ∃ i σ' H', Inv X pins σ' H' s' ∧ tn i s'.heap ∧ (∀ b ∈ fp, H' b = none) ∧ W i n σ' H') ?_ m0 ⟨0, σ, H2, I2, st2, fun b hb => (f2 b hb).1, w0⟩
 rintro n s3 ⟨i, σ3, H3, I3, st3, fr3, w3⟩
 rcases turn i n σ3 H3 w3 with ⟨stop, qn⟩ | ⟨go, N, hN, step⟩
 ·refine wpAny_passesOwn hp (thn (T.done X rfl rfl rfl hc i pins s3 σ3 H3 X.xe I3 (stat fr3) st3 stop) fun r s4 ⟨hr, I4⟩ => ?_)
  subst hr
  exact wpAny_execs_nil ⟨σ3, H3, I4, qn⟩
 ·refine wpAny_passesOwn hp (thn (T.item X rfl rfl rfl hc i pins s3 σ3 H3 X.xe I3 (stat fr3) st3 go) fun r s4 ⟨u, hr, h4⟩ => ?_)
  subst hr
  refine wpAny_passesOwn hp (thn h4 fun _ s5 ⟨x, H5, I5, r5, y5, st5, fr5⟩ => ?_)
  have I5' := I5.pinned (stat fr5) (T.obj _ _ st5)
  refine wpAny_passesOwn hp (thn (hg _ s5 σ3 H5 x u _ I5' r5 (step x H5 y5)) fun _ s6 ⟨σ6, H6, I6, q6⟩ => ?_)
  refine wpAny_passesOwn hp (thn (hb _ s6 σ6 H6 _ I6 q6) fun f s7 q7 => ?_)
  have again : ∀ {σ7 : St} {H7 : Hp}, Inv X (pins ++ pinsAt fp s5.heap) σ7 H7 s7 → N σ7 H7 → ∃ m, m < n ∧ ∃ i σ' H', Inv X pins σ' H' s7 ∧ tn i s7.heap ∧ (∀ b ∈ fp, H' b = none) ∧ W i m σ' H' := fun {σ7 H7} I7 n7 => by
   obtain ⟨m', hm, w7⟩ := hN σ7 H7 n7
   refine ⟨m', hm, i + 1, σ7, H7, I7.unpinned, T.keep _ _ _ st5 fun b hb o e => (I7.pin (b, o) (List.mem_append_right _ (List.mem_append_right _ (mem_pinsAt hb e)))).1, fun b hb => ?_, w7⟩
   obtain ⟨o, e, d⟩ := T.obj _ _ st5 b hb
   exact (I7.pin (b, o) (List.mem_append_right _ (List.mem_append_right _ (mem_pinsAt hb e)))).2.1
  cases f with
  | next => obtain ⟨σ7, H7, I7, n7⟩ := q7; exact again I7 n7
  | cont => obtain ⟨σ7, H7, I7, n7⟩ := q7; exact again I7 n7
  | brk => obtain ⟨σ7, H7, I7, q7⟩ := q7; exact ⟨σ7, H7, I7.unpinned, q7⟩
  | ret v => obtain ⟨x7, σ7, H7, I7, r7, q7⟩ := q7; exact ⟨x7, σ7, H7, I7.unpinned, r7, q7⟩
end

end L2

namespace L2
open PySem PySem.Spec PyProof.Rows

noncomputable abbrev R2 := V → V → Hp → VK → Prop
noncomputable def OpR (X : Cx) (f : Value → Value → Sem Value) (r : R2) : Prop :=
 ∀ (pins : List (Addr × Obj)) (s : Shared) (σ : St) (H : Hp) (x y : V) (v u : Value) (Q : VK), Inv X pins σ H s → RelV x v → RelV y u → r x y H Q →
  wpAny (model X.prog X.w) X.A (f v u) (EP X pins σ Q) X.xe s
noncomputable def UnR (X : Cx) (f : Value → Sem Value) (r : V → Hp → VK → Prop) : Prop :=
 ∀ (pins : List (Addr × Obj)) (s : Shared) (σ : St) (H : Hp) (x : V) (v : Value) (Q : VK), Inv X pins σ H s → RelV x v → r x H Q →
  wpAny (model X.prog X.w) X.A (f v) (EP X pins σ Q) X.xe s
noncomputable def CallR (X : Cx) (f : Value) (r : List V → Hp → VK → Prop) : Prop :=
 ∀ (pins : List (Addr × Obj)) (s : Shared) (σ : St) (H : Hp) (xs : List V) (us : List Value) (Q : VK), Inv X pins σ H s → Vals xs us → r xs H Q →
  wpAny (model X.prog X.w) X.A (call f us) (EP X pins σ Q) X.xe s

noncomputable def tOp (r : R2) (ta tb : TE) : TE := fun σ H Q => ta σ H fun x H1 => tb σ H1 fun y H2 => r x y H2 Q
noncomputable def tUn (r : V → Hp → VK → Prop) (ta : TE) : TE := fun σ H Q => ta σ H fun x H1 => r x H1 Q
noncomputable def rI (C : Int → Int → Prop) (g : Int → Int → V) : R2 := fun x y H Q => ∃ i j, x = .int i ∧ y = .int j ∧ C i j ∧ Q (g i j) H
noncomputable def rI0 (g : Int → Int → V) : R2 := fun x y H Q => ∃ i j, x = .int i ∧ y = .int j ∧ Q (g i j) H
noncomputable def rU (g : Int → V) : V → Hp → VK → Prop := fun x H Q => ∃ i, x = .int i ∧ Q (g i) H

section
variable {X : Cx} {a b c : Expr} {ta tb tc : TE} {pos : Pos}

theorem binT (ha : PE X a ta) (hb : PE X b tb) {pins : List (Addr × Obj)} {s : Shared} {σ : St} {H : Hp} {R : V → V → Hp → Prop} (I : Inv X pins σ H s)
  (h : ta σ H fun x H1 => tb σ H1 fun y H2 => R x y H2) {Q : Value → Shared → Prop} {f : Value → Value → Sem Value}
  (hf : ∀ v u s2 x y H2, Inv X pins σ H2 s2 → RelV x v → RelV y u → R x y H2 → wpAny (model X.prog X.w) X.A (f v u) Q X.xe s2) :
  wpAny (model X.prog X.w) X.A (eval a X.env) (fun v s₁ => wpAny (model X.prog X.w) X.A (eval b X.env) (fun u s₂ => wpAny (model X.prog X.w) X.A (f v u) Q X.xe s₂) X.xe s₁) X.xe s := by
 refine thn (ha pins s σ H _ I h) fun v s1 ⟨x, H1, I1, r1, q1⟩ => ?_
 refine thn (hb pins s1 σ H1 _ I1 q1) fun u s2 ⟨y, H2, I2, r2, q2⟩ => ?_
 exact hf v u s2 x y H2 I2 r1 r2 q2

theorem pe_op {op : Operator} {r : R2} (ho : OpR X (binaryOp op) r) (ha : PE X a ta) (hb : PE X b tb) : PE X (.BinOp a op b pos) (tOp r ta tb) := by
 intro pins s σ H Q I h
 exact wpAny_BinOp (binT ha hb I h fun v u s2 x y H2 I2 rx ry q => ho pins s2 σ H2 x y v u Q I2 rx ry q)
theorem pe_un {op : UnaryOp} {r : V → Hp → VK → Prop} (ho : UnR X (unaryOp op) r) (ha : PE X a ta) : PE X (.UnaryOp op a pos) (tUn r ta) := by
 intro pins s σ H Q I h
 exact UnaryOp_ (thn (ha pins s σ H _ I h) fun v s1 ⟨x, H1, I1, r1, q1⟩ => ho pins s1 σ H1 x v Q I1 r1 q1)

theorem opI {f : Value → Value → Sem Value} {C : Int → Int → Prop} {g : Int → Int → Int}
  (rule : ∀ (i j : Int) (t u : Tok) (s : Shared) (Q : Value → Shared → Prop) (E : Value → Shared → Prop), C i j → Q (.int (g i j) s.toks) { s with toks := s.toks + 1 } → wpAny (model X.prog X.w) X.A (f (.int i t) (.int j u)) Q E s) :
  OpR X f (rI C fun i j => .int (g i j)) := by
 intro pins s σ H x y v u Q I rx ry h
 obtain ⟨i, j, rfl, rfl, hc, q⟩ := h
 obtain ⟨t, rfl⟩ := rx
 obtain ⟨t', rfl⟩ := ry
 exact rule i j t t' s _ _ hc ⟨.int (g i j), H, I.tok _, ⟨_, rfl⟩, q⟩
theorem opI0 {f : Value → Value → Sem Value} {g : Int → Int → Int}
  (rule : ∀ (i j : Int) (t u : Tok) (s : Shared) (Q : Value → Shared → Prop) (E : Value → Shared → Prop), Q (.int (g i j) s.toks) { s with toks := s.toks + 1 } → wpAny (model X.prog X.w) X.A (f (.int i t) (.int j u)) Q E s) :
  OpR X f (rI0 fun i j => .int (g i j)) := by
 intro pins s σ H x y v u Q I rx ry h
 obtain ⟨i, j, rfl, rfl, q⟩ := h
 obtain ⟨t, rfl⟩ := rx
 obtain ⟨t', rfl⟩ := ry
 exact rule i j t t' s _ _ ⟨.int (g i j), H, I.tok _, ⟨_, rfl⟩, q⟩


theorem op_add : OpR X (binaryOp .Add) (rI0 fun i j => .int (i + j)) := opI0 fun _ _ _ _ _ _ _ q => add_int q
theorem op_sub : OpR X (binaryOp .Sub) (rI0 fun i j => .int (i - j)) := opI0 fun _ _ _ _ _ _ _ q => sub_int q
theorem op_mod : OpR X (binaryOp .Mod) (rI (fun _ j => 0 < j) fun i j => .int (i % j)) := opI fun i j _ _ _ _ _ hc q => by
 have h1 : (0 : Int) < j := hc
 exact mod_int' (by omega) (by rw [Int.fmod_eq_emod_of_nonneg i (by omega)]; exact q)


theorem unI {f : Value → Sem Value} {g : Int → Int}
  (rule : ∀ (i : Int) (t : Tok) (s : Shared) (Q : Value → Shared → Prop) (E : Value → Shared → Prop), Q (.int (g i) s.toks) { s with toks := s.toks + 1 } → wpAny (model X.prog X.w) X.A (f (.int i t)) Q E s) :
  UnR X f (rU fun i => .int (g i)) := by
 intro pins s σ H x v Q I rx h
 obtain ⟨i, rfl, q⟩ := h
 obtain ⟨t, rfl⟩ := rx
 exact rule i t s _ _ ⟨.int (g i), H, I.tok _, ⟨_, rfl⟩, q⟩
theorem un_neg : UnR X (unaryOp .USub) (rU fun i => .int (-i)) := unI fun _ _ _ _ _ q => neg_int q

end

noncomputable def scal : V → V → Bool
 | .non, .non => true | .non, .int _ => true | .int _, .non => true | .non, .bl _ => true | .bl _, .non => true | .non, .str _ => true | .str _, .non => true
 | .int _, .int _ => true | .bl _, .bl _ => true | .str _, .str _ => true | .byt _, .byt _ => true
 | .int _, .str _ => true | .str _, .int _ => true | .bl _, .str _ => true | .str _, .bl _ => true
 | _, _ => false
noncomputable def rEq : R2 := fun x y H Q => scal x y = true ∧ Q (.bl (decide (x = y))) H

theorem dec_int {i j : Int} : decide (V.int i = V.int j) = (i == j) := by
 rw [Bool.eq_iff_iff]
 simp
theorem dec_bl {i j : Bool} : decide (V.bl i = V.bl j) = (i == j) := by
 rw [Bool.eq_iff_iff]
 simp
theorem dec_str {i j : Str} : decide (V.str i = V.str j) = (i == j) := by
 rw [Bool.eq_iff_iff]
 simp
theorem dec_byt {i j : Array UInt8} : decide (V.byt i = V.byt j) = (i.toList == j.toList) := by
 rw [Bool.eq_iff_iff]
 cases i
 cases j
 simp

section
variable {X : Cx} {a b c : Expr} {ta tb tc : TE} {pos : Pos}
theorem fin_bl {pins : List (Addr × Obj)} {σ : St} {H : Hp} {s : Shared} {Q : VK} {k k' : Bool} (I : Inv X pins σ H s) (q : Q (.bl k) H) (e : k = k') : EP X pins σ Q (.bool k') s := by
 subst e
 exact ⟨.bl k, H, I, rfl, q⟩
theorem op_eq : OpR X (compareOp .Eq) rEq := by
 intro pins s σ H x y v u Q I rx ry h
 obtain ⟨hs, q⟩ := h
 cases x with
 | non =>
  cases rx
  cases y with
  | non => cases ry; exact PySem.EqNone.eq_none_none (fin_bl I q (by simp))
  | bl j => cases ry; exact PySem.EqNone.eq_none_bool (fin_bl I q (by simp))
  | int j => obtain ⟨t', rfl⟩ := ry; exact PySem.EqNone.eq_none_int (fin_bl I q (by simp))
  | str j => obtain ⟨t', rfl⟩ := ry; exact PySem.EqNone.eq_none_str (fin_bl I q (by simp))
  | _ => exact absurd (show false = true from hs) Bool.false_ne_true
 | bl i =>
  cases rx
  cases y with
  | non => cases ry; exact PySem.EqNone.eq_bool_none (fin_bl I q (by simp))
  | bl j => cases ry; exact eq_bool (fin_bl I q dec_bl)
  | str j => obtain ⟨t', rfl⟩ := ry; exact PySem.EqMixed.eq_bool_str (fin_bl I q (by simp))
  | _ => exact absurd (show false = true from hs) Bool.false_ne_true
 | int i =>
  obtain ⟨t, rfl⟩ := rx
  cases y with
  | non => cases ry; exact PySem.EqNone.eq_int_none (fin_bl I q (by simp))
  | int j => obtain ⟨t', rfl⟩ := ry; exact eq_int (fin_bl I q dec_int)
  | str j => obtain ⟨t', rfl⟩ := ry; exact PySem.EqMixed.eq_int_str (fin_bl I q (by simp))
  | _ => exact absurd (show false = true from hs) Bool.false_ne_true
 | str i =>
  obtain ⟨t, rfl⟩ := rx
  cases y with
  | non => cases ry; exact PySem.EqNone.eq_str_none (fin_bl I q (by simp))
  | bl j => cases ry; exact PySem.EqMixed.eq_str_bool (fin_bl I q (by simp))
  | int j => obtain ⟨t', rfl⟩ := ry; exact PySem.EqMixed.eq_str_int (fin_bl I q (by simp))
  | str j => obtain ⟨t', rfl⟩ := ry; exact eq_str (fin_bl I q dec_str)
  | _ => exact absurd (show false = true from hs) Bool.false_ne_true
 | byt i =>
  obtain ⟨t, rfl⟩ := rx
  cases y with
  | byt j => obtain ⟨t', rfl⟩ := ry; exact PySem.W.eq_bytes (fin_bl I q dec_byt)
  | _ => exact absurd (show false = true from hs) Bool.false_ne_true
 | _ => cases y <;> exact absurd (show false = true from hs) Bool.false_ne_true





theorem pe_cmpR {op : CmpOp} {r : R2} (ho : OpR X (compareOp op) r) (ha : PE X a ta) (hb : PE X b tb) (hm : behindInMarks op b = false) : PE X (.Compare a [op] [b] pos) (tOp r ta tb) := by
 intro pins s σ H Q I h
 exact wpAny_Compare1 (binT ha hb I h fun v u s2 x y H2 I2 rx ry q => ho pins s2 σ H2 x y v u Q I2 rx ry q) hm
noncomputable def tTest (t : TE) : TT := fun σ H Q => t σ H fun x H' => ∃ k, x = .bl k ∧ Q k H'
theorem pt_cmpR {op : CmpOp} {r : R2} (ho : OpR X (compareOp op) r) (ha : PE X a ta) (hb : PE X b tb) (hm : behindInMarks op b = false) : PT X (.Compare a [op] [b] pos) (tTest (tOp r ta tb)) := by
 intro pins s σ H Q I h
 refine wpAny_isTrue_Compare1 (thn (ha pins s σ H _ I h) fun v s1 ⟨x, H1, I1, r1, q1⟩ => thn (hb pins s1 σ H1 _ I1 q1) fun u s2 ⟨y, H2, I2, r2, q2⟩ =>
  thn (ho pins s2 σ H2 x y v u _ I2 r1 r2 q2) fun c s3 ⟨z, H3, I3, r3, k, e, q3⟩ => ?_) hm
 subst e
 cases r3
 exact wpAny_truthy_bool ⟨H3, I3, q3⟩

theorem line63 : (sizeLine : Nat) < 2 ^ 63 := by rw [sizeLine_eq]; decide



theorem vals1 {x : V} {us : List Value} (r : Vals [x] us) : ∃ u, us = [u] ∧ RelV x u := by
 cases r with
 | cons r1 r2 => cases r2; exact ⟨_, rfl, r1⟩
theorem vals2 {x y : V} {us : List Value} (r : Vals [x, y] us) : ∃ u w', us = [u, w'] ∧ RelV x u ∧ RelV y w' := by
 cases r with
 | cons r1 r2 =>
  cases r2 with
  | cons r3 r4 => cases r4; exact ⟨_, _, rfl, r1, r3⟩
theorem call_abs : CallR X (.builtin "abs") (fun xs H Q => ∃ i, xs = [.int i] ∧ Q (.int (if i < 0 then -i else i)) H) := by
 intro pins s σ H xs us Q I r h
 obtain ⟨i, rfl, q⟩ := h
 obtain ⟨u, rfl, t, rfl⟩ := vals1 r
 exact call_abs_int fun u tk => ⟨.int (if i < 0 then -i else i), H, I.tok _, ⟨_, rfl⟩, q⟩
end
end L2

namespace L2
open PySem PySem.Spec PyProof.Rows

structure ObjM (h : Heap) (x dx C : Addr) (mA : Str → Option Value) : Prop where
 obj : h.get? x = some (PySem.W.instObj C dx)
 ns : h.Ns1 dx mA
 ne : dx ≠ x

theorem lookIn_ns {h : Heap} {dx : Addr} {mA : Str → Option Value} (n : h.Ns1 dx mA) : ∃ od, h.get? dx = some od ∧ ∀ name, PySem.W.lookIn name od = some (mA name) := by
 obtain ⟨o, es, ep, ho, hd, hk, _, hm⟩ := n
 refine ⟨o, ho, fun name => ?_⟩
 have e := hm name
 unfold nsFind findBy at e
 rw [← Array.find?_toList] at e
 unfold PySem.W.lookIn
 rw [hd]
 dsimp only
 split
 ·rename_i y q
  rw [q] at e
  exact congrArg some e
 ·rename_i q
  rw [q] at e
  have a : es.toList.any (·.refKey) = false := by
   rw [List.any_eq_false]
   intro y hy
   obtain ⟨z, t, hkey⟩ := hk y (Array.mem_toList_iff.mp hy)
   simp [DictEntry.refKey, hkey]
  have a' : ¬ es.toList.any (·.refKey) = true := by rw [a]; exact Bool.false_ne_true
  rw [if_neg a']
  exact congrArg some e

theorem ObjM.look {h : Heap} {x dx C : Addr} {mA : Str → Option Value} (I : ObjM h x dx C mA) : ∃ od, PySem.W.InstAt h x (PySem.W.instObj C dx) C (some od) ∧ ∀ name, PySem.W.lookIn name od = some (mA name) :=
 let ⟨od, ho, hl⟩ := lookIn_ns I.ns
 ⟨od, ⟨I.obj, rfl, rfl, ho⟩, hl⟩

section
variable {prog : Program} {w : World} {A : Around} {E : Value → Shared → Prop} {s : Shared} {K : PySem.W.Frag} {x dx C f : Addr} {mA : Str → Option Value} {name : Str} {v : Value}

theorem get_map {expr : Bool} {Q : Value → Shared → Prop} (X : K.In s.heap) (I : ObjM s.heap x dx C mA) (hg : PySem.W.plainGet K C name = true) (hh : PySem.W.hasDictIn K C = true)
  (ha : PySem.W.findIn K (.ref C) name = some none) (hv : mA name = some v) (hv' : PySem.W.handedIn v = true) (h : Q v { s with toks := s.toks + 1 }) :
  wpAny (model prog w) A (getAttr (.ref x) name expr) Q E s := by
 obtain ⟨od, J, hl⟩ := I.look
 exact PySem.W.get_value X J (PySem.W.plainGet_of hg).1 (PySem.W.findObj_own hh ha rfl (by rw [hl, hv])) hv' h


theorem get_meth {pl : Sem Bool} {Q : Value × List Value → Shared → Prop} (X : K.In s.heap) (I : ObjM s.heap x dx C mA) (hg : PySem.W.plainGet K C name = true)
  (hf : PySem.W.findIn K (.ref C) name = some (some (.ref f))) (ht : PySem.W.isFn K (.ref f) = true) (hv : mA name = none) (h : Q (.ref f, [.ref x]) s) :
  wpAny (model prog w) A (getMethod (.ref x) name pl) Q E s := by
 obtain ⟨od, J, hl⟩ := I.look
 exact PySem.W.method_fn X J (PySem.W.plainGet_of hg).1 (PySem.W.plainGet_of hg).2 hf (beq_iff_eq.mp ht) (by show (PySem.W.lookIn name od).map (·.isSome) = some false; rw [hl, hv]; rfl) h

theorem set_map {ns : List Str} {Q : Unit → Shared → Prop} (X : K.In s.heap) (I : ObjM s.heap x dx C mA)
  (hs : PySem.W.findIn K (.ref C) "__setattr__" = some (some (.builtin "object.__setattr__"))) (hp : PySem.W.plainOver K C = true) (ht : PySem.W.takerIn K C name = some none) (hh : PySem.W.hasDictIn K C = true)
  (hw : PySem.Within mA ns) (hsz : ns.length ≤ sizeLine)
  (h : ∀ h', ObjM h' x dx C (fun y => if y = name then some v else mA y) → Heap.SameBut dx s.heap h' → Q () { s with heap := h', toks := s.toks + 2 }) :
  wpAny (model prog w) A (setAttr (.ref x) name v) Q E s := by
 obtain ⟨od, J, hl⟩ := I.look
 refine PySem.W.set_plain X J hs (PySem.W.osa_open (s := { s with toks := s.toks + 1 }) (r := none) X J hp ht fun b => ?_)
 obtain ⟨cd, hc, hd'⟩ := PySem.W.any_some hh
 have hx : s.heap.get? x = some ⟨.ref C, some dx, .plain, #[]⟩ := I.obj
 refine wpAny_bind (wpAny_pure (wpAny_bind (wpAny_bind (wpAny_loadPart hx (wpAny_bind (PySem.W.Looks.here (s := { s with toks := s.toks + 1 }) (PySem.W.looks_clsIn X hc) ?_))))))
 rw [hd']
 refine wpAny_pure (a := some dx) (wpAny_bind (wpAny_pure (wpAny_bind ?_)))
 refine wpAny_nsSet1 (s := { s with toks := s.toks + 1 }) I.ns fun h' hn2 hs2 => ?_
 obtain ⟨oD, esD, epD, hoD, hdD, hcD⟩ := hn2.count (PySem.Within.cons name v hw)
 refine wpAny_bind (wpAny_lookBehind hoD (by rw [hdD]; exact pastItsLine_dict (Nat.le_trans hcD (by rw [List.length_cons]; omega))) ?_)
 exact wpAny_pure (h _ ⟨(hs2.2 _ (Ne.symm I.ne)).trans I.obj, hn2, I.ne⟩ hs2)

theorem make_map {R : Result → Shared → Prop} {vs : List Value} {kw : List (Str × Value)} (X : K.In s.heap) (hm : PySem.W.makesIn K C = true)
  (hi : PySem.W.findIn K (.ref C) "__init__" = some (some (.ref f))) (hf : PySem.W.typeIn K (.ref f) = some (.type "function"))
  (h : codeAny (model prog w) (A.under (.builtin "type.__call__" ⟨.ref C :: vs, kw⟩)) (.call (.ref f) ⟨.ref (s.heap.objs.size + 1) :: vs, kw⟩) (PySem.W.InitBack (s.heap.objs.size + 1) R)
   { s with heap := (s.heap.push PySem.W.emptyDict).push (PySem.W.instObj C s.heap.objs.size) }) :
  codeAny (model prog w) A (.call (.ref C) ⟨vs, kw⟩) R s := by
 obtain ⟨hh, g, d, t, os⟩ := s
 exact PySem.W.make_core (PySem.W.makes_of X hm) (PySem.W.looks_findIn X hi) (fun self => PySem.W.bind_fn X self hf) (.inl rfl) h
end

noncomputable def putF (f : Str) (v : V) : List (Str × V) → List (Str × V)
 | [] => [(f, v)]
 | (g, x) :: r => if g = f then (g, v) :: r else (g, x) :: putF f v r
theorem lookup_putF (f g : Str) (v : V) : ∀ fs : List (Str × V), (putF f v fs).lookup g = if g = f then some v else fs.lookup g
 | [] => by
  show List.lookup g [(f, v)] = _
  by_cases h : g = f
  ·have hb : (g == f) = true := beq_iff_eq.mpr h
   simp only [List.lookup, hb, if_pos h]
  ·have hb : (g == f) = false := beq_eq_false_iff_ne.mpr h
   simp only [List.lookup, hb, if_neg h]
 | (k, x) :: r => by
  have ih := lookup_putF f g v r
  rw [show putF f v ((k, x) :: r) = (if k = f then (k, v) :: r else (k, x) :: putF f v r) from rfl]
  by_cases hk : k = f
  ·rw [if_pos hk]
   by_cases h : g = k
   ·have hb : (g == k) = true := beq_iff_eq.mpr h
    simp only [List.lookup, hb, if_pos (h.trans hk)]
   ·have hb : (g == k) = false := beq_eq_false_iff_ne.mpr h
    simp only [List.lookup, hb, if_neg (fun e : g = f => h (e.trans hk.symm))]
  ·rw [if_neg hk]
   by_cases h : g = k
   ·have hb : (g == k) = true := beq_iff_eq.mpr h
    simp only [List.lookup, hb, if_neg (fun e : g = f => hk (h.symm.trans e))]
   ·have hb : (g == k) = false := beq_eq_false_iff_ne.mpr h
    simp only [List.lookup, hb]
    exact ih
theorem keys_putF (f : Str) (v : V) : ∀ fs : List (Str × V), f ∈ (putF f v fs).map (·.1) ∧ ∀ g, g ∈ fs.map (·.1) → g ∈ (putF f v fs).map (·.1)
 | [] => ⟨by simp [putF], fun g h => by simp at h⟩
 | (k, x) :: r => by
  obtain ⟨i1, i2⟩ := keys_putF f v r
  rw [show putF f v ((k, x) :: r) = (if k = f then (k, v) :: r else (k, x) :: putF f v r) from rfl]
  by_cases hk : k = f
  ·rw [if_pos hk]
   subst hk
   exact ⟨by simp, fun g h => by simpa using h⟩
  ·rw [if_neg hk]
   refine ⟨?_, fun g h => ?_⟩
   ·rw [List.map_cons]
    exact List.mem_cons_of_mem _ i1
   ·rw [List.map_cons] at h ⊢
    rcases List.mem_cons.mp h with e | e
    ·exact List.mem_cons.mpr (.inl e)
    ·exact List.mem_cons_of_mem _ (i2 g e)
theorem length_putF (f : Str) (v : V) : ∀ fs : List (Str × V), (putF f v fs).length ≤ fs.length + 1
 | [] => by simp [putF]
 | (k, x) :: r => by
  have ih := length_putF f v r
  rw [show putF f v ((k, x) :: r) = (if k = f then (k, v) :: r else (k, x) :: putF f v r) from rfl]
  by_cases hk : k = f
  ·rw [if_pos hk, List.length_cons, List.length_cons]; omega
  ·rw [if_neg hk, List.length_cons, List.length_cons]; omega

theorem RelO.some_of {v : V} {o : Option Value} (r : RelO (some v) o) : ∃ u, o = some u ∧ RelV v u := by
 cases o with
 | none => exact (show False from r).elim
 | some u => exact ⟨u, rfl, r⟩
theorem RelO.none_of {o : Option Value} (r : RelO none o) : o = none := by
 cases o with
 | none => rfl
 | some u => exact (show False from r).elim
theorem handed_of {v : V} {u : Value} (r : RelV v u) : PySem.W.handedIn u = true := by
 cases v with
 | non => cases (show u = Value.none from r); rfl
 | bl b => cases (show u = Value.bool b from r); rfl
 | int i => obtain ⟨t, e⟩ := (show ∃ t, u = Value.int i t from r); cases e; rfl
 | str x => obtain ⟨t, e⟩ := (show ∃ t, u = Value.str x t from r); cases e; rfl
 | byt b => obtain ⟨t, e⟩ := (show ∃ t, u = Value.bytes b t from r); cases e; rfl
 | flt b => obtain ⟨t, e⟩ := (show ∃ t, u = Value.float b t from r); cases e; rfl
 | ref a => cases (show u = Value.ref a from r); rfl
 | ty n => cases (show u = Value.type n from r); rfl

section
variable {P : Program} {w : World} {H H' : Hp} {h h' : Heap} {a C dx : Addr} {fs fs' : List (Str × V)}
theorem ins_get (hok : HOk P w H h) (e : H a = some (.ins C dx fs)) : ∃ mA, ObjM h a dx C mA ∧ (∀ f, RelO (fs.lookup f) (mA f)) ∧ PySem.Within mA (fs.map (·.1)) ∧ fs.length ≤ 1000 ∧ H dx = some (.own a) := by
 obtain ⟨d, z, ne, ob, mA, n, r, q⟩ := (show ObjOk P w H h a (.ins C dx fs) from hok a _ e)
 exact ⟨mA, ⟨ob, n, ne⟩, r, q, z, d⟩
end

structure Cls (K : PySem.W.Frag) (C : Addr) : Prop where
 pg : PySem.W.plainGet K C Str.empty = true
 hd : PySem.W.hasDictIn K C = true
 po : PySem.W.plainOver K C = true
 sa : PySem.W.findIn K (.ref C) "__setattr__" = some (some (.builtin "object.__setattr__"))
theorem Cls.get {K : PySem.W.Frag} {C : Addr} (c : Cls K C) (f : Str) : PySem.W.plainGet K C f = true := c.pg
noncomputable def NoAttr (K : PySem.W.Frag) (C : Addr) (f : Str) : Prop := PySem.W.findIn K (.ref C) f = some none
theorem NoAttr.taker {K : PySem.W.Frag} {C : Addr} {f : Str} (n : NoAttr K C f) : PySem.W.takerIn K C f = some none := by
 unfold PySem.W.takerIn
 rw [show PySem.W.findIn K (.ref C) f = some none from n]
 rfl
structure Con (K : PySem.W.Frag) (C : Addr) (f : Str) (v : V) (u : Value) : Prop where
 at_ : PySem.W.findIn K (.ref C) f = some (some u)
 rel : RelV v u
 get : PySem.W.specialIn K u "__get__" = some none
 cp : PySem.W.copiedNames.contains f = false
structure Meth (K : PySem.W.Frag) (C : Addr) (m : Str) (f : Addr) : Prop where
 at_ : PySem.W.findIn K (.ref C) m = some (some (.ref f))
 fn : PySem.W.isFn K (.ref f) = true
 kp : PySem.W.keepIn K (.ref f) = true

section
variable {X : Cx} {pins : List (Addr × Obj)} {σ : St} {H : Hp} {s : Shared} {a C dx : Addr} {fs : List (Str × V)} {f : Str} {v : V} {A : Around} {E : Value → Shared → Prop}

theorem getattr_ok {b : Bool} {Q : Value → Shared → Prop} (I : Inv X pins σ H s) (e : H a = some (.ins C dx fs)) (c : Cls X.K C) (n : NoAttr X.K C f) (l : fs.lookup f = some v)
  (h : ∀ u s', Inv X pins σ H s' → RelV v u → Q u s') : wpAny (model X.prog X.w) A (getAttr (.ref a) f b) Q E s := by
 obtain ⟨mA, O, r, _, _, _⟩ := ins_get I.hok e
 obtain ⟨u, hu, ru⟩ := RelO.some_of (v := v) (o := mA f) (by rw [← l]; exact r f)
 exact get_map I.kIn O (c.get f) c.hd n hu (handed_of ru) (h u _ (I.tok _) ru)


theorem getmeth_ok {m : Str} {g : Addr} {pl : Sem Bool} {Q : Value × List Value → Shared → Prop} (I : Inv X pins σ H s) (e : H a = some (.ins C dx fs)) (c : Cls X.K C) (k : Meth X.K C m g) (l : fs.lookup m = none)
  (h : Q (.ref g, [.ref a]) s) : wpAny (model X.prog X.w) A (getMethod (.ref a) m pl) Q E s := by
 obtain ⟨mA, O, r, _, _, _⟩ := ins_get I.hok e
 have hn : mA m = none := RelO.none_of (by rw [← l]; exact r m)
 exact get_meth I.kIn O (c.get m) k.at_ k.fn hn h

theorem setattr_ok {y : V} {u : Value} {Q : Unit → Shared → Prop} (I : Inv X pins σ H s) (e : H a = some (.ins C dx fs)) (c : Cls X.K C) (n : NoAttr X.K C f) (hl : fs.length < 1000) (ry : RelV y u)
  (h : ∀ s', Inv X pins σ (upd H a (.ins C dx (putF f y fs))) s' → Q () s') : wpAny (model X.prog X.w) A (setAttr (.ref a) f u) Q E s := by
 obtain ⟨mA, O, r, wi, _, ho⟩ := ins_get I.hok e
 have hz : (fs.map (·.1)).length ≤ sizeLine := by rw [List.length_map, sizeLine_eq]; omega
 refine set_map I.kIn O c.sa c.po n.taker c.hd wi hz fun h' O' sb => h _ ?_
 have hd : ∃ o, h'.get? dx = some o := let ⟨o, _, _, e', _⟩ := O'.ns; ⟨o, e'⟩
 refine I.write (x := a) (e := dx) (by rw [e]; exact True.intro) (.inr ho) (fun b q hb z => (sb.2 b hb).trans z) hd ?_
 refine ⟨by rw [upd_ne O.ne]; exact ho, ?_, O.ne, O'.obj, _, O'.ns, fun g => ?_, fun g hg => ?_⟩
 ·have := length_putF f y fs; omega
 ·show RelO ((putF f y fs).lookup g) (if g = f then some u else mA g)
  rw [lookup_putF]
  by_cases q : g = f
  ·rw [if_pos q, if_pos q]; exact ry
  ·rw [if_neg q, if_neg q]; exact r g
 ·by_cases q : g = f
  ·rw [q]; exact (keys_putF f y fs).1
  ·refine (keys_putF f y fs).2 g (wi g fun z => hg ?_)
   show (if g = f then some u else mA g) = none
   rw [if_neg q]; exact z

theorem Inv.made (I : Inv X pins σ H s) : Inv X pins σ (upd (upd H s.heap.objs.size (.own (s.heap.objs.size + 1))) (s.heap.objs.size + 1) (.ins C s.heap.objs.size []))
  { s with heap := (s.heap.push PySem.W.emptyDict).push (PySem.W.instObj C s.heap.objs.size) } := by
 have e1 : (s.heap.push PySem.W.emptyDict).get? s.heap.objs.size = some PySem.W.emptyDict := Heap.get?_push_size s.heap rfl
 have e2 : ((s.heap.push PySem.W.emptyDict).push (PySem.W.instObj C s.heap.objs.size)).get? (s.heap.objs.size + 1) = some (PySem.W.instObj C s.heap.objs.size) := by
  have := Heap.get?_push_size (s.heap.push PySem.W.emptyDict) (o := PySem.W.instObj C s.heap.objs.size) rfl
  rwa [Heap.size_push] at this
 have e3 : (s.heap.push PySem.W.emptyDict).Ns s.heap.objs.size (fun _ => none) := ⟨PySem.W.emptyDict, #[], _, e1, rfl, (fun e he => absurd he (by simp)), fun _ => rfl⟩
 have I1 := I.laid (a := s.heap.objs.size) (o := .own (s.heap.objs.size + 1)) (h' := s.heap.push PySem.W.emptyDict) (t' := s.toks) (fun b u q => Heap.get?_push_of_some _ q) (Nat.le_refl _) ⟨_, e1⟩
 refine I1.laid (a := s.heap.objs.size + 1) (o := .ins C s.heap.objs.size []) (t' := s.toks) (fun b u q => Heap.get?_push_of_some _ q) (Nat.le_of_eq (Heap.size_push _ _)) ?_
 have ne : s.heap.objs.size ≠ s.heap.objs.size + 1 := Nat.ne_of_lt (Nat.lt_succ_self _)
 refine ⟨by rw [upd_ne ne, upd_same], Nat.zero_le _, ne, e2, fun _ => none, (Heap.Ns1.of_empty e3).at fun o q => Heap.get?_push_of_some _ q, fun _ => True.intro, fun y hy => absurd rfl hy⟩

theorem attr_of {prog : Program} {w : World} {env : Env} {e : Expr} {f : Str} {pos : Pos} {s : Shared} {Q : Value → Shared → Prop} (hb : attributeBase e f env (eval e env) = eval e env)
  (h : wpAny (model prog w) A (eval e env) (fun o s₁ => wpAny (model prog w) A (getAttr o f true) Q E s₁) E s) : wpAny (model prog w) A (eval (.Attribute e f pos) env) Q E s :=
 Attribute_any_ h (by rw [arm_eval_Attribute, hb])
end

noncomputable def tFld (K : PySem.W.Frag) (ta : TE) (f : Str) : TE := fun σ H Q => ta σ H fun x H1 => ∃ a C dx fs v, x = .ref a ∧ H1 a = some (.ins C dx fs) ∧ Cls K C ∧ NoAttr K C f ∧ fs.lookup f = some v ∧ Q v H1
noncomputable def sFld (K : PySem.W.Frag) (ta tv : TE) (f : Str) : TS := fun D σ H => tv σ H fun y H1 => ta σ H1 fun x H2 => ∃ a C dx fs, x = .ref a ∧ H2 a = some (.ins C dx fs) ∧ Cls K C ∧ NoAttr K C f ∧ fs.length < 1000 ∧
 D.nx σ (upd H2 a (.ins C dx (putF f y fs)))
noncomputable def InOp (X : Cx) (op : Operator) (rd : V → V → Hp → VK → Prop) : Prop :=
 ∀ (pins : List (Addr × Obj)) (s : Shared) (σ : St) (H : Hp) (x y : V) (u v : Value) (Q : VK), Inv X pins σ H s → RelV x u → RelV y v → rd x y H Q → wpAny (model X.prog X.w) X.A (inplaceOp op u v) (EP X pins σ Q) X.xe s
noncomputable def sFldAug (K : PySem.W.Frag) (ta tv : TE) (rd : V → V → Hp → VK → Prop) (f : Str) : TS := fun D σ H => ta σ H fun x H1 => ∃ a C dx fs v, x = .ref a ∧ H1 a = some (.ins C dx fs) ∧ Cls K C ∧ NoAttr K C f ∧ fs.lookup f = some v ∧
 tv σ H1 fun y H2 => rd v y H2 fun z H3 => ∃ dx' fs', H3 a = some (.ins C dx' fs') ∧ fs'.length < 1000 ∧ D.nx σ (upd H3 a (.ins C dx' (putF f z fs')))

section
variable {X : Cx} {o e value : Expr} {f : Str} {pos pos' tpos : Pos} {ta tv : TE}
theorem pe_fld (he : PE X e ta) (hb : attributeBase e f X.env (eval e X.env) = eval e X.env) : PE X (.Attribute e f pos) (tFld X.K ta f) := by
 intro pins s σ H Q I h
 refine attr_of hb (thn (he pins s σ H _ I h) fun u s1 ⟨x, H1, I1, rx, a, C, dx, fs, v, ex, ea, c, n, l, q⟩ => ?_)
 subst ex
 obtain rfl : u = Value.ref a := rx
 exact getattr_ok I1 ea c n l fun u' s2 I2 ru => ⟨v, H1, I2, ru, q⟩
theorem ps_fld (ha : PE X o ta) (hv : PE X value tv) (hs : swapsWith value (some (.Attribute o f pos')) pos.line X.env = pure false) : PS X (.Assign [.Attribute o f pos'] value pos) (sFld X.K ta tv f) := by
 intro pins s σ H D I h
 refine plainObj_wpAny_Assign_Attribute (thn (hv pins s σ H _ I h) fun u s1 ⟨y, H1, I1, ry, q⟩ => thn (ha pins s1 σ H1 _ I1 q) fun ov s2 ⟨x, H2, I2, rx, a, C, dx, fs, ex, ea, c, n, l, q2⟩ => ?_) hs
 subst ex
 obtain rfl : ov = Value.ref a := rx
 exact setattr_ok I2 ea c n l ry fun s3 I3 => ⟨σ, _, I3, q2⟩
theorem ps_fldaug {op : Operator} {rd : V → V → Hp → VK → Prop} (ha : PE X o ta) (hv : PE X value tv) (hop : InOp X op rd) : PS X (.AugAssign (.Attribute o f tpos) op value pos) (sFldAug X.K ta tv rd f) := by
 intro pins s σ H D I h
 refine wpAny_AugAssign_AttributeAny (thn (ha pins s σ H _ I h) fun ov s1 ⟨x, H1, I1, rx, a, C, dx, fs, v, ex, ea, c, n, l, q⟩ => ?_)
 subst ex
 obtain rfl : ov = Value.ref a := rx
 refine getattr_ok I1 ea c n l fun u s2 I2 ru => thn (hv pins s2 σ H1 _ I2 q) fun w3 s3 ⟨y, H2, I3, ry, q3⟩ => thn (hop pins s3 σ H2 v y u w3 _ I3 ru ry q3) fun w4 s4 ⟨z, H3, I4, rz, dx', fs', ea', l', q4⟩ => ?_
 exact setattr_ok I4 ea' c n l' rz fun s5 I5 => ⟨σ, _, I5, q4⟩
noncomputable def rAdd : V → V → Hp → VK → Prop := fun x y H Q => ∃ i j, x = .int i ∧ y = .int j ∧ Q (.int (i + j)) H
theorem in_add : InOp X .Add rAdd := by
 rintro pins s σ H x y u v Q I rx ry ⟨i, j, rfl, rfl, q⟩
 obtain ⟨t, rfl⟩ := (show ∃ t, u = Value.int i t from rx)
 obtain ⟨t', rfl⟩ := (show ∃ t', v = Value.int j t' from ry)
 exact PyProof.Rows.iadd_int ⟨.int (i + j), H, I.tok _, ⟨_, rfl⟩, q⟩

end

section
variable {X : Cx} {pins : List (Addr × Obj)} {σ : St} {H : Hp} {s : Shared} {A : Around} {E : Value → Shared → Prop} {Q : Value → Shared → Prop} {c : Value} {b : Bool}
inductive TyOf (K : PySem.W.Frag) (H : Hp) : V → Value → Prop where
 | non : TyOf K H .non (.type "NoneType")
 | bl (x : Bool) : TyOf K H (.bl x) (.type "bool")
 | int (i : Int) : TyOf K H (.int i) (.type "int")
 | str (x : Str) : TyOf K H (.str x) (.type "str")
 | flt (x : UInt64) : TyOf K H (.flt x) (.type "float")
 | lst {a : Addr} {xs : List V} (e : H a = some (.lst xs)) : TyOf K H (.ref a) (.type "list")
 | frz {a : Addr} {o : Obj} {xs : List V} (e : H a = some (.frz o (.lst xs))) : TyOf K H (.ref a) (.type "list")
 | tup {a : Addr} {xs : List V} (e : H a = some (.tup xs)) : TyOf K H (.ref a) (.type "tuple")
 | dK {a : Addr} {kvs : List (Key × V)} (e : H a = some (.dK kvs)) : TyOf K H (.ref a) (.type "dict")
 | dT {a : Addr} {kvs : List (List Key × V)} (e : H a = some (.dT kvs)) : TyOf K H (.ref a) (.type "dict")
 | ins {a C dx : Addr} {fs : List (Str × V)} (e : H a = some (.ins C dx fs)) (cl : Cls K C) (ha : PySem.W.findIn K (.ref C) "__class__" = some (some (.builtin "object.__class__")))
   (hn : PySem.W.specialIn K (.builtin "object.__class__") "__get__" = some (some (.builtin "getset_descriptor.__get__"))) (htk : PySem.W.takesIn K (.builtin "object.__class__") = some true)
   (hm : PySem.W.mroIn K C (.type "object") = some true) : TyOf K H (.ref a) (.ref C)
end
end L2

namespace L2
open PySem PySem.Spec PyProof.Rows

structure Room (k : Nat) (A : Around) : Prop where
 hd : A.handled = none
 dp : A.depth + 3 * k + 5 < recursionLimit
 un : A.units + 16 * k + 200 < cLine
 gd : A.guards = some []
theorem Room.mono {j k : Nat} {A : Around} (r : Room k A) (h : j ≤ k) : Room j A := ⟨r.hd, by have := r.dp; omega, by have := r.un; omega, r.gd⟩
theorem Room.deeper {k : Nat} {A : Around} (r : Room (k + 1) A) (env : Env) : Room k (A.deeper env) :=
 ⟨r.hd, by have := r.dp; show A.depth + 1 + 3 * k + 5 < _; omega, by have := r.un; show A.units + 3 + 16 * k + 200 < _; omega, r.gd⟩
theorem make_depth {A : Around} {C : Addr} {us : List Value} {kw : List (Str × Value)} : (A.under (.builtin "type.__call__" ⟨.ref C :: us, kw⟩)).depth = A.depth + 1 := by
 first | rfl | simp [Around.under, Code.weight, Code.isCreation, Code.isGuard, Code.isCaller, Code.frames, Code.isFrame, guardIds]
theorem make_units {A : Around} {C : Addr} {us : List Value} {kw : List (Str × Value)} : (A.under (.builtin "type.__call__" ⟨.ref C :: us, kw⟩)).units = A.units + 1 := by
 first | rfl | simp [Around.under, Code.cUnits, Code.frames, Code.isFrame]
theorem Room.make {k : Nat} {A : Around} (r : Room (k + 1) A) (C : Addr) (us : List Value) (kw : List (Str × Value)) : Room k (A.under (.builtin "type.__call__" ⟨.ref C :: us, kw⟩)) :=
 ⟨r.hd, by have := r.dp; rw [make_depth]; omega, by have := r.un; rw [make_units]; omega, r.gd⟩
theorem Room.depth {k : Nat} {A : Around} (r : Room k A) : A.depth < recursionLimit := by have := r.dp; omega
theorem Room.units {k : Nat} {A : Around} (r : Room k A) : A.units + 64 < cLine := by have := r.un; omega

noncomputable def tNil : TA := fun _ H Q => Q [] H
noncomputable def tCons (ta : TE) (tr : TA) : TA := fun σ H Q => ta σ H fun x H1 => tr σ H1 fun xs H2 => Q (x :: xs) H2
section
variable {X : Cx} {e : Expr} {es : List Expr} {te : TE} {t : TA} {pos : Pos}
theorem pa_nil : PA X [] tNil := fun _ _ _ _ H Q I h => Calls.spliced_nil ⟨[], H, I, .nil, h⟩
theorem pa_cons (ha : PE X e te) (hr : PA X es t) (hs : starEach (e :: es) X.env = (false, eval e X.env) :: starEach es X.env := by rfl) : PA X (e :: es) (tCons te t) := by
 intro pos pins s σ H Q I h
 rw [hs]
 show wpAny _ _ (spliced ((false, eval e X.env) :: backTo pos (starEach es X.env))) _ _ s
 refine Calls.spliced_cons (thn (ha pins s σ H _ I h) fun u s1 ⟨x, H1, I1, r1, q1⟩ => ?_)
 exact thn (hr pos pins s1 σ H1 _ I1 q1) fun us s2 ⟨xs, H2, I2, r2, q2⟩ => ⟨x :: xs, H2, I2, .cons r1 r2, q2⟩

noncomputable def tTup (t : TA) : TE := fun σ H Q => t σ H fun xs H1 => xs.length ≤ sizeLine ∧ ∀ p, H1 p = none → Q (.ref p) (upd H1 p (.tup xs))
noncomputable def tLst (t : TA) : TE := fun σ H Q => t σ H fun xs H1 => xs.length ≤ sizeLine ∧ ∀ p, H1 p = none → Q (.ref p) (upd H1 p (.lst xs))
theorem pe_tup {x1} (h : PA X es t) : PE X (.Tuple es x1 pos) (tTup t) := by
 intro pins s σ H Q I hq
 refine wpAny_Tuple_spliced (thn (h pos pins s σ H _ I hq) fun us s1 ⟨xs, H1, I1, r, z, q⟩ => ⟨by rw [← r.length]; exact z, ?_⟩)
 have hf : H1 s1.heap.objs.size = none := I1.hok.fresh (Nat.le_refl _)
 refine ⟨.ref s1.heap.objs.size, upd H1 s1.heap.objs.size (.tup xs), I1.laid (t' := s1.toks) (fun b u e => Heap.get?_push_of_some _ e) (Nat.le_refl _) ?_, rfl, q _ hf⟩
 exact ⟨z, us, r, ⟨_, Heap.get?_push_size _ rfl, rfl, _, rfl⟩⟩
theorem pe_lst (h : PA X es t) : PE X (.List es pos) (tLst t) := by
 intro pins s σ H Q I hq
 refine wpAny_List_spliced (thn (h pos pins s σ H _ I hq) fun us s1 ⟨xs, H1, I1, r, z, q⟩ => ⟨by rw [← r.length]; exact z, ?_⟩)
 have hf : H1 s1.heap.objs.size = none := I1.hok.fresh (Nat.le_refl _)
 refine ⟨.ref s1.heap.objs.size, upd H1 s1.heap.objs.size (.lst xs), I1.laid (t' := s1.toks) (fun b u e => Heap.get?_push_of_some _ e) (Nat.le_refl _) ?_, rfl, q _ hf⟩
 exact ⟨z, us, 0, r, Heap.get?_push_size _ rfl⟩
end

noncomputable abbrev Sp := List V → Hp → VK → XK → Prop
noncomputable abbrev CXT := List Env → Hp → Shared → XK → Value → Shared → Prop

structure Env0 (P : Program) (w : World) (K : PySem.W.Frag) (mg : Str → Option Value) (base : Heap) (A : Around) (outer : List Env) (s : Shared) (H : Hp) : Prop where
 frames : A.frames = some outer
 mod : Mod K mg base
 bs : ∀ b o, base.get? b = some o → s.heap.get? b = some o ∧ H b = none
 bsz : base.objs.size ≤ s.heap.objs.size
 funs : s.heap.FunFrames base outer
 frf : ∀ b ∈ frs outer, H b = none
 hok : HOk P w H s.heap
 bare : AllBare s.gens
noncomputable def CE (outer : List Env) (P : Program) (w : World) (H : Hp) (s : Shared) (Q : VK) (u : Value) (s' : Shared) : Prop :=
 ∃ v H', s'.os = s.os ∧ AllBare s'.gens ∧ Un (frs outer) [] H H' s.heap s'.heap ∧ HOk P w H' s'.heap ∧ RelV v u ∧ Q v H'
noncomputable def CR (CX : CXT) (outer : List Env) (P : Program) (w : World) (H : Hp) (s : Shared) (Q : VK) (E : XK) (r : Result) (s' : Shared) : Prop :=
 match r with
 | .ok (.ret u) => CE outer P w H s Q u s'
 | .ok _ => False
 | .error e => CX outer H s E e s'
structure FnOk (P : Program) (w : World) (K : PySem.W.Frag) (mg : Str → Option Value) (base : Heap) (CX : CXT) (k : Nat) (f : Addr) (fd : FuncData) (ps : List Str) (sp : Sp) : Prop where
 len : ∀ vs H Q E, sp vs H Q E → vs.length = ps.length
 run : ∀ (A : Around) (outer : List Env) (s : Shared) (H : Hp) (args : Args) (us : List Value) (vs : List V) (Q : VK) (E : XK), Room k A → Env0 P w K mg base A outer s H → BindsTo s fd args (ps.zip us) → Vals vs us → sp vs H Q E →
  codeAny (model P w) A (.call (.ref f) args) (CR CX outer P w H s Q E) s
theorem FnOk.imp {P : Program} {w : World} {K : PySem.W.Frag} {mg : Str → Option Value} {base : Heap} {CX : CXT} {k : Nat} {f : Addr} {fd : FuncData} {ps : List Str} {sp sp' : Sp} (F : FnOk P w K mg base CX k f fd ps sp)
  (h : ∀ vs H Q E, sp' vs H Q E → sp vs H Q E) : FnOk P w K mg base CX k f fd ps sp' :=
 ⟨fun vs H Q E q => F.len vs H Q E (h _ _ _ _ q), fun A outer s H args us vs Q E hr he hb hv hs => F.run A outer s H args us vs Q E hr he hb hv (h _ _ _ _ hs)⟩

theorem Env0.make {P : Program} {w : World} {K : PySem.W.Frag} {mg : Str → Option Value} {base : Heap} {A : Around} {outer : List Env} {s : Shared} {H : Hp} (e : Env0 P w K mg base A outer s H) (C : Addr) (us : List Value) (kw : List (Str × Value)) :
  Env0 P w K mg base (A.under (.builtin "type.__call__" ⟨.ref C :: us, kw⟩)) outer s H := ⟨by first | exact e.frames | (simpa [Around.under, Code.envs, Code.isFrame, pushEnvs] using e.frames), e.mod, e.bs, e.bsz, e.funs, e.frf, e.hok, e.bare⟩

section
variable {X : Cx} {pins : List (Addr × Obj)} {σ : St} {H : Hp} {s s' : Shared}
theorem Inv.env0 (I : Inv X pins σ H s) : Env0 X.prog X.w X.K X.mg X.base X.A X.stack s H :=
 ⟨I.ok.frames, I.ok.mod, I.bs, Nat.le_trans I.ok.bsz I.sz, I.stack, I.stkFree, I.hok, I.bare⟩
theorem Inv.after {Q : VK} {u : Value} (I : Inv X pins σ H s) (h : CE X.stack X.prog X.w H s Q u s') : EP X pins σ Q u s' := by
 obtain ⟨v, H', os, bare, un, hok, r, q⟩ := h
 obtain ⟨hh, g, d, t, os'⟩ := s'
 obtain rfl : os' = s.os := os
 exact ⟨v, H', I.call (h' := hh) (g' := g) (d' := d) (t' := t) (ch := []) un hok bare (fun b z => absurd z (by simp)), r, q⟩
end

noncomputable def tCall (sp : Sp) (dvs : List V) (E : XK) (t : TA) : TE := fun σ H Q => t σ H fun vs H1 => sp (vs ++ dvs) H1 Q E
noncomputable def tMeth (C : Addr) (m : Str) (sp : Sp) (dvs : List V) (E : XK) (ta : TE) (t : TA) : TE := fun σ H Q => ta σ H fun x H1 => ∃ a dx fs, x = .ref a ∧ H1 a = some (.ins C dx fs) ∧ fs.lookup m = none ∧
 t σ H1 fun vs H2 => sp (x :: (vs ++ dvs)) H2 Q E
noncomputable def tMake (C : Addr) (sp : Sp) (dvs : List V) (E : XK) (t : TA) : TE := fun σ H Q => t σ H fun vs H1 => ∀ x dx, H1 x = none → H1 dx = none → dx ≠ x →
 sp (.ref x :: (vs ++ dvs)) (upd (upd H1 dx (.own x)) x (.ins C dx [])) (fun v H2 => v = .non ∧ Q (.ref x) H2) E

noncomputable def Binds (K : PySem.W.Frag) (fd : FuncData) (ps : List Str) (ds : List Value) : Prop :=
 ∀ (s : Shared) (us : List Value), K.In s.heap → (us ++ ds).length = ps.length → BindsTo s fd ⟨us, []⟩ (ps.zip (us ++ ds))
theorem Binds.all {K : PySem.W.Frag} {fd : FuncData} {ps : List Str} (h : ∀ us : List Value, us.length = ps.length → bindArgs fd ⟨us, []⟩ = pure (ps.zip us)) : Binds K fd ps [] := fun s us _ hl => by
 rw [List.append_nil] at hl ⊢
 exact .of_eq (h us hl)

noncomputable def Passes (CX : CXT) (X : Cx) (E : XK) : Prop := ∀ (pins : List (Addr × Obj)) (σ : St) (H : Hp) (s : Shared) (e : Value) (s' : Shared), Inv X pins σ H s → CX X.stack H s E e s' → X.xe e s'

section
variable {X : Cx} {CX : CXT} {k : Nat} {f C : Addr} {fd : FuncData} {ps : List Str} {sp : Sp} {dvs : List V} {ds : List Value} {E : XK} {x m : Str} {p pos apos : Pos} {e o : Expr} {es : List Expr} {ta : TE} {t : TA}

theorem run_fn {pins : List (Addr × Obj)} {σ : St} {H : Hp} {s : Shared} {Q : VK} {us : List Value} {vs : List V} (F : FnOk X.prog X.w X.K X.mg X.base CX k f fd ps sp) (hr : Room k X.A) (hb : Binds X.K fd ps ds) (hd : Vals dvs ds) (hx : Passes CX X E)
  (I : Inv X pins σ H s) (r : Vals vs us) (h : sp (vs ++ dvs) H Q E) : wpAny (model X.prog X.w) X.A (call (.ref f) us) (EP X pins σ Q) X.xe s := by
 have r2 : Vals (vs ++ dvs) (us ++ ds) := r.append hd
 have hl : (us ++ ds).length = ps.length := by rw [← r2.length]; exact F.len _ _ _ _ h
 refine wpAny_call (codeAny_mono (F.run X.A X.stack s H ⟨us, []⟩ (us ++ ds) (vs ++ dvs) Q E hr I.env0 (hb s us I.kIn hl) r2 h) fun r s' hq => ?_)
 cases r with
 | error e => exact hx pins σ H s e s' I hq
 | ok fl =>
  cases fl with
  | ret u => exact I.after hq
  | next => exact False.elim hq
  | brk => exact False.elim hq
  | cont => exact False.elim hq

theorem pe_call (F : FnOk X.prog X.w X.K X.mg X.base CX k f fd ps sp) (hr : Room k X.A) (hg : Gl X x) (hm : X.mg x = some (.ref f)) (hk : PySem.W.keepIn X.K (.ref f) = true) (hb : Binds X.K fd ps ds) (hd : Vals dvs ds) (hx : Passes CX X E)
  (ha : PA X (e :: es) t) (hdb : (x == ("__debug__" : Str)) = false := by decide) (he : starEach (e :: es) X.env = (false, eval e X.env) :: starEach es X.env := by rfl) (hpl : (backTo pos (starEach es X.env)).any (·.1) = false := by rfl) :
  PE X (.Call (.Name x p) (e :: es) [] pos) (tCall sp dvs E t) := by
 intro pins s σ H Q I h
 refine wpAny_Call_Name_kw (ld_glob I hg hm ?_ hdb)
 refine PySem.W.callWith_K (h₀ := X.base) I.ok.mod.kin hk (thn (ha pos pins s σ H _ I h) fun us s1 ⟨vs, H1, I1, r, q⟩ => ⟨I1.kIn, ?_⟩) he hpl
 exact run_fn F hr hb hd hx I1 r q

theorem pe_meth {pl : Sem Bool} (he : PE X o ta) (c : Cls X.K C) (hm : Meth X.K C m f) (F : FnOk X.prog X.w X.K X.mg X.base CX k f fd ps sp) (hr : Room k X.A) (hb : Binds X.K fd ps ds) (hd : Vals dvs ds) (hx : Passes CX X E) (ha : PA X (e :: es) t)
  (hst : starEach (e :: es) X.env = (false, eval e X.env) :: starEach es X.env := by rfl) (hpl : (backTo pos (starEach es X.env)).any (·.1) = false := by rfl)
  (ht : eval (.Call (.Attribute o m apos) (e :: es) [] pos) X.env = (do
   let ov ← eval o X.env
   standAt apos.atName
   let (f, first) ← holding [ov] (getMethod ov m pl)
   callWith pos f first (backTo pos (starEach (e :: es) X.env)) (backToKw pos (keywordEach [] X.env))) := by rfl) :
  PE X (.Call (.Attribute o m apos) (e :: es) [] pos) (tMeth C m sp dvs E ta t) := by
 intro pins s σ H Q I h
 refine PySem.W.methodCall_KW (pl := pl) (thn (he pins s σ H _ I h) fun u s1 ⟨x, H1, I1, rx, a, dx, fs, ex, ea, l, q⟩ => ?_) ht
 subst ex
 obtain rfl : u = Value.ref a := rx
 refine getmeth_ok I1 ea c hm l ?_
 refine PySem.W.callWith_K (first := [.ref a]) (h₀ := X.base) I.ok.mod.kin hm.kp (thn (ha pos pins s1 σ H1 _ I1 q) fun us s2 ⟨vs, H2, I2, r, q2⟩ => ⟨I2.kIn, ?_⟩) hst hpl
 exact run_fn (us := .ref a :: us) (vs := .ref a :: vs) F hr hb hd hx I2 (.cons rfl r) q2

structure Mk (K : PySem.W.Frag) (C f : Addr) : Prop where
 makes : PySem.W.makesIn K C = true
 init : PySem.W.findIn K (.ref C) "__init__" = some (some (.ref f))
 fn : PySem.W.isFn K (.ref f) = true
 kp : PySem.W.keepIn K (.ref C) = true

theorem run_make {pins : List (Addr × Obj)} {σ : St} {H : Hp} {s : Shared} {Q : VK} {us : List Value} {vs : List V} (M : Mk X.K C f) (F : FnOk X.prog X.w X.K X.mg X.base CX k f fd ps sp) (hr : Room (k + 1) X.A) (hb : Binds X.K fd ps ds) (hd : Vals dvs ds)
  (hx : Passes CX X E) (I : Inv X pins σ H s) (r : Vals vs us)
  (h : ∀ x dx, H x = none → H dx = none → dx ≠ x → sp (.ref x :: (vs ++ dvs)) (upd (upd H dx (.own x)) x (.ins C dx [])) (fun v H2 => v = .non ∧ Q (.ref x) H2) E) :
  wpAny (model X.prog X.w) X.A (call (.ref C) us) (EP X pins σ Q) X.xe s := by
 have hq := h (s.heap.objs.size + 1) s.heap.objs.size (I.hok.fresh (Nat.le_succ _)) (I.hok.fresh (Nat.le_refl _)) (Nat.ne_of_lt (Nat.lt_succ_self _))
 have I2 := Inv.made (C := C) I
 have r2 : Vals (V.ref (s.heap.objs.size + 1) :: (vs ++ dvs)) (Value.ref (s.heap.objs.size + 1) :: (us ++ ds)) := .cons rfl (r.append hd)
 have hl : (Value.ref (s.heap.objs.size + 1) :: us ++ ds).length = ps.length := by
  have e := r2.length
  rw [F.len _ _ _ _ hq] at e
  exact e.symm
 refine wpAny_call (make_map (f := f) I.kIn M.makes M.init (beq_iff_eq.mp M.fn) (codeAny_mono (F.run _ X.stack _ _ ⟨Value.ref (s.heap.objs.size + 1) :: us, []⟩ (Value.ref (s.heap.objs.size + 1) :: (us ++ ds)) _ _ E (hr.make C us [])
  (I2.env0.make C us []) (hb _ (Value.ref (s.heap.objs.size + 1) :: us) I2.kIn hl) r2 hq) fun r s' hq' => ?_))
 cases r with
 | error e => exact hx pins σ _ _ e s' I2 hq'
 | ok fl =>
  cases fl with
  | ret u =>
   obtain ⟨v, H', I3, rv, ev, q3⟩ := I2.after hq'
   subst ev
   exact ⟨rv, ⟨V.ref (s.heap.objs.size + 1), H', I3, rfl, q3⟩⟩
  | next => exact False.elim hq'
  | brk => exact False.elim hq'
  | cont => exact False.elim hq'
theorem pe_make (M : Mk X.K C f) (F : FnOk X.prog X.w X.K X.mg X.base CX k f fd ps sp) (hr : Room (k + 1) X.A) (hg : Gl X x) (hm : X.mg x = some (.ref C)) (hb : Binds X.K fd ps ds) (hd : Vals dvs ds) (hx : Passes CX X E)
  (ha : PA X (e :: es) t) (hdb : (x == ("__debug__" : Str)) = false := by decide) (he : starEach (e :: es) X.env = (false, eval e X.env) :: starEach es X.env := by rfl) (hpl : (backTo pos (starEach es X.env)).any (·.1) = false := by rfl) :
  PE X (.Call (.Name x p) (e :: es) [] pos) (tMake C sp dvs E t) := by
 intro pins s σ H Q I h
 refine wpAny_Call_Name_kw (ld_glob I hg hm ?_ hdb)
 refine PySem.W.callWith_K (h₀ := X.base) I.ok.mod.kin M.kp (thn (ha pos pins s σ H _ I h) fun us s1 ⟨vs, H1, I1, r, q⟩ => ⟨I1.kIn, ?_⟩) he hpl
 exact run_make M F hr hb hd hx I1 r q
end

section
variable {X : Cx} {CX : CXT} {k : Nat} {f C : Addr} {fd : FuncData} {ps ks : List Str} {sp : Sp} {E : XK} {x m : Str} {p pos apos kpos : Pos} {e o : Expr} {es : List Expr} {kws : List Keyword} {te ta : TE} {t tk : TA} {nm : Option Str}

structure KBinds (K : PySem.W.Frag) (fd : FuncData) (ps ks : List Str) (g : List Value → List Value → List Value) (gV : List V → List V → List V) : Prop where
 to : ∀ (s : Shared) (us ws : List Value), K.In s.heap → (g us ws).length = ps.length → BindsTo s fd ⟨us, ks.zip ws⟩ (ps.zip (g us ws))
 rel : ∀ {vs : List V} {us : List Value} {zs : List V} {ws : List Value}, Vals vs us → Vals zs ws → Vals (gV vs zs) (g us ws)
variable {g : List Value → List Value → List Value} {gV : List V → List V → List V}
end

structure FnScope (N P : List Str) (sc : Scope) : Prop where
 kind : sc.kind = .function
 co : sc.isCoroutine = false
 gen : sc.isGenerator = false
 nd : N.Nodup
 pre : N.take P.length = P
 par : ∀ x ∈ P, sc.names.lookup x = some .local ∨ sc.names.lookup x = some .cell
 nofree : ∀ y ∈ sc.names, y.2 ≠ .free

theorem bindL_out {kindOf : Str → Option NameKind} {x : Str} : ∀ {binds : List (Str × Value)} {m : Str → Option Value}, (∀ v, (x, v) ∉ binds) → bindL kindOf binds m x = m x
 | [], _, _ => rfl
 | (n, v) :: r, m, h => by
  unfold bindL
  rw [bindL_out fun w hw => h w (List.mem_cons_of_mem _ hw)]
  split
  ·have : x ≠ n := by rintro rfl; exact h v List.mem_cons_self
   simp [this]
  ·rfl
theorem bindC_out {kindOf : Str → Option NameKind} {x : Str} : ∀ {binds : List (Str × Value)} {m : Str → Option Value}, (∀ v, (x, v) ∉ binds) → bindC kindOf binds m x = m x
 | [], _, _ => rfl
 | (n, v) :: r, m, h => by
  unfold bindC
  rw [bindC_out fun w hw => h w (List.mem_cons_of_mem _ hw)]
  split
  ·rfl
  ·have : x ≠ n := by rintro rfl; exact h v List.mem_cons_self
   simp [this]
theorem bindL_get {kindOf : Str → Option NameKind} {x : Str} {v : Value} : ∀ {P : List Str} {vs : List Value} {i : Nat} {m : Str → Option Value}, P.Nodup → P[i]? = some x → vs[i]? = some v → kindOf x = some .local →
  bindL kindOf (P.zip vs) m x = some v
 | [], _, _, _, _, h, _, _ => by simp at h
 | _ :: _, [], _, _, _, _, h, _ => by simp at h
 | p :: P, w :: vs, 0, m, nd, h1, h2, hk => by
  simp at h1 h2; subst h1; subst h2
  show bindL kindOf ((p, w) :: P.zip vs) m p = _
  unfold bindL
  rw [bindL_out fun v hv => (List.nodup_cons.mp nd).1 (List.of_mem_zip hv).1, if_pos hk]
  simp
 | p :: P, w :: vs, i + 1, m, nd, h1, h2, hk => by
  show bindL kindOf ((p, w) :: P.zip vs) m x = _
  unfold bindL
  exact bindL_get (i := i) (List.nodup_cons.mp nd).2 (by simpa using h1) (by simpa using h2) hk
theorem bindC_get {kindOf : Str → Option NameKind} {x : Str} {v : Value} : ∀ {P : List Str} {vs : List Value} {i : Nat} {m : Str → Option Value}, P.Nodup → P[i]? = some x → vs[i]? = some v → kindOf x ≠ some .local →
  bindC kindOf (P.zip vs) m x = some v
 | [], _, _, _, _, h, _, _ => by simp at h
 | _ :: _, [], _, _, _, _, h, _ => by simp at h
 | p :: P, w :: vs, 0, m, nd, h1, h2, hk => by
  simp at h1 h2; subst h1; subst h2
  show bindC kindOf ((p, w) :: P.zip vs) m p = _
  unfold bindC
  rw [bindC_out fun v hv => (List.nodup_cons.mp nd).1 (List.of_mem_zip hv).1, if_neg hk]
  simp
 | p :: P, w :: vs, i + 1, m, nd, h1, h2, hk => by
  show bindC kindOf ((p, w) :: P.zip vs) m x = _
  unfold bindC
  exact bindC_get (i := i) (List.nodup_cons.mp nd).2 (by simpa using h1) (by simpa using h2) hk

noncomputable def start (N : List Str) (vs : List V) : St := vs.map some ++ List.replicate (N.length - vs.length) none

noncomputable def cxOf (CX : CXT) (P : Program) (w : World) (K : PySem.W.Frag) (mg : Str → Option Value) (base : Heap) (N : List Str) (qual : Str) (scope : Scope) (f : Addr) (cd : Value) (A : Around) (outer : List Env) (s : Shared) (H : Hp) (E : XK) : Cx where
 prog := P
 w := w
 K := K
 mg := mg
 base := base
 A := A.deeper (envOfC qual scope s.heap.objs.size f cd)
 N := N
 s₀ := s
 H₀ := H
 env := envOfC qual scope s.heap.objs.size f cd
 outer := outer
 stack := envOfC qual scope s.heap.objs.size f cd :: outer
 ex := []
 calm := true
 fn := fun _ => true
 pn := []
 xe := fun e s' => wpAny (model P w) (A.deeper (envOfC qual scope s.heap.objs.size f cd)) (leaving (envOfC qual scope s.heap.objs.size f cd) e) (fun _ s'' => CX outer H s E e s'') (fun e' s'' => CX outer H s E e' s'') s'

theorem cell_has {sc : Scope} {n : Nat} {x : Str} (h : sc.names.lookup x = some .cell) : ∃ c, (cellsFrom n sc.names []).lookup x = some c := by
 have q := PySem.W.cellsFrom_some sc.names n [] (.inl h)
 exact Option.isSome_iff_exists.mp q

theorem inv_start {CX : CXT} {P : Program} {w : World} {K : PySem.W.Frag} {mg : Str → Option Value} {base : Heap} {N ps : List Str} {qual : Str} {scope : Scope} {f : Addr} {cd : Value} {A : Around} {outer : List Env} {s s1 : Shared} {H : Hp} {E : XK} {us : List Value} {vs : List V}
  (S : FnScope N ps scope) (hd : A.handled = none) (e0 : Env0 P w K mg base A outer s H) (hl : vs.length = ps.length) (r : Vals vs us)
  (x : InCallC s s.heap.objs.size (bindL (envOfC qual scope s.heap.objs.size f cd).kindOf (ps.zip us) fun _ => none) (cellsFrom (s.heap.objs.size + 1) scope.names []) (bindC (envOfC qual scope s.heap.objs.size f cd).kindOf (ps.zip us) fun _ => none) s1) :
  Inv (cxOf CX P w K mg base N qual scope f cd A outer s H E) [] (start N vs) H s1 := by
 have hpl : ps.length ≤ N.length := by have := congrArg List.length S.pre; rw [List.length_take] at this; omega
 obtain ⟨h1, tk, rfl, hk⟩ := x.done
 have noA : ∀ b : Addr, b ∉ (cxOf CX P w K mg base N qual scope f cd A outer s H E).ex := fun b z => absurd (show b ∈ ([] : List Addr) from z) (by simp)
 refine ⟨⟨e0.mod, S.kind, rfl, rfl, Nat.le_refl _, fun y z c h1 h2 => ?_, fun y hy => ?_, fun y c _ h => ?_, fun _ => hd, Around.frames_deeper e0.frames, .inr ⟨rfl, rfl⟩, fun b z => absurd z (noA b), e0.bs, e0.bsz, fun b _ _ => noA b, fun b z => absurd z (noA b), e0.funs, e0.frf⟩,
  rfl, e0.bare, Un.kept hk, ⟨_, x.toInCall.ns, fun i y v h1 h2 h3 => ?_⟩, fun y c h => ⟨_, x.cell y c h⟩, e0.hok.fresh (Nat.le_refl _), fun y c h => ?_, fun p hp => absurd (show p ∈ ([] : List (Addr × Obj)) from hp) (by simp), e0.hok.kept hk, ?_⟩
 ·exact name_of_addr x.apart (PySem.mem_of_lookup h1) (PySem.mem_of_lookup h2)
 ·have hy : scope.names.lookup y = some .cell ∨ scope.names.lookup y = some .free := hy
  rcases hy with hy | hy
  ·exact cell_has hy
  ·exact absurd rfl (S.nofree _ (PySem.mem_of_lookup hy))
 ·exact Nat.le_of_lt (x.above y c (PySem.mem_of_lookup h))
 ·have hi : i < vs.length := by
   unfold start at h2
   by_cases hi : i < vs.length
   ·exact hi
   ·rw [List.getElem?_append_right (by simpa using hi)] at h2
    rw [List.getElem?_replicate] at h2
    split at h2 <;> cases h2
  have ha : vs[i]? = some v := by
   unfold start at h2
   rw [List.getElem?_append_left (by simpa using hi), List.getElem?_map] at h2
   cases e : vs[i]? with
   | none => rw [e] at h2; cases h2
   | some a => rw [e] at h2; cases h2; rfl
  obtain ⟨u, hu, rv⟩ := r.get ha
  have hp : ps[i]? = some y := by
   rw [← S.pre, List.getElem?_take_of_lt (by omega)]; exact h1
  have ndP : ps.Nodup := by rw [← S.pre]; exact S.nd.sublist (List.take_sublist _ _)
  refine ⟨u, rv, ?_⟩
  rcases S.par y (List.mem_of_getElem? hp) with k | k
  ·exact .inl ⟨k, bindL_get ndP hp hu k⟩
  ·obtain ⟨c, e⟩ := cell_has (n := s.heap.objs.size + 1) k
   refine .inr ⟨.inl k, c, e, ?_⟩
   have q := x.cell y c e
   rw [bindC_get ndP hp hu (by show scope.names.lookup y ≠ _; rw [k]; decide)] at q
   exact q
 ·exact e0.hok.fresh (Nat.le_of_lt (x.above y c (PySem.mem_of_lookup h)))
 ·unfold start
  show _ = N.length
  rw [List.length_append, List.length_map, List.length_replicate]
  omega

theorem fn_of {CX : CXT} {P : Program} {w : World} {K : PySem.W.Frag} {mg : Str → Option Value} {base : Heap} {k : Nat} {f : Addr} {name qual : Str} {params : Arguments} {body : List Stmt} {scope : Scope} {dV kV doc pm cdv ct oc : Value} {an od : Option Addr}
  {osl : Array (Option Value)} {N ps : List Str} {sp : Sp} (lk : K.lookup f = some ⟨oc, od, .func (PySem.W.fnOf name qual params body scope dV kV doc pm an cdv ct), osl⟩) (hcd : PySem.W.codeIn K cdv qual = true) (S : FnScope N ps scope)
  (len : ∀ vs H Q E, sp vs H Q E → vs.length = ps.length)
  (hbody : ∀ (A : Around) (outer : List Env) (s : Shared) (H : Hp) (vs : List V) (Q : VK) (E : XK), Room k (A.deeper (envOfC qual scope s.heap.objs.size f cdv)) → sp vs H Q E →
   ∃ t, PSs (cxOf CX P w K mg base N qual scope f cdv A outer s H E) body t ∧ t { nx := fun _ H' => Q .non H', rt := Q } (start N vs) H) :
  FnOk P w K mg base CX (k + 1) f (PySem.W.fnOf name qual params body scope dV kV doc pm an cdv ct) ps sp := by
 refine ⟨len, fun A outer s H args us vs Q E hr e0 hb r hsp => ?_⟩
 have hl := len _ _ _ _ hsp
 have KX : K.In s.heap := e0.mod.kin.keeps fun b o e => (e0.bs b o e).1
 have lim : s.heap.NoLimit := e0.mod.nolimit.keeps fun b o e => (e0.bs b o e).1
 have hkind : ∀ y ∈ ps.zip us, scope.names.lookup y.1 = some .local ∨ (scope.names.lookup y.1 = some .cell ∧ ((cellsFrom (s.heap.objs.size + 1) scope.names []).lookup y.1).isSome = true) := fun ⟨n, v⟩ hy => by
  rcases S.par n (List.of_mem_zip hy).1 with q | q
  ·exact .inl q
  ·exact .inr ⟨q, PySem.W.cellsFrom_some _ _ _ (.inl q)⟩
 refine codeAny_call_function hr.depth (KX _ _ lk) rfl S.co S.gen rfl (PySem.W.codeRec_of KX hcd) (hb _ _ _ _ ?_)
 refine wpAny_newFunctionEnv_cells S.kind hkind fun env he s1 x => ?_
 subst he
 refine ⟨lim.keeps x.toInCall.keep, codeAny_func ?_⟩
 obtain ⟨t, ht, hq⟩ := hbody A outer s H vs Q E (hr.deeper _) hsp
 have I : Inv (cxOf CX P w K mg base N qual scope f cdv A outer s H E) [] (start N vs) H s1 := inv_start S hr.hd e0 hl r x
 refine wpAny_mono (ht [] s1 (start N vs) H _ I hq) (fun fl s' hs => ?_) fun e s' hs => hs
 have fin : ∀ {σ' : St} {H' : Hp} {v : V} {u : Value}, Inv (cxOf CX P w K mg base N qual scope f cdv A outer s H E) [] σ' H' s' → RelV v u → Q v H' → CE outer P w H s Q u s' :=
  fun {σ' H' v u} J rv q => ⟨v, H', J.os, J.bare, J.base, J.hok, rv, q⟩
 cases fl with
 | ret u =>
  obtain ⟨v, σ', H', J, rv, q⟩ := hs
  exact fin J rv q
 | next =>
  obtain ⟨σ', H', J, q⟩ := hs
  exact fin (v := V.non) (u := Value.none) J rfl q
 | brk =>
  obtain ⟨_, _, _, q⟩ := hs
  exact False.elim q
 | cont =>
  obtain ⟨_, _, _, q⟩ := hs
  exact False.elim q
end L2

namespace L2
open PySem PySem.Spec PyProof.Rows
section
variable {X : Cx} {x : Str} {p pos : Pos} {e : Expr} {es : List Expr} {t : TA} {id T : String} {r : List V → Hp → VK → Prop}

noncomputable def tCB (r : List V → Hp → VK → Prop) (t : TA) : TE := fun σ H Q => t σ H fun vs H1 => r vs H1 Q
theorem pe_callB (hc : CallR X (.builtin id) r) (hg : Gl X x) (hm : X.mg x = none) (hv : bootBuiltins x = some (.builtin id)) (ha : PA X (e :: es) t) (hn : x ≠ "__name__" := by decide) (hdb : (x == ("__debug__" : Str)) = false := by decide)
  (he : starEach (e :: es) X.env = (false, eval e X.env) :: starEach es X.env := by rfl) (hpl : (backTo pos (starEach es X.env)).any (·.1) = false := by rfl) : PE X (.Call (.Name x p) (e :: es) [] pos) (tCB r t) := by
 intro pins s σ H Q I h
 refine wpAny_Call_Name_kw (ld_blt I hg hm hv ?_ hn hdb)
 exact PyProof.Rows.callWith_builtin1 (thn (ha pos pins s σ H _ I h) fun us s1 ⟨vs, H1, I1, r1, q1⟩ => hc pins s1 σ H1 vs us Q I1 r1 q1) he hpl
theorem pe_callTy (hc : CallR X (.type T) r) (hg : Gl X x) (hm : X.mg x = none) (hv : bootBuiltins x = some (.type T)) (ha : PA X (e :: es) t) (hn : x ≠ "__name__" := by decide) (hdb : (x == ("__debug__" : Str)) = false := by decide)
  (he : starEach (e :: es) X.env = (false, eval e X.env) :: starEach es X.env := by rfl) (hpl : (backTo pos (starEach es X.env)).any (·.1) = false := by rfl) : PE X (.Call (.Name x p) (e :: es) [] pos) (tCB r t) := by
 intro pins s σ H Q I h
 refine wpAny_Call_Name_kw (ld_blt I hg hm hv ?_ hn hdb)
 exact PyProof.Rows.callWith_type1 (thn (ha pos pins s σ H _ I h) fun us s1 ⟨vs, H1, I1, r1, q1⟩ => hc pins s1 σ H1 vs us Q I1 r1 q1) he hpl
end
end L2
namespace HT
open PySem PyProof.Rows



section
open PySem.SeqAt
open PySem.AutoSeq1 (wpAny_loadPart')
open PySem.MeetsSeq PySem.MeetsSeq2 PySem.MeetsSeq3

end

section
variable {prog : Program} {w : World} {A : Around} {E : Value → Shared → Prop} {s : Shared}


theorem cat_tup {t b : Addr} {vs ws : List Value} {Q : Value → Shared → Prop} (ht : IsTup s.heap t vs.toArray) (hb : IsTup s.heap b ws.toArray) (hv : vs ≠ [])
  (h1 : ws = [] → Q (.ref t) s) (h2 : ws ≠ [] → Q (.ref s.heap.objs.size) { s with heap := s.heap.push { cls := .type "tuple", data := .seq (vs ++ ws).toArray } })
  (hsz : vs.length + ws.length ≤ sizeLine) : wpAny (model prog w) A (binaryOp .Add (.ref t) (.ref b)) Q E s := by
 obtain ⟨⟨cls, dd, data, sl⟩, ho, hc, n, hd⟩ := id ht
 obtain ⟨⟨cls2, dd2, data2, sl2⟩, ho2, hc2, n2, hd2⟩ := id hb
 simp only at hc hd hc2 hd2
 subst hc hd hc2 hd2
 have e : vs.toArray ++ ws.toArray = (vs ++ ws).toArray := by simp
 by_cases hw : ws = []
 ·exact concat_meets ⟨_, ho, rfl⟩ ⟨_, ho2, rfl⟩ noFill_tuple_add seq_tuple_add PySem.F.slot_tuple_add PySem.F.entry_tuple_add (PySem.F.args_tuple_add_2 _ _)
   (tuple_addW1 t b vs.toArray ws.toArray n n2 dd dd2 sl sl2 (by simpa using hv) (by simp [hw])) ⟨ho, ho2, h1 hw⟩
 ·refine concat_meets ⟨_, ho, rfl⟩ ⟨_, ho2, rfl⟩ noFill_tuple_add seq_tuple_add PySem.F.slot_tuple_add PySem.F.entry_tuple_add (PySem.F.args_tuple_add_2 _ _)
   (tuple_addW2 t b vs.toArray ws.toArray n n2 dd dd2 sl sl2 (by simpa using hv) (by simpa using hw) (by rw [List.size_toArray, List.size_toArray]; exact hsz)) ⟨ho, ho2, ?_⟩
  rw [e]
  exact h2 hw

noncomputable def sIx (n d : Nat) : Option Int → Nat
 | none => d
 | some v => if v < 0 then (v + (n : Int)).toNat else min v.toNat n
theorem sIx_le (n d : Nat) (hd : d ≤ n) (o : Option Int) : sIx n d o ≤ n := by
 cases o with
 | none => exact hd
 | some v =>
  show (if v < 0 then (v + (n : Int)).toNat else min v.toNat n) ≤ n
  by_cases hv : v < 0
  ·rw [if_pos hv]; omega
  ·rw [if_neg hv]; exact Nat.min_le_right _ _
theorem clip_eq (v : Int) (n d : Nat) : (if v < 0 then max (v + (n : Int)) 0 else min v (n : Int)) = ((sIx n d (some v) : Nat) : Int) := by
 show (if v < 0 then max (v + (n : Int)) 0 else min v (n : Int)) = (((if v < 0 then (v + (n : Int)).toNat else min v.toNat n) : Nat) : Int)
 by_cases hv : v < 0
 ·simp only [if_pos hv]; omega
 ·simp only [if_neg hv]; omega
theorem adjust_gen (lo hi : Option Int) (n : Nat) : Builtin.Slice.sliceAdjust lo hi 1 (n : Int) = (((sIx n 0 lo : Nat) : Int), ((sIx n n hi : Nat) : Int)) := by
 have h1 : ¬ ((1 : Int) < 0) := by omega
 unfold Builtin.Slice.sliceAdjust
 simp only [h1, if_false]
 refine Prod.ext ?_ ?_
 ·cases lo with
  | none => rfl
  | some v => exact clip_eq v n 0
 ·cases hi with
  | none => rfl
  | some v => exact clip_eq v n n
theorem places_gen (i j : Nat) : Builtin.Slice.slicePlaces (i : Int) (j : Int) 1 = j - i := by
 unfold Builtin.Slice.slicePlaces
 have h1 : (1 : Int) > 0 := by omega
 simp only [h1, if_true, Int.ediv_one]
 split <;> omega
theorem slicePart_ {v : Value} {o : Option Int} {Q : Option Int → Shared → Prop} (p : IsPart v o) (h : Q o s) : wpAny (model prog w) A (Builtin.Slice.slicePartIndex v) Q E s := by
 cases p with
 | none => exact slicePart_none h
 | int i t => exact slicePart_int h
theorem sliceApplied_gen {sl : Addr} {vl vu : Value} {lo hi : Option Int} {n : Nat} {Q : Int × Int × Nat → Shared → Prop} (hs : s.heap.IsSliceOf sl vl vu .none) (pl : IsPart vl lo) (pu : IsPart vu hi)
  (h : Q (((sIx n 0 lo : Nat) : Int), 1, sIx n n hi - sIx n 0 lo) s) : wpAny (model prog w) A (Builtin.Slice.sliceApplied (.ref sl) (pure (n : Int))) Q E s := by
 obtain ⟨os, hos, hcs, hds⟩ := id hs
 unfold Builtin.Slice.sliceApplied Builtin.Slice.sliceFields
 refine wpAny_bind (wpAny_bind (wpAny_field hos hds (x := vl) rfl (wpAny_bind (wpAny_field hos hds (x := vu) rfl (wpAny_bind (wpAny_field hos hds (x := .none) rfl (wpAny_pure ?_)))))))
 refine wpAny_bind (slicePart_none ?_)
 show wpAny _ _ (if ((1 : Int) == 0) = true then _ else _) _ _ s
 rw [if_neg (by decide)]
 refine wpAny_bind (slicePart_ pl (wpAny_bind (slicePart_ pu (wpAny_bind (wpAny_pure ?_)))))
 show wpAny _ _ (match Builtin.Slice.sliceAdjust lo hi 1 (n : Int) with | (lo, hi) => pure (lo, (1 : Int), Builtin.Slice.slicePlaces lo hi 1)) _ _ s
 rw [adjust_gen lo hi n]
 show wpAny _ _ (pure (((sIx n 0 lo : Nat) : Int), (1 : Int), Builtin.Slice.slicePlaces ((sIx n 0 lo : Nat) : Int) ((sIx n n hi : Nat) : Int) 1)) _ _ s
 rw [places_gen]
 exact wpAny_pure h
theorem pick_gen (xs : Array Value) (i k : Nat) : ((List.range k).filterMap fun (m : Nat) => xs[((i : Int) + (m : Int) * 1).toNat]?).toArray = ((xs.toList.drop i).take k).toArray := by
 have e : (fun (m : Nat) => xs[((i : Int) + (m : Int) * 1).toNat]?) = fun m => xs[i + m]? := by
  funext m
  have : ((i : Int) + (m : Int) * 1).toNat = i + m := by omega
  rw [this]
 rw [e]
 have := pick_run xs i k
 rw [List.filterMap_map] at this
 have e2 : ((fun x => xs[x]?) ∘ fun x => i + x) = fun m => xs[i + m]? := rfl
 rw [e2] at this
 rw [this]

theorem getItem_tuple_cut {t sl : Addr} {items : Array Value} {vl vu : Value} {lo hi : Option Int} {Q : Value → Shared → Prop} (ht : IsTup s.heap t items) (hs : s.heap.IsSliceOf sl vl vu .none) (pl : IsPart vl lo) (pu : IsPart vu hi)
  (hw : ¬ (sIx items.size 0 lo = 0 ∧ sIx items.size items.size hi = items.size))
  (h : Q (.ref s.heap.objs.size) { s with heap := s.heap.push { cls := .type "tuple", data := .seq ((items.toList.drop (sIx items.size 0 lo)).take (sIx items.size items.size hi - sIx items.size 0 lo)).toArray } })
  (hsz : items.size ≤ sizeLine) : wpAny (model prog w) A (getItem (.ref t) (.ref sl)) Q E s := by
 have htake : sizeOk (.seq ((items.toList.drop (sIx items.size 0 lo)).take (sIx items.size items.size hi - sIx items.size 0 lo)).toArray) := by
  show ((items.toList.drop (sIx items.size 0 lo)).take (sIx items.size items.size hi - sIx items.size 0 lo)).toArray.size ≤ sizeLine
  rw [List.size_toArray, List.length_take, List.length_drop, Array.length_toList]
  omega
 have hj : sIx items.size items.size hi ≤ items.size := sIx_le _ _ (Nat.le_refl _) hi
 obtain ⟨os, hos, hcs, hds⟩ := id hs
 have hTs : s.TypeIs (.ref sl) "slice" := ⟨os, hos, hcs⟩
 unfold getItem
 try with_reducible refine wpAny_holding ?_
 first | refine wpAny_bind (wpAny_pure ?_) | skip
 refine wpAny_bind (wpAny_sequenceKey ht.typeIs (by decide) ?_)
 refine wpAny_bind (wpAny_callSpecial?_slot (name := Str.ofString "__getitem__") ht.typeIs PyProof.Rows.slot_tuple_getitem
  (wpAny_call_entry PyProof.Rows.slot_tuple_getitem ht.typeIs entry_tuple_getitem ?_ (args_tuple_getitem _ _)))
 show wpAny _ _ (Builtin.Tuple.tupleItemsOf (.ref t) >>= _) _ _ s
 refine wpAny_bind (tupleItemsOf_ ht ?_)
 refine wpAny_bind (wpAny_typeOf hTs ?_)
 rw [if_pos (by decide)]
 refine wpAny_bind (sliceApplied_gen hs pl pu ?_)
 have hno : ¬ ((((sIx items.size 0 lo : Nat) : Int) == 0 && (1 : Int) == 1 && (sIx items.size items.size hi - sIx items.size 0 lo) == items.size) = true) := by
  intro q
  rw [Bool.and_eq_true, Bool.and_eq_true] at q
  have q1 : ((sIx items.size 0 lo : Nat) : Int) = 0 := eq_of_beq q.1.1
  have q2 : sIx items.size items.size hi - sIx items.size 0 lo = items.size := eq_of_beq q.2
  exact hw ⟨by omega, by omega⟩
 show wpAny _ _ (if (((sIx items.size 0 lo : Nat) : Int) == 0 && (1 : Int) == 1 && (sIx items.size items.size hi - sIx items.size 0 lo) == items.size) = true then _ else _) _ _ s
 rw [if_neg hno, pick_gen]
 first
  | exact wpAny_bind (m := Builtin.Tuple.tupleExact _) (wpAny_newObj_type (wpAny_pure ⟨_, rfl, wpAny_pure h⟩) htake)
  | exact wpAny_bind (m := Builtin.Tuple.tupleExact _) (wpAny_newObj_type (wpAny_bind (wpAny_pure (wpAny_pure ⟨_, rfl, wpAny_pure h⟩))) htake)
  | exact wpAny_bind (wpAny_bind (m := Builtin.Tuple.tupleExact _) (wpAny_newObj_type (wpAny_pure (wpAny_pure ⟨_, rfl, wpAny_pure h⟩)) htake))
  | exact wpAny_bind (wpAny_bind (m := Builtin.Tuple.tupleExact _) (wpAny_newObj_type (wpAny_pure ⟨_, rfl, wpAny_pure h⟩) htake))
end
end HT

namespace L2
open PySem PySem.Spec PyProof.Rows

noncomputable abbrev TO := St → Hp → (Option Int → Hp → Prop) → Prop
noncomputable def PO (X : Cx) (e : Option Expr) (t : TO) : Prop :=
 ∀ (pins : List (Addr × Obj)) (s : Shared) (σ : St) (H : Hp) (Q : Option Int → Hp → Prop), Inv X pins σ H s → t σ H Q →
  wpAny (model X.prog X.w) X.A (evalPart e X.env) (fun u s' => ∃ o H', Inv X pins σ H' s' ∧ IsPart u o ∧ Q o H') X.xe s
noncomputable def tNoPart : TO := fun _ H Q => Q none H
noncomputable def tPart (t : TE) : TO := fun σ H Q => t σ H fun x H1 => ∃ i, x = .int i ∧ Q (some i) H1


section
variable {X : Cx} {e : Expr} {te : TE} {lo hi : Option Expr} {tl th : TO} {pos p2 : Pos}

theorem po_none : PO X none tNoPart := by
 intro pins s σ H Q I h
 rw [evalPart_none]
 exact wpAny_pure ⟨none, H, I, .none, h⟩
theorem po_some (h : PE X e te) : PO X (some e) (tPart te) := by
 intro pins s σ H Q I hw
 rw [evalPart_some]
 refine thn (h pins s σ H _ I hw) fun u s1 ⟨x, H1, I1, r1, q1⟩ => ?_
 obtain ⟨i, rfl, q⟩ := q1
 obtain ⟨t, rfl⟩ := r1
 exact ⟨some i, H1, I1, .int i t, q⟩

noncomputable def SlR (X : Cx) (r : V → Option Int → Option Int → Hp → VK → Prop) : Prop :=
 ∀ (pins : List (Addr × Obj)) (s : Shared) (σ : St) (H : Hp) (x : V) (v vl vu : Value) (lo hi : Option Int) (sl : Addr) (Q : VK), Inv X pins σ H s → RelV x v → s.heap.IsSliceOf sl vl vu .none → IsPart vl lo → IsPart vu hi → r x lo hi H Q →
  ∃ T id, typeLookup (.type T) "__getitem__" = pure (some (.builtin id)) ∧ s.TypeIs v T ∧ wpAny (model X.prog X.w) X.A (getItem v (.ref sl)) (EP X pins σ Q) X.xe s
noncomputable def tSl (r : V → Option Int → Option Int → Hp → VK → Prop) (te : TE) (tl th : TO) : TE := fun σ H Q => te σ H fun x H1 => tl σ H1 fun l H2 => th σ H2 fun u H3 => r x l u H3 Q
theorem pe_slice {r : V → Option Int → Option Int → Hp → VK → Prop} (hr : SlR X r) (he : PE X e te) (hl : PO X lo tl) (hu : PO X hi th) : PE X (.Subscript e (.Slice lo hi none p2) pos) (tSl r te tl th) := by
 intro pins s σ H Q I h
 refine Subscript_ (thn (he pins s σ H _ I h) fun v s1 ⟨x, H1, I1, r1, q1⟩ => ?_)
 refine wpAny_Slice (thn (hl pins s1 σ H1 _ I1 q1) fun vl s2 ⟨l, H2, I2, pl, q2⟩ => thn (hu pins s2 σ H2 _ I2 q2) fun vu s3 ⟨u, H3, I3, pu, q3⟩ => ?_)
 rw [evalPart_none]
 refine wpAny_pure ?_
 have I4 : Inv X pins σ H3 { s3 with heap := s3.heap.push { cls := .type "slice", data := .fields #[vl, vu, .none] } } := I3.kept (t' := s3.toks) fun b ob q => Heap.get?_push_of_some _ q
 obtain ⟨T, id, hT, ht, hg⟩ := hr pins { s3 with heap := s3.heap.push { cls := .type "slice", data := .fields #[vl, vu, .none] } } σ H3 x v vl vu l u s3.heap.objs.size Q I4 r1 (Heap.IsSliceOf.new ..) pl pu q3
 show wpAny (model X.prog X.w) X.A (subscriptTail e (.Slice lo hi none p2) v (.ref s3.heap.objs.size)) (EP X pins σ Q) X.xe { s3 with heap := s3.heap.push { cls := .type "slice", data := .fields #[vl, vu, .none] } }
 exact tail_any (ops := [.ref s3.heap.objs.size, v]) ht hT hg (by with_unfolding_all rfl)

noncomputable def cutV (xs : List V) (lo hi : Option Int) : List V := (xs.drop (HT.sIx xs.length 0 lo)).take (HT.sIx xs.length xs.length hi - HT.sIx xs.length 0 lo)
theorem cutV_length (xs : List V) (lo hi : Option Int) : (cutV xs lo hi).length ≤ xs.length := by
 unfold cutV
 rw [List.length_take, List.length_drop]
 omega
noncomputable def rSlT (K : PySem.W.Frag) : V → Option Int → Option Int → Hp → VK → Prop := fun x lo hi H Q => ∃ a xs, x = .ref a ∧ SqT K H a xs ∧
 ¬ (HT.sIx xs.length 0 lo = 0 ∧ HT.sIx xs.length xs.length hi = xs.length) ∧ ∀ p, H p = none → Q (.ref p) (upd H p (.tup (cutV xs lo hi)))
theorem sl_tup : SlR X (rSlT X.K) := by
 intro pins s σ H x v vl vu lo hi sl Q I rx hs pl pu h
 obtain ⟨a, xs, rfl, hx, hw, q⟩ := h
 cases rx
 obtain ⟨its, r, ht, hz⟩ := I.tuple hx
 have hlen : its.toArray.size = xs.length := by rw [List.size_toArray]; exact r.length.symm
 refine ⟨"tuple", _, PyProof.Rows.slot_tuple_getitem.lookup, ht.typeIs, ?_⟩
 refine HT.getItem_tuple_cut ht hs pl pu (by rw [hlen]; exact hw) ?_ (by rw [hlen]; exact hz)
 rw [hlen]
 refine ⟨.ref s.heap.objs.size, _, I.laid (t' := s.toks) (o := .tup (cutV xs lo hi)) (fun b ob q => Heap.get?_push_of_some _ q) (Nat.le_refl _) ?_, rfl, q _ (I.hok.fresh (Nat.le_refl _))⟩
 exact ⟨Nat.le_trans (cutV_length xs lo hi) hz, _, (r.drop (HT.sIx xs.length 0 lo)).take (HT.sIx xs.length xs.length hi - HT.sIx xs.length 0 lo), IsTup.new _ _⟩

noncomputable def rCatT (K : PySem.W.Frag) : R2 := fun x y H Q => ∃ a b xs ys, x = .ref a ∧ y = .ref b ∧ SqT K H a xs ∧ SqT K H b ys ∧ xs ≠ [] ∧ xs.length + ys.length ≤ sizeLine ∧
 (ys = [] → Q (.ref a) H) ∧ (ys ≠ [] → ∀ p, H p = none → Q (.ref p) (upd H p (.tup (xs ++ ys))))
theorem Vals.nil_iff {xs : List V} {us : List Value} (r : Vals xs us) : us = [] ↔ xs = [] := by
 cases r with
 | nil => simp
 | cons _ _ => simp
theorem op_catT : OpR X (binaryOp .Add) (rCatT X.K) := by
 intro pins s σ H x y v u Q I rx ry h
 obtain ⟨a, b, xs, ys, rfl, rfl, ha, hb, hx, hz, q1, q2⟩ := h
 cases rx
 cases ry
 obtain ⟨its, r1, p1, _⟩ := I.tuple ha
 obtain ⟨its2, r2, p2, _⟩ := I.tuple hb
 refine HT.cat_tup p1 p2 (fun z => hx (r1.nil_iff.mp z)) (fun z => ⟨.ref a, H, I, rfl, q1 (r2.nil_iff.mp z)⟩) (fun z => ?_) (by rw [← r1.length, ← r2.length]; exact hz)
 refine ⟨.ref s.heap.objs.size, _, I.laid (t' := s.toks) (o := .tup (xs ++ ys)) (fun b ob q => Heap.get?_push_of_some _ q) (Nat.le_refl _) ?_, rfl, q2 (fun w => z (r2.nil_iff.mpr w)) _ (I.hok.fresh (Nat.le_refl _))⟩
 exact ⟨by rw [List.length_append]; exact hz, _, r1.append r2, IsTup.new _ _⟩
end
end L2

namespace L2
open PySem PySem.Spec PyProof.Rows

noncomputable def ixN (n : Nat) (i : Int) : Option Nat := if 0 ≤ i then (if i < n then some i.toNat else none) else if -(n : Int) ≤ i then some (i + n).toNat else none
noncomputable def atI {α : Type} (xs : List α) (i : Int) : Option α := (ixN xs.length i).bind fun j => xs[j]?
theorem ixN_seq {n : Nat} {i : Int} {j : Nat} (h : ixN n i = some j) : seqIndex? i n = some j ∧ j < n ∧ -(n : Int) ≤ i ∧ i < n := by
 unfold ixN at h
 by_cases h0 : 0 ≤ i
 ·rw [if_pos h0] at h
  by_cases h1 : i < n
  ·rw [if_pos h1] at h
   have e : i.toNat = j := Option.some.inj h
   exact ⟨by rw [seqIndex_of h0 h1, e], by omega, by omega, h1⟩
  ·rw [if_neg h1] at h; cases h
 ·rw [if_neg h0] at h
  by_cases h1 : -(n : Int) ≤ i
  ·rw [if_pos h1] at h
   have e : (i + n).toNat = j := Option.some.inj h
   exact ⟨by rw [seqIndex_neg (by omega) h1, e], by omega, h1, by omega⟩
  ·rw [if_neg h1] at h; cases h
theorem atI_get {α : Type} {xs : List α} {i : Int} {v : α} (h : atI xs i = some v) : ∃ j, seqIndex? i xs.length = some j ∧ xs[j]? = some v ∧ j < xs.length ∧ -(xs.length : Int) ≤ i ∧ i < xs.length := by
 unfold atI at h
 cases e : ixN xs.length i with
 | none => rw [e] at h; cases h
 | some j =>
  rw [e] at h
  obtain ⟨h1, h2, h3, h4⟩ := ixN_seq e
  exact ⟨j, h1, h, h2, h3, h4⟩

noncomputable def PlainIx (b : Expr) : Prop := ∀ o i, subscripted b false o i = operate [o, i] (getItem o i)
noncomputable def IxR (X : Cx) (r : R2) : Prop :=
 ∀ (value slice : Expr) (pins : List (Addr × Obj)) (s : Shared) (σ : St) (H : Hp) (x y : V) (v u : Value) (Q : VK), Inv X pins σ H s → RelV x v → RelV y u → r x y H Q →
  subscripted slice false v u = operate [v, u] (getItem v u) → wpAny (model X.prog X.w) X.A (subscriptTail value slice v u) (EP X pins σ Q) X.xe s
noncomputable def MtR (X : Cx) (id : String) (r : V → List V → Hp → VK → Prop) : Prop :=
 ∀ (pins : List (Addr × Obj)) (s : Shared) (σ : St) (H : Hp) (x : V) (xs : List V) (v : Value) (us : List Value) (Q : VK), Inv X pins σ H s → RelV x v → Vals xs us → r x xs H Q →
  wpAny (model X.prog X.w) X.A (call (.builtin id) (v :: us)) (EP X pins σ Q) X.xe s
section
variable {X : Cx} {a b : Expr} {ta tb : TE} {pos : Pos}
theorem IxR.or {r r' : R2} (h : IxR X r) (h' : IxR X r') : IxR X (fun x y H Q => r x y H Q ∨ r' x y H Q) := by
 intro value slice pins s σ H x y v u Q I rx ry q hs
 rcases q with q | q
 ·exact h value slice pins s σ H x y v u Q I rx ry q hs
 ·exact h' value slice pins s σ H x y v u Q I rx ry q hs
theorem pe_ix {r : R2} (hr : IxR X r) (ha : PE X a ta) (hb : PE X b tb) (hs : PlainIx b) : PE X (.Subscript a b pos) (tOp r ta tb) := by
 intro pins s σ H Q I h
 exact Subscript_ (binT ha hb I h fun v u s2 x y H2 I2 rx ry q => hr a b pins s2 σ H2 x y v u Q I2 rx ry q (hs _ _))

noncomputable def rIxL (K : PySem.W.Frag) : R2 := fun x y H Q => ∃ p xs i v, x = .ref p ∧ y = .int i ∧ SqL K H p xs ∧ atI xs i = some v ∧ Q v H
noncomputable def rIxT (K : PySem.W.Frag) : R2 := fun x y H Q => ∃ p xs i v, x = .ref p ∧ y = .int i ∧ SqT K H p xs ∧ atI xs i = some v ∧ Q v H
noncomputable def rIxS : R2 := fun x y H Q => ∃ z i c, x = .str z ∧ y = .int i ∧ z.length ≤ sizeLine ∧ atI z.cps.toList i = some c ∧ Q (.str ⟨#[c]⟩) H
theorem ix_list : IxR X (rIxL X.K) := by
 intro value slice pins s σ H x y v u Q I rx ry h hs
 obtain ⟨p, xs, i, z, rfl, rfl, hq, he, q⟩ := h
 cases rx
 obtain ⟨t, rfl⟩ := ry
 obtain ⟨its, r, pl, hz⟩ := I.list hq
 obtain ⟨j, h1, h2, h3, h4, h5⟩ := atI_get he
 obtain ⟨w, ew, rw'⟩ := r.get h2
 have hl := r.length
 have hn := line63
 have fin : EP X pins σ Q w s := ⟨z, H, I, rw', q⟩
 by_cases h0 : 0 ≤ i
 ·have hj : i.toNat = j := by
   rw [seqIndex_of h0 h5] at h1
   exact Option.some.inj h1
  exact item_listR pl.isList h0 (by omega) (by rw [hj]; simpa using ew) fin hs
 ·have hj : (i + (its.toArray.size : Int)).toNat = j := by
   rw [seqIndex_neg (by omega) h4] at h1
   rw [List.size_toArray, ← hl]
   exact Option.some.inj h1
  exact subscriptTail_builtinR (x := w) pl.isList.typeIs slot_list_getitem.lookup
   (wpAny_getItem_list_neg (Q := fun r s' => r = w ∧ EP X pins σ Q r s') pl.isList (by omega) (by rw [List.size_toArray] <;> omega) (by omega) (by rw [hj]; simpa using ew) ⟨rfl, fin⟩) hs
theorem ix_tup : IxR X (rIxT X.K) := by
 intro value slice pins s σ H x y v u Q I rx ry h hs
 obtain ⟨p, xs, i, z, rfl, rfl, hq, he, q⟩ := h
 cases rx
 obtain ⟨t, rfl⟩ := ry
 obtain ⟨its, r, pl, hz⟩ := I.tuple hq
 obtain ⟨j, h1, h2, h3, h4, h5⟩ := atI_get he
 obtain ⟨w, ew, rw'⟩ := r.get h2
 have hl := r.length
 have hn := line63
 have fin : EP X pins σ Q w s := ⟨z, H, I, rw', q⟩
 exact subscriptTail_builtinR (x := w) pl.typeIs slot_tuple_getitem.lookup
  (getItem_tuple (j := j) (Q := fun r s' => r = w ∧ EP X pins σ Q r s') pl (by omega) (by omega) (by rw [List.size_toArray, ← hl]; exact h1) (by simpa using ew) ⟨rfl, fin⟩) hs
theorem ix_str : IxR X rIxS := by
 intro value slice pins s σ H x y v u Q I rx ry h hs
 obtain ⟨z, i, c, rfl, rfl, hz, he, q⟩ := h
 obtain ⟨t, rfl⟩ := rx
 obtain ⟨t', rfl⟩ := ry
 obtain ⟨j, h1, h2, h3, h4, h5⟩ := atI_get he
 have hl : z.cps.toList.length = z.length := by simp [Str.length]
 rw [hl] at h1 h4 h5
 have hn := line63
 exact tail_any (typeIs_str s z t) slot_str_getitem.lookup (getItem_str (c := c) (by
  have e1 : decide (i < -(2 ^ 63 : Int)) = false := decide_eq_false (by omega)
  have e2 : decide (i ≥ 2 ^ 63) = false := decide_eq_false (by omega)
  rw [e1, e2, Bool.or_false]) (by rw [h1]; simpa using h2) ⟨.str ⟨#[c]⟩, H, I.tok _, ⟨_, rfl⟩, q⟩) hs
noncomputable def rIx (K : PySem.W.Frag) : R2 := fun x y H Q => rIxL K x y H Q ∨ rIxT K x y H Q ∨ rIxS x y H Q
theorem ix_seq : IxR X (rIx X.K) := ix_list.or (ix_tup.or ix_str)


theorem slice_bounds (lo hi : Option Int) (n : Nat) : (sliceBounds lo hi none n).1 = ((HT.sIx n 0 lo : Nat) : Int) ∧ (sliceBounds lo hi none n).2.1 = ((HT.sIx n n hi : Nat) : Int) ∧ (sliceBounds lo hi none n).2.2 = 1 := by
 refine ⟨?_, ?_, rfl⟩
 ·cases lo with
  | none => simp [sliceBounds, HT.sIx]
  | some i =>
   simp only [sliceBounds, HT.sIx, Option.getD_none, show (1 : Int) > 0 by decide, if_true]
   by_cases h : i < 0
   ·simp only [h, if_true] <;> omega
   ·simp only [h, if_false] <;> omega
 ·cases hi with
  | none => simp [sliceBounds, HT.sIx]
  | some i =>
   simp only [sliceBounds, HT.sIx, Option.getD_none, show (1 : Int) > 0 by decide, if_true]
   by_cases h : i < 0
   ·simp only [h, if_true] <;> omega
   ·simp only [h, if_false] <;> omega
theorem slicePick_cut (its : List Value) (lo hi : Option Int) : slicePick its.toArray lo hi none = ((its.drop (HT.sIx its.length 0 lo)).take (HT.sIx its.length its.length hi - HT.sIx its.length 0 lo)).toArray := by
 obtain ⟨h1, h2, h3⟩ := slice_bounds lo hi its.toArray.size
 unfold slicePick
 rw [h1, h2, h3]
 simp only [sliceRange_one, pick_run, List.size_toArray] <;> rfl
noncomputable def rSlL (K : PySem.W.Frag) : V → Option Int → Option Int → Hp → VK → Prop := fun x lo hi H Q => ∃ a xs, x = .ref a ∧ SqL K H a xs ∧ ∀ p, H p = none → Q (.ref p) (upd H p (.lst (cutV xs lo hi)))
theorem sl_list : SlR X (rSlL X.K) := by
 intro pins s σ H x v vl vu lo hi sl Q I rx hs pl pu h
 obtain ⟨a, xs, rfl, hx, q⟩ := h
 cases rx
 obtain ⟨its, r, ht, hz⟩ := I.list hx
 have hlen := r.length
 refine ⟨"list", _, slot_list_getitem.lookup, ht.isList.typeIs, ?_⟩
 refine wpAny_getItem_list_slice ht.isList hs pl pu .none (by simp) ?_ (by rw [List.size_toArray] <;> omega)
 rw [slicePick_cut, ← hlen]
 refine ⟨.ref s.heap.objs.size, _, I.laid (t' := s.toks) (o := .lst (cutV xs lo hi)) (fun b ob q => Heap.get?_push_of_some _ q) (Nat.le_refl _) ?_, rfl, q _ (I.hok.fresh (Nat.le_refl _))⟩
 exact ⟨Nat.le_trans (cutV_length xs lo hi) hz, _, 0, (r.drop (HT.sIx xs.length 0 lo)).take (HT.sIx xs.length xs.length hi - HT.sIx xs.length 0 lo), Heap.get?_push_size _ rfl⟩

noncomputable def flatV : V → Bool
 | .non => true
 | .bl _ => true
 | .int _ => true
 | .str _ => true
 | _ => false
noncomputable def eqV : V → V → Bool
 | .non, .non => true
 | .bl a, .bl b => a == b
 | .bl a, .int b => (if a then 1 else 0) == b
 | .int a, .bl b => a == (if b then 1 else 0)
 | .int a, .int b => a == b
 | .str a, .str b => a == b
 | _, _ => false
theorem eqAt_V {A : Around} {s : Shared} {y x : V} {u v : Value} (ry : RelV y u) (rx : RelV x v) (fy : flatV y = true) (fx : flatV x = true) : SeqAt.EqAt A s u v (eqV y x) := by
 cases y with
 | non =>
  cases ry
  cases x with
  | non => cases rx; exact SeqAt.EqAt.same _
  | bl b => cases rx; exact SeqAt.EqAt.none_bool b
  | int b => obtain ⟨t, rfl⟩ := rx; exact SeqAt.EqAt.none_int b t
  | str b => obtain ⟨t, rfl⟩ := rx; exact SeqAt.EqAt.none_str b t
  | _ => exact absurd (show false = true from fx) Bool.false_ne_true
 | bl a =>
  cases ry
  cases x with
  | non => cases rx; exact SeqAt.EqAt.bool_none a
  | bl b => cases rx; exact SeqAt.EqAt.bool_bool a b
  | int b => obtain ⟨t, rfl⟩ := rx; exact SeqAt.EqAt.bool_int a b t
  | str b => obtain ⟨t, rfl⟩ := rx; exact SeqAt.EqAt.bool_str a b t
  | _ => exact absurd (show false = true from fx) Bool.false_ne_true
 | int a =>
  obtain ⟨t', rfl⟩ := ry
  cases x with
  | non => cases rx; exact SeqAt.EqAt.int_none a t'
  | bl b => cases rx; exact SeqAt.EqAt.int_bool a t' b
  | int b => obtain ⟨t, rfl⟩ := rx; exact SeqAt.EqAt.int_int a t' b t
  | str b => obtain ⟨t, rfl⟩ := rx; exact SeqAt.EqAt.int_str a t' b t
  | _ => exact absurd (show false = true from fx) Bool.false_ne_true
 | str a =>
  obtain ⟨t', rfl⟩ := ry
  cases x with
  | non => cases rx; exact SeqAt.EqAt.str_none a t'
  | bl b => cases rx; exact SeqAt.EqAt.str_bool a t' b
  | int b => obtain ⟨t, rfl⟩ := rx; exact SeqAt.EqAt.str_int a t' b t
  | str b => obtain ⟨t, rfl⟩ := rx; exact SeqAt.EqAt.str_str a t' b t
  | _ => exact absurd (show false = true from fx) Bool.false_ne_true
 | _ => exact absurd (show false = true from fy) Bool.false_ne_true
noncomputable def eqU (x : V) (u : Value) : Bool := match u with
 | .none => eqV .non x
 | .bool b => eqV (.bl b) x
 | .int i _ => eqV (.int i) x
 | .str z _ => eqV (.str z) x
 | _ => false
theorem eqU_of {x y : V} {u : Value} (r : RelV y u) (f : flatV y = true) : eqU x u = eqV y x := by
 cases y with
 | non => cases r; rfl
 | bl b => cases r; rfl
 | int i => obtain ⟨t, rfl⟩ := r; rfl
 | str z => obtain ⟨t, rfl⟩ := r; rfl
 | _ => exact absurd (show false = true from f) Bool.false_ne_true
theorem mem_eqAt {A : Around} {s : Shared} {x : V} {v : Value} (rx : RelV x v) (fx : flatV x = true) : ∀ {xs : List V} {us : List Value}, Vals xs us → xs.all flatV = true → ∀ u ∈ us, SeqAt.EqAt A s u v (eqU x u)
 | _, _, .nil, _ => fun u hu => by cases hu
 | y :: xs, u :: us, .cons r t, f => fun u' hu => by
  rw [List.all_cons, Bool.and_eq_true] at f
  rcases List.mem_cons.mp hu with rfl | hu
  ·rw [eqU_of r f.1]; exact eqAt_V r rx f.1 fx
  ·exact mem_eqAt rx fx t f.2 u' hu

theorem call_len_seq : CallR X (.builtin "len") (fun xs H Q => ∃ p ys, xs = [.ref p] ∧ (SqL X.K H p ys ∨ SqT X.K H p ys) ∧ Q (.int ys.length) H) := by
 intro pins s σ H xs us Q I r h
 obtain ⟨p, ys, rfl, hq, q⟩ := h
 obtain ⟨u, rfl, rx⟩ := vals1 r
 cases rx
 have hn := line63
 rcases hq with hq | hq
 ·obtain ⟨its, r', pl, hz⟩ := I.list hq
  have hlen := r'.length
  exact Calls.call_len_list pl.isList (by simp only [List.size_toArray] <;> omega) ⟨.int ys.length, H, I.tok _, ⟨s.toks + 1, by rw [List.size_toArray, hlen]⟩, q⟩
 ·obtain ⟨its, r', pl, hz⟩ := I.tuple hq
  have hlen := r'.length
  exact len_tuple pl (by simp only [List.size_toArray] <;> omega) ⟨.int ys.length, H, I.tok _, ⟨s.toks + 1, by rw [List.size_toArray, hlen]⟩, q⟩
theorem call_tuple_of : CallR X (.type "tuple") (fun xs H Q => ∃ p ys, xs = [.ref p] ∧ ((SqL X.K H p ys ∧ ∀ l, H l = none → Q (.ref l) (upd H l (.tup ys))) ∨ (SqT X.K H p ys ∧ Q (.ref p) H))) := by
 intro pins s σ H xs us Q I r h
 obtain ⟨p, ys, rfl, h⟩ := h
 obtain ⟨u, rfl, rx⟩ := vals1 r
 cases rx
 rcases h with ⟨hq, q⟩ | ⟨hq, q⟩
 ·obtain ⟨its, r', pl, hz⟩ := I.list hq
  have hlen := r'.length
  refine call_tuple_list pl.isList (fun h' kp => ?_) (by simp only [List.size_toArray] <;> omega)
  have I1 : Inv X pins σ H { s with heap := h' } := I.kept (t' := s.toks) kp
  have I2 : Inv X pins σ (upd H h'.objs.size (.tup ys)) { s with heap := h'.push { cls := .type "tuple", data := .seq its.toArray } } :=
   I1.laid (t' := s.toks) (fun b o e => Heap.get?_push_of_some _ e) (Nat.le_refl _) (show ObjOk X.prog X.w _ _ _ (.tup ys) from ⟨hz, its, r', IsTup.new _ _⟩)
  exact ⟨.ref h'.objs.size, _, I2, rfl, q _ (I1.hok.fresh (Nat.le_refl _))⟩
 ·obtain ⟨its, r', pl, hz⟩ := I.tuple hq
  exact call_tuple_same pl ⟨.ref p, H, I, rfl, q⟩

noncomputable def tyV (K : PySem.W.Frag) (T : String) (x : V) (H : Hp) : Prop := match x with
 | .str _ => T = "str"
 | .int _ => T = "int"
 | .ref p => (T = "list" ∧ ∃ xs, SqL K H p xs) ∨ (T = "tuple" ∧ ∃ o, K.lookup p = some o ∧ o.cls = .type "tuple" ∧ o.dict = none) ∨
   (T = "dict" ∧ ((∃ kvs, H p = some (.dK kvs)) ∨ ∃ kvs, H p = some (.dT kvs))) ∨ (T = "set" ∧ ∃ S n, H p = some (.set S n))
 | _ => False
theorem tyV_is {pins : List (Addr × Obj)} {σ : St} {H : Hp} {s : Shared} {T : String} {x : V} {v : Value} (I : Inv X pins σ H s) (r : RelV x v) (ty : tyV X.K T x H) :
  s.TypeIs v T ∧ ∀ a, v = .ref a → ∃ ob, s.heap.get? a = some ob ∧ ob.dict = none := by
 cases x with
 | str z =>
  obtain ⟨t, rfl⟩ := r
  cases (show T = "str" from ty)
  exact ⟨typeIs_str s z t, fun _ e => nomatch e⟩
 | int i =>
  obtain ⟨t, rfl⟩ := r
  cases (show T = "int" from ty)
  exact ⟨typeIs_int s i t, fun _ e => nomatch e⟩
 | ref p =>
  cases r
  rcases ty with ⟨rfl, xs, hq⟩ | ⟨rfl, o, hk, hc, hd⟩ | ⟨rfl, hk⟩ | ⟨rfl, S, n, hk⟩
  ·obtain ⟨its, _, pl, _⟩ := I.list hq
   refine ⟨pl.isList.typeIs, fun a e => ?_⟩
   cases e
   obtain ⟨o, n, e, c, hd, _⟩ := pl
   exact ⟨o, e, hd⟩
  ·refine ⟨⟨o, I.kIn p o hk, hc⟩, fun a e => ?_⟩
   cases e
   exact ⟨o, I.kIn _ o hk, hd⟩
  ·have z : ∃ o, s.heap.get? p = some o ∧ o.ExactDict := by
    rcases hk with ⟨kvs, hk⟩ | ⟨kvs, hk⟩
    ·obtain ⟨_, _, _, _, o, _, _, e, ex, _⟩ := I.hok p _ hk
     exact ⟨o, e, ex⟩
    ·obtain ⟨_, _, _, _, o, _, _, e, ex, _⟩ := I.hok p _ hk
     exact ⟨o, e, ex⟩
   obtain ⟨o, e, ex⟩ := z
   refine ⟨⟨o, e, ex.1⟩, fun a e2 => ?_⟩
   cases e2
   exact ⟨o, e, ex.2.1⟩
  ·obtain ⟨o, _, _, _, e, ex, _⟩ := I.hok p _ hk
   refine ⟨⟨o, e, ex.1⟩, fun a e2 => ?_⟩
   cases e2
   exact ⟨o, e, ex.2.1⟩
 | _ => exact False.elim ty
noncomputable def tBM0 (K : PySem.W.Frag) (T : String) (r : V → List V → Hp → VK → Prop) (to : TE) : TE := fun σ H Q => to σ H fun x H1 => tyV K T x H1 ∧ r x [] H1 Q
noncomputable def tBM (K : PySem.W.Frag) (T : String) (r : V → List V → Hp → VK → Prop) (to : TE) (t : TA) : TE := fun σ H Q => to σ H fun x H1 => tyV K T x H1 ∧ t σ H1 fun xs H2 => r x xs H2 Q
variable {o e : Expr} {es : List Expr} {to : TE} {t : TA} {name : Str} {apos cpos : Pos} {T id : String} {r : V → List V → Hp → VK → Prop}
theorem pe_bm0 (pa : PlainAttrs T) (slot : Slot T name id) (hty : typeOf (.builtin id) = pure (.type "method_descriptor")) (hm : MtR X id r) (ho : PE X o to)
  (hbase : attributeBase o name X.env (eval o X.env) = eval o X.env := by rfl) (hline : (apos.endLine == cpos.line) = true := by rfl) : PE X (.Call (.Attribute o name apos) [] [] cpos) (tBM0 X.K T r to) := by
 intro pins s σ H Q I h
 refine wpAny_Call_method0_late hbase hline (thn (ho pins s σ H _ I h) fun v s1 ⟨x, H1, I1, r1, ty, q1⟩ => ?_)
 obtain ⟨h1, h2⟩ := tyV_is I1 r1 ty
 exact ⟨T, id, pa, slot, hty, h1, h2, Calls.callWith_builtin rfl (PySem.evalArgs_none (hm pins s1 σ H1 x [] v [] Q I1 r1 .nil q1))⟩
theorem pe_bm (pa : PlainAttrs T) (slot : Slot T name id) (hty : typeOf (.builtin id) = pure (.type "method_descriptor")) (hm : MtR X id r) (ho : PE X o to) (ha : PA X (e :: es) t)
  (hbase : attributeBase o name X.env (eval o X.env) = eval o X.env := by rfl)
  (hfew : ((backTo cpos (starEach (e :: es) X.env)).all (fun x => !x.1) && (backToKw cpos (keywordEach [] X.env)).all (fun x => x.1.isSome)
   && decide ((e :: es).length + ([] : List Keyword).length + (if ([] : List Keyword).isEmpty then 0 else 1) < 30)) = true := by rfl)
  (hline : (apos.endLine == cpos.line) = true := by rfl) (hs : starEach (e :: es) X.env = (false, eval e X.env) :: starEach es X.env := by rfl) (hplain : (backTo cpos (starEach es X.env)).any (·.1) = false := by rfl) :
  PE X (.Call (.Attribute o name apos) (e :: es) [] cpos) (tBM X.K T r to t) := by
 intro pins s σ H Q I h
 refine wpAny_Call_method_late hbase hfew hline rfl (thn (ho pins s σ H _ I h) fun v s1 ⟨x, H1, I1, r1, ty, q1⟩ => ?_)
 obtain ⟨h1, h2⟩ := tyV_is I1 r1 ty
 refine ⟨T, id, pa, slot, hty, h1, h2, ?_⟩
 have hA := ha cpos pins s1 σ H1 _ I1 q1
 rw [hs] at hA ⊢
 refine Calls.callWith_builtin (by show (false || (backTo cpos (starEach es X.env)).any (·.1)) = false; rw [hplain] <;> rfl) (Calls.evalArgs_plain ?_)
 exact thn hA fun us s2 ⟨vs, H2, I2, r2, q2⟩ => hm pins s2 σ H2 x vs v us Q I2 r1 r2 q2
/- xs.append(e), list.index on a module's tuple .. are MtR facts of 06m -/
end
end L2

namespace L2
open PySem PySem.Spec PyProof.Rows

noncomputable def MtM (X : Cx) (id : String) (r : V → List V → Hp → VK → Prop) : Prop :=
 ∀ (pins : List (Addr × Obj)) (s : Shared) (σ : St) (H : Hp) (x : V) (xs : List V) (v : Value) (us : List Value) (Q : VK), Inv X pins σ H s → RelV x v → Vals xs us → r x xs H Q →
  wpAny (model X.prog X.w) X.A (call (.builtin id) (v :: us)) (EP X pins σ Q) X.xe s

theorem Vals.one : ∀ {x : V} {us : List Value}, Vals [x] us → ∃ u, us = [u] ∧ RelV x u
 | _, _, .cons r .nil => ⟨_, rfl, r⟩
theorem Vals.zero : ∀ {us : List Value}, Vals [] us → us = []
 | _, .nil => rfl
theorem Vals.dropLast {xs : List V} {us : List Value} (h : Vals xs us) : Vals xs.dropLast us.dropLast := by
 induction h with
 | nil => exact .nil
 | cons r t ih =>
  cases t with
  | nil => exact .nil
  | cons q t' => exact .cons r ih
theorem Vals.reverse {xs : List V} {us : List Value} (h : Vals xs us) : Vals xs.reverse us.reverse := by
 induction h with
 | nil => exact .nil
 | cons r t ih => rw [List.reverse_cons, List.reverse_cons]; exact Vals.append ih (.cons r .nil)
theorem Vals.rep {xs : List V} {us : List Value} (h : Vals xs us) : ∀ k : Nat, Vals (List.replicate k xs).flatten (List.replicate k us).flatten
 | 0 => .nil
 | k + 1 => by
  rw [List.replicate_succ, List.replicate_succ, List.flatten_cons, List.flatten_cons]
  exact Vals.append h (Vals.rep h k)
theorem erase_last {α : Type} (l : List α) : l.eraseIdx (l.length - 1) = l.dropLast := by
 induction l with
 | nil => rfl
 | cons a r ih =>
  cases r with
  | nil => rfl
  | cons b r =>
   have e : (a :: b :: r).length - 1 = ((b :: r).length - 1) + 1 := by
    have h1 : (a :: b :: r).length = r.length + 2 := rfl
    have h2 : (b :: r).length = r.length + 1 := rfl
    omega
   rw [e, List.eraseIdx_cons_succ, ih]
   all_goals rfl
theorem foldl_rep (its : List Value) : ∀ (k : Nat) (acc : List Value),
  List.foldl (fun x1 x2 => x1 ++ x2) acc.toArray (List.replicate k its.toArray) = (acc ++ (List.replicate k its).flatten).toArray
 | 0, acc => by simp
 | k + 1, acc => by
  have e : acc.toArray ++ its.toArray = (acc ++ its).toArray := by simp
  have e2 : (acc ++ its) ++ (List.replicate k its).flatten = acc ++ (List.replicate (k + 1) its).flatten := by
   rw [List.replicate_succ, List.flatten_cons, List.append_assoc]
  rw [← e2, ← foldl_rep its k (acc ++ its), ← e, List.replicate_succ, List.foldl_cons]

section
variable {X : Cx} {pins : List (Addr × Obj)} {σ : St} {H : Hp} {s : Shared} {l b : Addr} {xs ys zs : List V}

theorem Inv.lset {its its' : List Value} {n : Nat} {f : Array Value → Array Value} {t' : Nat} (I : Inv X pins σ H s) (hH : H l = some (.lst xs))
  (e : s.heap.get? l = some { cls := .type "list", data := .seq its.toArray n }) (hf : f its.toArray = its'.toArray) (hv : Vals ys its') (hz : ys.length ≤ sizeLine) :
  Inv X pins σ (upd H l (.lst ys)) { s with heap := s.heap.update l (Obj.mapSeq f), toks := t' } := by
 have q := PySem.IsL.update e f
 rw [hf] at q
 refine I.write (x := l) (e := l) (by rw [hH]; exact trivial) (.inl rfl) (fun b' u hb hu => (Heap.get?_update_other s.heap (Obj.mapSeq f) (Ne.symm hb)).trans hu) ⟨_, q⟩ ?_
 exact ⟨hz, its', _, hv, q⟩
theorem Inv.lstM (I : Inv X pins σ H s) (hH : H l = some (.lst xs)) : xs.length ≤ sizeLine ∧ ∃ (its : List Value) (n : Nat), Vals xs its ∧ xs.length = its.length ∧ s.heap.get? l = some { cls := .type "list", data := .seq its.toArray n } := by
 obtain ⟨z, its, n, r, e⟩ := I.hok l _ hH
 exact ⟨z, its, n, r, r.length, e⟩

theorem notLongL {n : Nat} (h : n ≤ sizeLine) : Builtin.List.listTooLong n = false := by
 unfold Builtin.List.listTooLong
 exact decide_eq_false (by omega)
end

section
variable {X : Cx}

noncomputable def rAppend : V → List V → Hp → VK → Prop := fun x vs H Q => ∃ l xs y, x = .ref l ∧ vs = [y] ∧ H l = some (.lst xs) ∧ xs.length < sizeLine ∧ Q .non (upd H l (.lst (xs ++ [y])))
theorem mt_append : MtM X "list.append" rAppend := by
 intro pins s σ H x vs v us Q I rx rv h
 obtain ⟨l, xs, y, rfl, rfl, hH, hz, q⟩ := h
 cases rx
 obtain ⟨u, rfl, ru⟩ := rv.one
 obtain ⟨z, its, n, r, hl, e⟩ := I.lstM hH
 refine call_meets F.slot_list_append ⟨_, e, rfl⟩ F.entry_list_append (F.args_list_append_2 _ _) (PySem.list_append l its.toArray n u (by rw [List.size_toArray]; omega)) ⟨e, ?_⟩
 refine ⟨.non, _, I.lset (its' := its ++ [u]) hH e (by simp) (r.append (.cons ru .nil)) ?_, rfl, q⟩
 rw [List.length_append, List.length_singleton]
 omega


noncomputable def rPop : V → List V → Hp → VK → Prop := fun x vs H Q => ∃ l xs y, x = .ref l ∧ vs = [] ∧ H l = some (.lst xs) ∧ xs[xs.length - 1]? = some y ∧ Q y (upd H l (.lst xs.dropLast))
theorem mt_pop : MtM X "list.pop" rPop := by
 intro pins s σ H x vs v us Q I rx rv h
 obtain ⟨l, xs, y, rfl, rfl, hH, hy, q⟩ := h
 cases rx
 have hus := rv.zero
 subst hus
 obtain ⟨z, its, n, r, hl, e⟩ := I.lstM hH
 obtain ⟨u, hu, ru⟩ := r.get hy
 have hy' : its.toArray[its.toArray.size - 1]? = some u := by
  show its.toArray[its.length - 1]? = some u
  rw [← Array.getElem?_toList, ← hl]
  exact hu
 refine call_meets F.slot_list_pop ⟨_, e, rfl⟩ F.entry_list_pop (F.args_list_pop_1 _) (MeetsSeq.list_pop_last l its.toArray n u hy' (by rw [List.size_toArray]; omega)) ⟨e, ?_⟩
 refine ⟨y, _, I.lset (its' := its.dropLast) hH e ?_ r.dropLast ?_, ru, q⟩
 ·show its.toArray.eraseIdxIfInBounds (its.toArray.size - 1) = its.dropLast.toArray
  rw [List.size_toArray, List.eraseIdxIfInBounds_toArray, erase_last]
 ·rw [List.length_dropLast]
  omega




theorem len_rep {α : Type} (xs : List α) (k : Nat) : (List.replicate k xs).flatten.length = k * xs.length := by
 induction k with
 | zero => simp
 | succ k ih => rw [List.replicate_succ, List.flatten_cons, List.length_append, ih, Nat.succ_mul, Nat.add_comm]

end

section
variable {prog : Program} {w : World} {A : Around} {E : Value → Shared → Prop} {s : Shared}
end

section
variable {X : Cx}
end
end L2
namespace L2
open PySem PySem.Spec PyProof.Rows

section
variable {κ : Type} [DecidableEq κ]



end



noncomputable abbrev KT (H : Hp) : List (List Key × V) → List (List Key × Addr × Value) → Prop := Paired fun p q => p.1 = q.1 ∧ H q.2.1 = some (.tup (p.1.map kV)) ∧ RelV p.2 q.2.2

section
variable {P : Program} {w : World} {H : Hp} {h : Heap} {a : Addr}
end



section
variable {X : Cx} {pins : List (Addr × Obj)} {σ : St} {H : Hp} {s : Shared} {a : Addr} {y v : V} {u r : Value} {o : Option V} {A : Around} {E : Value → Shared → Prop}


end

section
variable {X : Cx} {pins : List (Addr × Obj)} {σ : St} {H : Hp} {s : Shared} {a : Addr} {kvs : List (Key × V)} {k : Key} {u : Value} {A : Around} {E : Value → Shared → Prop}
end





section
variable {X : Cx} {o i e value : Expr} {pos pos' tpos : Pos} {td ty tv : TE}
end


section
variable {X : Cx} {pos : Pos}
end

noncomputable abbrev VV : List (V × V) → List (Value × Value) → Prop := Paired fun p q => RelV p.1 q.1 ∧ RelV p.2 q.2



structure M1 (X : Cx) (o : Expr) (m : Str) (apos : Pos) (e : Expr) (cpos : Pos) : Prop where
 base : attributeBase o m X.env (eval o X.env) = eval o X.env
 few : ((backTo cpos (starEach [e] X.env)).all (fun x => !x.1) && (backToKw cpos (keywordEach [] X.env)).all (fun x => x.1.isSome)
  && decide (([e] : List Expr).length + ([] : List Keyword).length + (if ([] : List Keyword).isEmpty then 0 else 1) < 30)) = true
 line : (apos.endLine == cpos.line) = true
 trees : backTo cpos (starEach [e] X.env) = [(false, eval e X.env)]
structure M2 (X : Cx) (o : Expr) (m : Str) (apos : Pos) (e f : Expr) (cpos : Pos) : Prop where
 base : attributeBase o m X.env (eval o X.env) = eval o X.env
 few : ((backTo cpos (starEach [e, f] X.env)).all (fun x => !x.1) && (backToKw cpos (keywordEach [] X.env)).all (fun x => x.1.isSome)
  && decide (([e, f] : List Expr).length + ([] : List Keyword).length + (if ([] : List Keyword).isEmpty then 0 else 1) < 30)) = true
 line : (apos.endLine == cpos.line) = true
 trees : backTo cpos (starEach [e, f] X.env) = [(false, eval e X.env), (false, eval f X.env)]


section
variable {X : Cx} {pins : List (Addr × Obj)} {σ : St} {H : Hp} {s : Shared} {a : Addr} {y d : V} {u r : Value} {o : Option V} {A : Around} {E : Value → Shared → Prop}
end

section
variable {X : Cx} {o e f : Expr} {apos cpos : Pos} {td ty tx : TE}
end

section
variable {X : Cx} {pins : List (Addr × Obj)} {σ : St} {H : Hp} {s : Shared} {a : Addr} {kvs : List (Key × V)} {A : Around} {E : Value → Shared → Prop}
end


section
variable {X : Cx} {pins : List (Addr × Obj)} {σ : St} {H : Hp} {s : Shared} {a : Addr} {y : V} {u : Value} {A : Around} {E : Value → Shared → Prop}
end
end L2
namespace Att
open PySem PySem.W PySem.Calls PyProof.Rows

theorem ints_of_wellAll {P : Params} {h : Heap} : ∀ (ns : List Int) (vs : List Value), WellAll P h vs (ns.map WData.int) → IntsAre vs ns := by
 intro ns
 induction ns with
 | nil =>
  intro vs w
  rw [List.map_nil] at w
  cases w
  exact .nil
 | cons n ns ih =>
  intro vs w
  rw [List.map_cons] at w
  cases w with
  | cons a b =>
   cases a
   exact .cons _ _ (ih _ b)

theorem script_of {l : OpenLaw} {n : Nat} (hn : l.most = some n) {P : Params} {h : Heap} {args : List WData} {vals : List Value}
  (hpre : l.row.toRowW.claim.pre args = true) (hwl : WellAll P h vals args) :
  ∃ a vs ns, vals = [Value.ref a] ∧ args = [WData.list (ns.map WData.int)] ∧ h.get? a = some { cls := .type "list", data := .seq vs.toArray } ∧ IntsAre vs ns ∧ ns.length ≤ n := by
 have hsh : WShape.hasAll [] args [.list .int] = true := (pre_splitW hpre).1
 have hc : l.pre.holds [] { args := args } = true := (pre_splitW hpre).2
 obtain ⟨d, r, rfl, h1, h2⟩ := hasAllW_cons hsh
 obtain rfl := hasAllW_nil h2
 obtain ⟨xs, rfl, h3⟩ := hasW_list h1
 obtain ⟨ns, rfl⟩ := items_int h3
 have hlen : ns.length ≤ n := by
  unfold OpenLaw.pre at hc
  have h4 : (WTm.not (.lt (.lit (.int (n : Int))) (.len (.arg 0)))).holds [] { args := [.list (ns.map .int)] } = true := by
   have h4 := (holds_andW hc).1
   rw [hn] at h4
   exact h4
  have h5 := condW_of h4 (w_not (w_lt w_lit (w_len_list (w_arg rfl))))
  rw [List.length_map] at h5
  refine Nat.le_of_not_lt fun q => ?_
  have q' : (n : Int) < ((ns.length : Nat) : Int) := by omega
  first
   | (rw [decide_eq_true q'] at h5; exact absurd h5 (by decide))
   | (simp at h5; omega)
 cases hwl with
 | cons w1 w2 =>
  cases w2
  cases w1 with
  | list ho hall => exact ⟨_, _, ns, rfl, rfl, ho, ints_of_wellAll ns _ hall, hlen⟩

theorem post_true (l : OpenLaw) (args : List WData) : l.row.toRowW.claim.post args (.bool true) args = true :=
 postW_of (r := l.row.toRowW) (X := (true == true))
  (show WShape.has [] (.bool true) .bool = true by first | rfl | decide | simp [WShape.has, WShape.arms, WShape.armsAll])
  (show (WTm.eq .res (.lit (.bool true))).value [] { args := args, res := some (.bool true), after := args } = some (.bool (true == true)) from w_eq_bool (w_res rfl) w_lit) rfl


theorem attach_call {l : OpenLaw} {n : Nat} {q : Program} {loose : List Str} {XP : (Str → Option Value) → Heap → Prop} {YP : World → Heap → Prop} {d : DefRec}
  (hn : l.most = some n) (hdf : d.params.defaults = [])
  (call : ∀ (w : World) (s₀ s₁ : Shared) (mg mb : Str → Option Value) (fa : Addr) (o : Obj) (pm cd doc : Value) (a : Addr) (vs : List Value) (ns : List Int),
   Ground q loose [] XP w s₀ mg mb s₁.heap → YP w s₁.heap →
   s₁.heap.get? fa = some o → o.data = .func (docDef d.name d.params d.body d.scope pm cd doc) → s₁.heap.CodeRec cd d.name → mg d.name = some (.ref fa) →
   s₁.heap.get? a = some { cls := .type "list", data := .seq vs.toArray } → IntsAre vs ns → ns.length ≤ n → s₁.gens = #[] →
   codeAny (model l.prog w) callerA (.call (.ref fa) ⟨[.ref a], []⟩) (fun r s' => r = .ok (.ret (.bool true)) ∧ OldK s₁.heap s'.heap ∧ s'.os = s₁.os ∧ AllBare s'.gens) s₁) :
  WalkO q loose XP YP l.row.toRowW d [] (fun f vs => PySem.call f vs) := by
 intro w s₀ s₁ mg mb G Y fa o pm cd doc dV kV ho hd hcd hD hmg hg args vals as hpre hlay hrd hwl hlo
 obtain rfl : dV = .none := Dflts.none hD hdf
 obtain rfl : kV = .none := Dflts.noKw hD
 obtain ⟨a, vs, ns, rfl, rfl, hobj, hints, hlen⟩ := script_of hn hpre hwl
 refine enter_call (codeAny_mono (call w s₀ s₁ mg mb fa o pm cd doc a vs ns G Y ho (fd_plain hd) hcd hmg hobj hints hlen hg) fun r s' hq => ?_)
 obtain ⟨rfl, h2, h3, h4⟩ := hq
 exact ⟨.inl ⟨.bool true, .bool true, [], rfl, fun _ => rfl, .bool true, post_true l _, fun _ => ⟨List.Pairwise.nil, fun _ hm => (nomatch hm)⟩⟩, h2, h3, h4⟩


section
variable {prog : Program} {w : World} {A : Around} {E : Value → Shared → Prop} {s : Shared} {K : Frag}






end
end Att

namespace L2
open PySem PySem.Spec PyProof.Rows

theorem vals_ints : ∀ {vs : List Value} {ns : List Int}, IntsAre vs ns → Vals (ns.map V.int) vs
 | _, _, .nil => .nil
 | _, _, .cons n t h => .cons ⟨t, rfl⟩ (vals_ints h)

noncomputable def Only (H : Hp) : Prop := ∀ b, H b = none ∨ ∃ o xs, H b = some (.frz o (.lst xs))

theorem law_call {P : Program} {w : World} {K : PySem.W.Frag} {mg mb : Str → Option Value} {CX : CXT} {k : Nat} {fa a : Addr} {fd : FuncData} {x : Str} {sp : Sp} {s₁ : Shared} {vs : List Value} {ns : List Int}
  (KX : K.In s₁.heap) (hns : s₁.heap.Ns mainGlobals mg) (hb : s₁.heap.Ns builtinsNs mb) (hbb : ∀ x : Str, x ≠ "__name__" → mb x = bootBuiltins x) (hlim : s₁.heap.NoLimit) (hg : s₁.gens = #[])
  (ha : s₁.heap.get? a = some { cls := .type "list", data := .seq vs.toArray }) (hi : IntsAre vs ns) (hl : ns.length ≤ sizeLine) (hr : Room k callerA)
  (F : ∀ base : Heap, K.In base → base.Ns mainGlobals mg → FnOk P w K mg base CX k fa fd [x] sp) (hbind : ∀ (s : Shared) (u : Value), BindsTo s fd ⟨[u], []⟩ [(x, u)])
  (hsp : ∀ H : Hp, Only H → SqX K H a (ns.map V.int) → sp [.ref a] H (fun v _ => v = .bl true) fun _ _ _ => False)
  (hCX : ∀ H e s', CX [] H s₁ (fun _ _ _ => False) e s' → False) :
  codeAny (model P w) callerA (.call (.ref fa) ⟨[.ref a], []⟩) (fun r s' => r = .ok (.ret (.bool true)) ∧ OldK s₁.heap s'.heap ∧ s'.os = s₁.os ∧ AllBare s'.gens) s₁ := by
 have rv := vals_ints hi
 have lenV := hi.length
 have core : ∀ H : Hp, Only H → SqX K H a (ns.map V.int) → HOk P w H s₁.heap → (∀ b, H b ≠ none → b = a) → (H a ≠ none → K.lookup a = none) →
   codeAny (model P w) callerA (.call (.ref fa) ⟨[.ref a], []⟩) (fun r s' => r = .ok (.ret (.bool true)) ∧ OldK s₁.heap s'.heap ∧ s'.os = s₁.os ∧ AllBare s'.gens) s₁ := by
  intro H hO hS hok hA hK
  have base_of : ∀ {b : Addr} {o : Obj}, s₁.heap.get? b = some o → H b = none → (hidT s₁.heap H).get? b = some o := fun e n => hidT_get e n
  have noA : ∀ {b : Addr} {o : Obj} {es : Array DictEntry} {ep : Nat}, s₁.heap.get? b = some o → o.data = .dict es ep → H b = none := fun {b o es ep} e d => by
   cases q : H b with
   | none => rfl
   | some u =>
    have e' : b = a := hA b (by rw [q]; simp)
    subst e'
    rw [ha] at e; cases e
    have d' : Data.seq vs.toArray _ = Data.dict es ep := d
    cases d'
  have nsK : ∀ {b : Addr} {m : Str → Option Value}, s₁.heap.Ns b m → (hidT s₁.heap H).Ns b m := fun {b m} ⟨o, es, ep, e, d, r⟩ => ⟨o, es, ep, base_of e (noA e d), d, r⟩
  have hKb : K.In (hidT s₁.heap H) := fun b o e => base_of (KX b o e) (by
   cases q : H b with
   | none => rfl
   | some u =>
    have e' : b = a := hA b (by rw [q]; simp)
    subst e'
    rw [hK (by rw [q]; simp)] at e; cases e)
  have hM : Mod K mg (hidT s₁.heap H) := ⟨hKb, nsK hns, ⟨mb, nsK hb, hbb⟩, let ⟨mc, h1, h2⟩ := hlim; ⟨mc, nsK h1, h2⟩⟩
  have e0 : Env0 P w K mg (hidT s₁.heap H) callerA [] s₁ H := ⟨rfl, hM, fun b o e => of_hidT e, Nat.le_of_eq (hidT_size _ _), trivial, fun b hb => absurd (show b ∈ ([] : List Addr) from hb) (by simp), hok, .of_eq hg⟩
  refine codeAny_mono ((F _ hKb (nsK hns)).run callerA [] s₁ H ⟨[.ref a], []⟩ [.ref a] [.ref a] _ _ hr e0 (hbind s₁ (.ref a)) (.cons rfl .nil) (hsp H hO hS)) fun r s' h => ?_
  cases r with
  | error e => exact (hCX H e s' h).elim
  | ok fl =>
   cases fl with
   | next => exact False.elim h
   | brk => exact False.elim h
   | cont => exact False.elim h
   | ret u =>
    obtain ⟨v, H', os, bare, un, hok', r', q⟩ := h
    have q' : v = .bl true := q
    subst q'
    obtain rfl : u = Value.bool true := r'
    refine ⟨rfl, OldK.of_keep fun b o e => ?_, os, bare⟩
    cases q : H b with
    | none => exact un.keep b o e q (by intro z; exact absurd (show b ∈ ([] : List Addr) from z) (by simp)) (by simp)
    | some u =>
     rcases hO b with z | ⟨ob, xs, z⟩
     ·rw [q] at z; cases z
     ·have z2 := un.frzs b ob _ z
      obtain ⟨e1, _⟩ := hok b _ z
      obtain ⟨e2, _⟩ := hok' b _ z2
      rw [e] at e1; cases e1
      exact e2
 cases hk : K.lookup a with
 | some o =>
  have e := KX a o hk
  rw [ha] at e
  cases e
  refine core (fun _ => none) (fun _ => .inl rfl) (.inr ⟨vs.toArray, _, hk, by rw [List.size_toArray, lenV]; exact hl, by simpa using rv⟩) (fun b u z => by have z' : (none : Option HO) = some u := z; cases z') (fun b z => absurd rfl z) fun z => absurd rfl z
 | none =>
  refine core (fun b => if b = a then some (.frz { cls := .type "list", data := .seq vs.toArray } (.lst (ns.map V.int))) else none) (fun b => ?_) (.inl (.inr ⟨{ cls := .type "list", data := .seq vs.toArray }, if_pos rfl⟩)) (fun b u z => ?_) (fun b z => ?_) fun _ => hk
  ·by_cases hb : b = a
   ·exact .inr ⟨_, _, if_pos hb⟩
   ·exact .inl (if_neg hb)
  ·by_cases hb : b = a
   ·have z' := (if_pos hb).symm.trans z
    cases z'
    subst hb
    exact ⟨ha, by rw [List.length_map]; exact hl, vs, _, rv, ha⟩
   ·have z' := (if_neg hb).symm.trans z
    cases z'
  ·by_cases hb : b = a
   ·exact hb
   ·exact absurd (if_neg hb) z
end L2

namespace L2
open PySem PySem.Spec PyProof.Rows

noncomputable abbrev KOf {K : PySem.W.Frag} {h : Heap} (_ : K.In h) : PySem.W.Frag := K

theorem walk_of {l : PySem.W.OpenLaw} {n k : Nat} {q : Program} {loose : List Str} {XP : (Str → Option Value) → Heap → Prop} {YP : World → Heap → Prop} {d : DefRec} {K : Params → PySem.W.Frag} {CX : World → CXT} {sp : World → Sp} {x : Str}
  (hn : l.most = some n) (hn2 : n ≤ sizeLine) (hdf : d.params.defaults = []) (hr : Room k callerA)
  (hY : ∀ (w : World) (h : Heap), YP w h → (K w.params).In h)
  (F : ∀ (w : World) (mg : Str → Option Value) (fa : Addr) (h : Heap), (K w.params).In h → h.Ns mainGlobals mg → mg d.name = some (.ref fa) →
   ∃ fd : FuncData, (∀ (s : Shared) (u : Value), BindsTo s fd ⟨[u], []⟩ [(x, u)]) ∧
    ∀ base : Heap, (K w.params).In base → base.Ns mainGlobals mg → FnOk l.prog w (K w.params) mg base (CX w) k fa fd [x] (sp w))
  (hsp : ∀ (w : World) (H : Hp) (a : Addr) (ns : List Int), ns.length ≤ n → Only H → SqX (K w.params) H a (ns.map V.int) → sp w [.ref a] H (fun v _ => v = .bl true) fun _ _ _ => False)
  (hCX : ∀ (w : World) (H : Hp) (s : Shared) (e : Value) (s' : Shared), CX w [] H s (fun _ _ _ => False) e s' → False) :
  PySem.W.WalkO q loose XP YP l.row.toRowW d [] (fun f vs => PySem.call f vs) := by
 refine Att.attach_call hn hdf fun w s₀ s₁ mg mb fa o pm cd doc a vs ns G Y ho hd hcd hmg hobj hints hlen hg => ?_
 have KX := hY w _ Y
 obtain ⟨fd, hb, hF⟩ := F w mg fa _ KX G.T.g hmg
 exact law_call KX G.T.g G.T.b G.T.builtins G.T.nolimit hg hobj hints (Nat.le_trans hlen hn2) hr hF hb (fun H hO hS => hsp w H a ns hlen hO hS) fun H e s' => hCX w H s₁ e s'
end L2

/- THE LAST THEOREM (shape; LID, My.* are yours):
   My.Adr: a structure of the addresses that your layer names (classes, functions); My.Txt K t: a structure (Prop) of the equations over K;
   My.txt_mk : {K} {implicit addresses ..} (e1 : nsIn K mainGlobals "law" = some (some (.ref f))) (e2 : K.lookup f = some ⟨oc, od, .func (fnOf "law" "law" params body scope dV kV doc pm an cdv ct), sl⟩) (e3 : codeIn K cdv "law" = true) .. : ∃ t, My.Txt K t

set_option maxHeartbeats 0 in
theorem PySem.Challenge.cw_LID_holds : PySem.Challenge.rw_LID.Holds := by
 w_on; o_law; k_head; (case hw => w_witness2)
 k_fill
 refine L2.walk_of (l := PySem.Challenge.rw_LID) (n := 63) (k := 40) (x := "script") (CX := fun w => ..) (sp := fun _ => My.sp_law) rfl (by decide) rfl ⟨rfl, by decide, by decide⟩ (fun w h Y => PySem.W.kIn_of Y) ?F ?S ?C
 case F =>
  intro w mg fa h KX G hmg
  have T : ∃ t, My.Txt (L2.KOf KX) t := by
   dsimp only [L2.KOf]                          -- K must stand as «<heap const> w.params» for k_is
   refine' My.txt_mk ?e1 ?e2 ?e3 ..
   (case e1 => PySem.W.k_is)                    -- in the order: a name -> its address -> its object -> its parts
   (case e2 => PySem.W.k_is)
   ..
  obtain ⟨t, T⟩ := T
  have e0 := hmg.symm.trans (PySem.W.mg_of KX G T.law)
  cases e0                                       -- fa is the law's own address
  exact ⟨_, fun s u => .of_eq rfl, fun base kb nb => My.law_fn T kb nb⟩     -- if «.of_eq rfl» comes too early: refine' ⟨_, ?b, fun base kb nb => My.law_fn T kb nb⟩; exact fun s u => .of_eq rfl
 case S => exact fun w H a ns hl hO hS => ..
 case C => exact ..
(the tactic k_is has no namespace: write k_is) -/

namespace L2
open PySem PySem.Spec PyProof.Rows

noncomputable def inClass (s : Stmt) (j : Nat) : Stmt := match s with
 | .ClassDef _ _ _ body _ _ _ _ _ _ _ => body.getD j (.Pass ⟨0, 0, 0, 0⟩)
 | _ => .Pass ⟨0, 0, 0, 0⟩
noncomputable def defArgs (s : Stmt) : Arguments := match s with
 | .FunctionDef _ a _ _ _ _ _ _ _ _ => a
 | _ => { posonlyargs := [], args := [], vararg := none, kwonlyargs := [], kw_defaults := [], kwarg := none, defaults := [] }
noncomputable def defBody (s : Stmt) : List Stmt := match s with
 | .FunctionDef _ _ b _ _ _ _ _ _ _ => b
 | _ => []
noncomputable def defScope (s : Stmt) : Scope := match s with
 | .FunctionDef _ _ _ _ _ _ sc _ _ _ => sc
 | _ => { kind := .function, names := [], isGenerator := false, isCoroutine := false }

noncomputable abbrev CX0 : CXT := fun _ _ _ _ _ _ => False
noncomputable abbrev E0 : XK := fun _ _ _ => False

structure Fun (K : PySem.W.Frag) (x qual : Str) (st : Stmt) (f : Addr) (fd : FuncData) : Prop where
 ex : ∃ (oc : Value) (od : Option Addr) (kV doc pm : Value) (an : Option Addr) (cdv ct : Value) (osl : Array (Option Value)),
  fd = PySem.W.fnOf x qual (defArgs st) (defBody st) (defScope st) .none kV doc pm an cdv ct ∧ K.lookup f = some ⟨oc, od, .func fd, osl⟩ ∧ PySem.W.codeIn K cdv qual = true
 kp : PySem.W.keepIn K (.ref f) = true
section
variable {P : Program} {w : World} {K : PySem.W.Frag} {mg : Str → Option Value} {base : Heap}
theorem Fun.binds {x qual : Str} {st : Stmt} {f : Addr} {fd : FuncData} {ps : List Str} (F : Fun K x qual st f fd)
  (h : ∀ (kV doc pm : Value) (an : Option Addr) (cdv ct : Value) (us : List Value), us.length = ps.length → bindArgs (PySem.W.fnOf x qual (defArgs st) (defBody st) (defScope st) .none kV doc pm an cdv ct) ⟨us, []⟩ = pure (ps.zip us)) : Binds K fd ps [] := by
 obtain ⟨oc, od, kV, doc, pm, an, cdv, ct, osl, rfl, lk, hcd⟩ := F.ex
 exact .all (h kV doc pm an cdv ct)
theorem fun_mk {x qual : Str} {st : Stmt} {f : Addr} {oc : Value} {od an : Option Addr} {osl : Array (Option Value)} {kV doc pm cdv ct : Value} (l : K.lookup f = some ⟨oc, od, .func (PySem.W.fnOf x qual (defArgs st) (defBody st) (defScope st) .none kV doc pm an cdv ct), osl⟩)
  (c : PySem.W.codeIn K cdv qual = true) (k : PySem.W.keepIn K (.ref f) = true) : Fun K x qual st f (PySem.W.fnOf x qual (defArgs st) (defBody st) (defScope st) .none kV doc pm an cdv ct) := ⟨⟨oc, od, kV, doc, pm, an, cdv, ct, osl, rfl, l, c⟩, k⟩
end

section
variable {X : Cx}
theorem pv (i : Nat) {x : Str} {pos : Pos} (hN : X.N[i]? = some x := by rfl) (hv : Vis X.env.scope x := by first | exact Or.inl rfl | exact Or.inr (Or.inl rfl) | exact Or.inr (Or.inr rfl)) (hd : (x == ("__debug__" : Str)) = false := by decide)
  (hcd : (x == ("__classdict__" : Str)) = false := by decide) : PE X (.Name x pos) (tVar i) := pe_var hN hv hd hcd
end


noncomputable def Same (H H' : Hp) : Prop := ∀ b o, H b = some o → H' b = some o
theorem Same.refl (H : Hp) : Same H H := fun _ _ h => h

section
variable {κ : Type} [DecidableEq κ]
end
end L2
namespace L2
open PySem PySem.Spec PyProof.Rows

theorem codeAny_compLoop_any {prog : Program} {w : World} {A : Around} {elt iter tg : Expr} {ifs : List Expr} {scope : Scope} {pos : Pos} {it acc : Value} {env : Env} {s : Shared} {R : Result → Shared → Prop} (I : Nat → Shared → Prop)
  (turn : ∀ n s, I n s → wpAny (model prog w) A (pyNext it) (fun r s₁ => match r with
   | none => R (.ok .next) s₁
   | some v => wpAny (model prog w) A (letOwnedTupleGo tg it v) (fun _ s₁' => wpAny (model prog w) A (assign tg env v) (fun _ s₂ =>
     wpAny (model prog w) A (forIn ifs true fun c r => if r = true then do let ok ← isTrue c env (eval c env); pure (ForInStep.yield ok) else pure (ForInStep.yield r)) (fun ok s₃ =>
      if ok = true then wpAny (model prog w) A (eval elt env) (fun x s₄ =>
       wpAny (model prog w) A (call (.builtin "list.append") [acc, x]) (fun _ s₅ => ∃ m, m < n ∧ I m s₅) (fun _ _ => False) s₄) (fun _ _ => False) s₃
      else ∃ m, m < n ∧ I m s₃) (fun _ _ => False) s₂)
     (fun _ _ => False) s₁') (fun _ _ => False) s₁) (fun _ _ => False) s)
  (n : Nat) (h : I n s) : codeAny (model prog w) A (.compLoop (.ListComp elt [⟨tg, iter, ifs, 0⟩] scope pos) 0 it acc env) R s := by
 refine codeAny_loop rfl I (fun n s hI => ?_) n h
 show wpAny _ A ((compTurn (.ListComp elt [⟨tg, iter, ifs, 0⟩] scope pos) 0 it acc env).onRaise (fun x => do noteFrame x env; theTreesLotGoes x)) _ _ s
 refine wpAny_noted ?_
 rw [compTurn_list]
 refine wpAny_bind (wpAny_standAt (wpAny_bind (wpAny_mono (turn n s hI) (fun r s₁ h₁ => ?_) fun _ _ h' => h'.elim)))
 cases r with
 | none => exact wpAny_pure h₁
 | some v =>
  refine wpAny_bind (wpAny_mono h₁ (fun _ s₁' h₁' => ?_) fun _ _ h' => h'.elim)
  refine wpAny_bind (wpAny_mono h₁' (fun _ s₂ h₂ => wpAny_bind (wpAny_mono h₂ (fun ok s₃ h₃ => ?_) fun _ _ h' => h'.elim)) fun _ _ h' => h'.elim)
  cases ok with
  | false => exact wpAny_pure ⟨rfl, h₃⟩
  | true =>
   exact wpAny_bind (wpAny_bind (wpAny_mono h₃ (fun x s₄ h₄ => wpAny_bind (wpAny_mono h₄ (fun _ s₅ h₅ => wpAny_pure (wpAny_pure ⟨rfl, h₅⟩)) fun _ _ h' => h'.elim)) fun _ _ h' => h'.elim))

noncomputable def clGo (env : Env) : List (Str × NameKind) → List (Str × Addr) → List (Str × Addr)
 | [], cs => cs
 | (n, k) :: r, cs => clGo env r (if k == .free then (match env.cells.lookup n with | some c => (n, c) :: cs | none => cs) else cs)
noncomputable def clOf (sc : Scope) (env : Env) : List (Str × Addr) := clGo env sc.names []
theorem clGo_mem {env : Env} : ∀ {ns : List (Str × NameKind)} {cs : List (Str × Addr)}, (∀ p ∈ cs, env.cells.lookup p.1 = some p.2) → ∀ p ∈ clGo env ns cs, env.cells.lookup p.1 = some p.2
 | [], _, h => h
 | (n, k) :: r, cs, h => by
  unfold clGo
  refine clGo_mem ?_
  by_cases hk : (k == .free) = true
  ·rw [if_pos hk]
   cases e : env.cells.lookup n with
   | none => exact h
   | some c =>
    intro p hp
    rcases List.mem_cons.mp hp with rfl | hp
    ·exact e
    ·exact h p hp
  ·rw [if_neg hk]; exact h
theorem clGo_sub {env : Env} : ∀ {ns : List (Str × NameKind)} {cs : List (Str × Addr)} {p : Str × Addr}, p ∈ cs → p ∈ clGo env ns cs
 | [], _, _, h => h
 | (n, k) :: r, cs, p, h => by
  unfold clGo
  refine clGo_sub ?_
  by_cases hk : (k == .free) = true
  ·rw [if_pos hk]
   cases env.cells.lookup n with
   | none => exact h
   | some c => exact List.mem_cons_of_mem _ h
  ·rw [if_neg hk]; exact h
theorem clGo_has {env : Env} {x : Str} {c : Addr} (e : env.cells.lookup x = some c) : ∀ {ns : List (Str × NameKind)} {cs : List (Str × Addr)}, (x, NameKind.free) ∈ ns → (x, c) ∈ clGo env ns cs
 | [], _, h => by cases h
 | (n, k) :: r, cs, h => by
  unfold clGo
  rcases List.mem_cons.mp h with h | h
  ·injection h with h1 h2
   subst h1 h2
   refine clGo_sub ?_
   rw [if_pos (by rfl), e]
   exact List.mem_cons_self
  ·exact clGo_has e h
theorem lookup_of_mem : ∀ {l : List (Str × Addr)} {x : Str} {c : Addr}, (x, c) ∈ l → ∃ d, l.lookup x = some d
 | [], _, _, h => by cases h
 | (n, d) :: r, x, c, h => by
  rw [List.lookup_cons]
  cases e : x == n with
  | true => exact ⟨d, rfl⟩
  | false =>
   rcases List.mem_cons.mp h with h | h
   ·injection h with h1 h2
    subst h1
    simp at e
   ·exact lookup_of_mem h
theorem clOf_look {sc : Scope} {env : Env} {x : Str} {c : Addr} (e : (clOf sc env).lookup x = some c) : env.cells.lookup x = some c :=
 clGo_mem (cs := []) (fun p hp => by cases hp) (x, c) (PySem.mem_of_lookup e)
theorem clOf_has {sc : Scope} {env : Env} {x : Str} {c : Addr} (h : (x, NameKind.free) ∈ sc.names) (e : env.cells.lookup x = some c) : (clOf sc env).lookup x = some c := by
 obtain ⟨d, hd⟩ := lookup_of_mem (clGo_has (cs := []) e h)
 have := clOf_look (sc := sc) hd
 rw [e] at this
 cases this
 exact hd
theorem closureFor_of {sc : Scope} {env : Env} (h : ∀ y ∈ sc.names, y.2 = .free → ∃ c, env.cells.lookup y.1 = some c) : closureFor sc env = pure (clOf sc env) := by
 unfold clOf closureFor
 generalize sc.names = ns at h
 suffices hh : ∀ cs : List (Str × Addr), (forIn ns cs (fun (x : Str × NameKind) (r : List (Str × Addr)) =>
    (match x with
     | (name, kind) => if (kind == NameKind.free) = true then (cellOf env name >>= fun c => pure (ForInStep.yield ((name, c) :: r))) else pure (ForInStep.yield r) : Sem (ForInStep (List (Str × Addr))))) >>= fun r => pure r : Sem (List (Str × Addr))) = pure (clGo env ns cs) from hh []
 induction ns with
 | nil => intro cs; rfl
 | cons p r ih =>
  intro cs
  obtain ⟨n, k⟩ := p
  rw [List.forIn_cons]
  unfold clGo
  have ih' := ih fun y hy => h y (List.mem_cons_of_mem _ hy)
  by_cases hk : (k == .free) = true
  ·obtain ⟨c, hc⟩ := h (n, k) List.mem_cons_self (by simpa using hk)
   have hc : env.cells.lookup n = some c := hc
   have h1 : cellOf env n = pure c := by unfold cellOf; rw [hc]
   simp only [hk, if_true, h1, hc, pure_bind]
   exact ih' _
  ·simp only [hk, if_false, pure_bind]
   exact ih' _

noncomputable def cxComp (X : Cx) (N' : List Str) (sc : Scope) (C : Addr) (s₀ : Shared) (H₀ : Hp) (fp : List Addr) : Cx where
 prog := X.prog
 w := X.w
 K := X.K
 mg := X.mg
 base := X.base
 A := X.A
 N := N'
 s₀ := s₀
 H₀ := H₀
 env := compEnvC sc (clOf sc X.env) C X.env
 outer := X.stack
 stack := X.stack
 ex := fp
 fn := fun _ => false
 calm := X.calm
 pn := []
 xe := fun _ _ => False

theorem lookup_relabel_free {env : Env} : ∀ {names : List (Str × NameKind)} {x : Str}, names.lookup x = some .free →
  (names.map fun (n, k) => if (k == NameKind.free && env.scope.kind == .function && env.kindOf n == some .cell) then (n, NameKind.cell) else (n, k)).lookup x = some .cell ∨
  (names.map fun (n, k) => if (k == NameKind.free && env.scope.kind == .function && env.kindOf n == some .cell) then (n, NameKind.cell) else (n, k)).lookup x = some .free
 | [], _, h => by simp at h
 | (n, k) :: r, x, h => by
  have ih := @lookup_relabel_free env r x
  show List.lookup x ((if (k == NameKind.free && env.scope.kind == .function && env.kindOf n == some .cell) = true then (n, NameKind.cell) else (n, k)) :: _) = _ ∨ List.lookup x ((if (k == NameKind.free && env.scope.kind == .function && env.kindOf n == some .cell) = true then (n, NameKind.cell) else (n, k)) :: _) = _
  cases hx : x == n with
  | true =>
   simp only [List.lookup_cons, hx] at h
   cases h
   by_cases hc : (NameKind.free == NameKind.free && env.scope.kind == .function && env.kindOf n == some .cell) = true
   ·rw [if_pos hc]; left; simp [List.lookup_cons, hx]
   ·rw [if_neg hc]; right; simp [List.lookup_cons, hx]
  | false =>
   simp only [List.lookup_cons, hx] at h
   by_cases hc : (k == NameKind.free && env.scope.kind == .function && env.kindOf n == some .cell) = true
   ·rw [if_pos hc]; simp only [List.lookup_cons, hx]; exact ih h
   ·rw [if_neg hc]; simp only [List.lookup_cons, hx]; exact ih h
theorem mem_relabel {env : Env} {x : Str} {k : NameKind} (hk : k = .cell ∨ k = .free) : ∀ {names : List (Str × NameKind)}, (∀ y ∈ names, y.2 ≠ .cell) →
  (names.map fun (n, k) => if (k == NameKind.free && env.scope.kind == .function && env.kindOf n == some .cell) then (n, NameKind.cell) else (n, k)).lookup x = some k → (x, NameKind.free) ∈ names
 | [], _, h => by simp at h
 | (n, j) :: r, hc, h => by
  have hr : ∀ y ∈ r, y.2 ≠ .cell := fun y hy => hc y (List.mem_cons_of_mem _ hy)
  have h : List.lookup x ((if (j == NameKind.free && env.scope.kind == .function && env.kindOf n == some .cell) = true then (n, NameKind.cell) else (n, j)) :: _) = _ := h
  by_cases hj : (j == NameKind.free && env.scope.kind == .function && env.kindOf n == some .cell) = true
  ·rw [if_pos hj, List.lookup_cons] at h
   have hj' : j = .free := by
    simp only [Bool.and_eq_true, beq_iff_eq] at hj
    exact hj.1.1
   cases hx : x == n with
   | true =>
    rw [eq_of_beq hx, ← hj']
    exact List.mem_cons_self
   | false =>
    rw [hx] at h
    exact List.mem_cons_of_mem _ (mem_relabel hk hr h)
  ·rw [if_neg hj, List.lookup_cons] at h
   cases hx : x == n with
   | true =>
    rw [hx] at h
    have h' : j = k := Option.some.inj h
    have hjc : j ≠ .cell := hc (n, j) List.mem_cons_self
    rcases hk with e | e
    ·exact absurd (h'.trans e) hjc
    ·rw [eq_of_beq hx]
     have : j = .free := h'.trans e
     rw [this]
     exact List.mem_cons_self
   | false =>
    rw [hx] at h
    exact List.mem_cons_of_mem _ (mem_relabel hk hr h)

noncomputable def CapOk (X : Cx) (sc : Scope) : List (Option Nat) → List Str → Prop
 | [], [] => True
 | none :: r, _ :: n => CapOk X sc r n
 | some i :: r, x :: n => (X.N[i]? = some x ∧ sc.names.lookup x = some .free) ∧ CapOk X sc r n
 | _, _ => False
noncomputable def capSt (cap : List (Option Nat)) (σ : St) : St := cap.map fun o => o.bind fun i => (σ[i]?).join
theorem CapOk.at {X : Cx} {sc : Scope} : ∀ {cap : List (Option Nat)} {N' : List Str}, CapOk X sc cap N' → ∀ (j i : Nat) (x : Str), cap[j]? = some (some i) → N'[j]? = some x → X.N[i]? = some x ∧ sc.names.lookup x = some .free
 | [], [], _, j, i, x, h, _ => by simp at h
 | none :: r, y :: n, c, 0, i, x, h, _ => by simp at h
 | none :: r, y :: n, c, j + 1, i, x, h, h2 => CapOk.at (cap := r) c j i x (by simpa using h) (by simpa using h2)
 | some k :: r, y :: n, c, 0, i, x, h, h2 => by
  simp at h h2
  subst h h2
  exact c.1
 | some k :: r, y :: n, c, j + 1, i, x, h, h2 => CapOk.at (cap := r) c.2 j i x (by simpa using h) (by simpa using h2)
theorem CapOk.len {X : Cx} {sc : Scope} : ∀ {cap : List (Option Nat)} {N' : List Str}, CapOk X sc cap N' → cap.length = N'.length
 | [], [], _ => rfl
 | none :: r, y :: n, c => by simpa using CapOk.len (cap := r) (N' := n) c
 | some k :: r, y :: n, c => by simpa using CapOk.len (cap := r) (N' := n) c.2
theorem capSt_get {cap : List (Option Nat)} {σ : St} {j : Nat} {v : V} (h : (capSt cap σ)[j]? = some (some v)) : ∃ i, cap[j]? = some (some i) ∧ σ[i]? = some (some v) := by
 unfold capSt at h
 rw [List.getElem?_map] at h
 cases e : cap[j]? with
 | none => rw [e] at h; cases h
 | some o =>
  rw [e] at h
  cases o with
  | none => simp at h
  | some i =>
   refine ⟨i, rfl, ?_⟩
   simp only [Option.map_some, Option.bind_some, Option.some.injEq] at h
   cases q : σ[i]? with
   | none => rw [q] at h; simp at h
   | some z => rw [q] at h; simp at h; rw [h]

noncomputable def PTs (X : Cx) (ifs : List Expr) (t : TT) : Prop :=
 ∀ (pins : List (Addr × Obj)) (s : Shared) (σ : St) (H : Hp) (Q : Bool → Hp → Prop), Inv X pins σ H s → t σ H Q →
  wpAny (model X.prog X.w) X.A (forIn ifs true fun c r => if r = true then do let ok ← isTrue c X.env (eval c X.env); pure (ForInStep.yield ok) else pure (ForInStep.yield r)) (TP X pins σ Q) X.xe s
theorem pts_nil {X : Cx} : PTs X [] (fun _ H Q => Q true H) := fun _ _ _ H _ I h => wpAny_tests_nil ⟨H, I, h⟩

noncomputable def CompW (cap : List (Option Nat)) (g : TG) (tt : TT) (te : TE) (J : It) (σ : St) (acc : Addr) (H0 : Hp) (Q : Hp → Prop) : Prop :=
 ∃ W : Nat → Nat → List V → Hp → Prop, (∃ m, W 0 m [] (upd H0 acc (.lst []))) ∧ ∀ i m ys H, W i m ys H →
  (J.stop i H ∧ Q H) ∨ (J.go i H ∧ ∀ x H', J.yld i H x H' → g x (capSt cap σ) H' fun σ2 H2 => tt σ2 H2 fun b H3 =>
   if b = true then te σ2 H3 fun v H4 => H4 acc = some (.lst ys) ∧ ys.length < sizeLine ∧ ∃ m', m' < m ∧ W (i + 1) m' (ys ++ [v]) (upd H4 acc (.lst (ys ++ [v])))
   else ∃ m', m' < m ∧ W (i + 1) m' ys H3)
noncomputable def tComp (cap : List (Option Nat)) (wi : TI) (g : TG) (tt : TT) (te : TE) : TE := fun σ H Q => wi σ H fun J H1 => ∀ acc, H1 acc = none → CompW cap g tt te J σ acc H1 fun H2 => Q (.ref acc) H2
noncomputable def tSetComp (i : Nat) (cap : List (Option Nat)) (wi : TI) (g : TG) (tt : TT) (te : TE) : TS := fun D σ H => wi σ H fun J H1 => ∀ acc, H1 acc = none → CompW cap g tt te J σ acc H1 fun H2 => D.nx (σ.set i (some (.ref acc))) H2

structure BlockOk (X : Cx) (sc : Scope) : Prop where
 cell : ∀ y ∈ sc.names, y.2 ≠ .cell
 kind : sc.kind = .function
 names : ∀ y ∈ sc.names, y.2 = .local → sc.names.lookup y.1 = some .local
 free : ∀ y ∈ sc.names, y.2 = .free → X.env.kindOf y.1 = some .cell ∨ X.env.kindOf y.1 = some .free

section
variable {X : Cx} {elt tg iter : Expr} {ifs : List Expr} {sc : Scope} {pos : Pos} {wi : TI} {g : TG} {tt : TT} {te : TE} {N' : List Str} {cap : List (Option Nat)}

theorem Inv.closure {pins : List (Addr × Obj)} {σ : St} {H : Hp} {s : Shared} (I : Inv X pins σ H s) (B : BlockOk X sc) : closureFor sc X.env = pure (clOf sc X.env) :=
 closureFor_of fun y hy e => I.ok.has y.1 (B.free y hy e)

theorem inv_block {pins : List (Addr × Obj)} {σ : St} {H : Hp} {s : Shared} {h₁ : Heap} {t' : Nat} {fp : List Addr} {acc C : Addr} {s₀ : Shared} {m : Str → Option Value}
  (I : Inv X pins σ H s) (B : BlockOk X sc) (cp : CapOk X sc cap N') (hf : ∀ b ∈ fp, FpOk X pins H b) (hfo : ∀ b ∈ fp, b < s.heap.objs.size) (hacc : acc = s.heap.objs.size) (ho : s₀.os = s.os) (hgen : s₀.gens = s.gens)
  (h0 : s₀.heap = s.heap.push { cls := .type "list", data := .seq #[] }) (hC : C = s₀.heap.objs.size)
  (hns : h₁.Ns C m) (hsb : ∀ b o, s₀.heap.get? b = some o → h₁.get? b = some o) :
  Inv (cxComp X N' sc C s₀ (upd H acc (.lst [])) fp) [] (capSt cap σ) (upd H acc (.lst [])) { s₀ with heap := h₁, toks := t' } := by
 have hfr : H acc = none := I.hok.fresh (Nat.le_of_eq hacc.symm)
 have up0 : ∀ b o, s.heap.get? b = some o → s₀.heap.get? b = some o := fun b o e => by rw [h0]; exact Heap.get?_push_of_some _ e
 have sz0 : s₀.heap.objs.size = s.heap.objs.size + 1 := by rw [h0, Heap.size_push]
 have I0 : Inv X pins σ (upd H acc (.lst [])) { s with heap := s₀.heap, toks := s.toks } := I.laid up0 (Nat.le_of_eq hacc.symm) ⟨Nat.zero_le _, [], 0, .nil, by rw [h0, hacc]; exact Heap.get?_push_size _ rfl⟩
 have CX' : ∀ b, b < s.heap.objs.size → b ≠ C := fun b hb => Nat.ne_of_lt (by rw [hC, sz0]; exact Nat.lt_succ_of_lt hb)
 have CA : ∀ b, b < s.heap.objs.size → b ≠ acc := fun b hb => Nat.ne_of_lt (by rw [hacc]; exact hb)
 have cellLt : ∀ x c, X.env.cells.lookup x = some c → c < s.heap.objs.size := fun x c e => by
  obtain ⟨v, o, q, _⟩ := I.cell x c e
  exact Heap.lt_size q
 refine ⟨⟨I.ok.mod, B.kind, I.ok.glob, I.ok.blt, Nat.le_of_eq hC.symm, fun x y c h1 h2 => I.ok.inj x y c (clOf_look h1) (clOf_look h2), fun x hx => ?_, fun x c h => Bool.noConfusion h, I.ok.hd, I.ok.frames, .inl rfl, fun b hb => ⟨CX' b (hfo b hb), fun x c e => (hf b hb).2.2.2.2.1 x c (clOf_look e)⟩,
   fun b o e => ?_, ?_, fun b o e hb => ?_, fun b hb hz => ?_, I0.stack, I0.stkFree⟩,
  rfl, ?_, Un.kept hsb, ⟨m, hns, fun j x v h1 h2 h3 => ?_⟩, fun x c e => ?_, ?_, fun x c e => ?_, fun p hp => absurd (show p ∈ ([] : List (Addr × Obj)) from hp) (by simp), I0.hok.kept hsb, ?_⟩
 ·have hm : (x, NameKind.free) ∈ sc.names := by
   rcases hx with hx | hx
   ·exact mem_relabel (env := X.env) (.inl rfl) B.cell hx
   ·exact mem_relabel (env := X.env) (.inr rfl) B.cell hx
  obtain ⟨c, hc⟩ := I.ok.has x (B.free _ hm rfl)
  exact ⟨c, clOf_has hm hc⟩
 ·obtain ⟨e1, e2⟩ := I.bs b o e
  exact ⟨up0 b o e1, by show upd H acc (.lst []) b = none; rw [upd_ne (CA b (Heap.lt_size e1))]; exact e2⟩
 ·exact Nat.le_trans I.ok.bsz (Nat.le_trans I.sz (by show _ ≤ s₀.heap.objs.size; omega))
 ·rcases (hf b hb).2.2.2.1 with z | z
  ·exact I.ok.noex b o e z
  ·exact absurd (Nat.lt_of_lt_of_le (Heap.lt_size e) (Nat.le_trans I.ok.bsz z)) (Nat.lt_irrefl _)
 ·rcases List.mem_cons.mp (I.stkSub b hz) with e | e
  ·exact (hf b hb).2.1 e
  ·exact (hf b hb).2.2.1 e
 ·show AllBare s₀.gens
  rw [hgen]; exact I.bare
 ·obtain ⟨i, e1, e2⟩ := capSt_get h2
  obtain ⟨e3, e4⟩ := cp.at j i x e1 h1
  have hm : (x, NameKind.free) ∈ sc.names := PySem.mem_of_lookup e4
  have hk := B.free _ hm rfl
  obtain ⟨m0, hn0, hl⟩ := I.loc
  obtain ⟨u, r, l⟩ := hl i x v e3 e2 (by rcases hk with k | k; exact .inr (.inl k); exact .inr (.inr k))
  refine ⟨u, r, .inr ?_⟩
  rcases l with ⟨k, _⟩ | ⟨_, c, hc, o, q, d⟩
  ·rcases hk with k' | k'
   ·rw [k] at k'; cases k'
   ·rw [k] at k'; cases k'
  ·exact ⟨lookup_relabel_free (env := X.env) e4, c, clOf_has hm hc, o, hsb c o (up0 c o q), d⟩
 ·obtain ⟨v, o, q, d⟩ := I.cell x c (clOf_look e)
  exact ⟨v, o, hsb c o (up0 c o q), d⟩
 ·show upd H acc (.lst []) C = none
  rw [upd_ne (by rw [hC, hacc, sz0]; exact Nat.succ_ne_self _)]
  exact I.hok.fresh (by rw [hC, sz0]; exact Nat.le_succ _)
 ·show upd H acc (.lst []) c = none
  rw [upd_ne (CA c (cellLt x c (clOf_look e)))]
  exact I.freeC x c (clOf_look e)
 ·show (capSt cap σ).length = N'.length
  unfold capSt
  rw [List.length_map]
  exact cp.len

noncomputable def Kp (σ0 σ : St) : Prop := σ.length = σ0.length ∧ ∀ (j : Nat) v, σ0[j]? = some (some v) → σ[j]? = some (some v)
noncomputable def GOwn (cap : List (Option Nat)) (g : TG) : Prop := ∀ σ0 σ x H Q, Kp (capSt cap σ0) σ → g x σ H Q → g x σ H fun σ2 H2 => Q σ2 H2 ∧ Kp (capSt cap σ0) σ2
theorem gown_name {i : Nat} (h : cap[i]? = some none) : GOwn cap (gName i) := fun σ0 σ x H Q k q => by
 refine ⟨q, by rw [List.length_set]; exact k.1, fun j v e => ?_⟩
 have : j ≠ i := by
  rintro rfl
  obtain ⟨i', e1, _⟩ := capSt_get e
  rw [h] at e1; cases e1
 rw [List.getElem?_set_ne (Ne.symm this)]
 exact k.2 j v e

theorem comp_core {pins : List (Addr × Obj)} {σ : St} {H : Hp} {s : Shared} {use : Option (Value → Sem Unit)} {Q : Value → Shared → Prop} {R : Addr → Hp → Prop} {p : Pos}
  (hc : X.calm = true) (B : BlockOk X sc) (cp : CapOk X sc cap N') (hi : PI X tg iter wi) (ow : GOwn cap g)
  (hg : ∀ C s₀ H₀ fp, PG (cxComp X N' sc C s₀ H₀ fp) tg g) (ht : ∀ C s₀ H₀ fp, PTs (cxComp X N' sc C s₀ H₀ fp) ifs tt) (he : ∀ C s₀ H₀ fp, PE (cxComp X N' sc C s₀ H₀ fp) elt te)
  (hs : ∀ x, foldedSetIterable iter X.env x = pure x)
  (I : Inv X pins σ H s) (h : wi σ H fun J H1 => ∀ acc, H1 acc = none → CompW cap g tt te J σ acc H1 (R acc))
  (fin : ∀ (acc C : Addr) (H' : Hp) (s' : Shared) (m : Str → Option Value), Inv X pins σ H' s' → s'.heap.Ns C m → C ≠ X.env.locals →
   (∀ {σ' : St} {s'' : Shared}, Inv X pins σ' H' s'' → ∀ h', Heap.SameBut C s''.heap h' → Inv X pins σ' H' { s'' with heap := h' }) →
   R acc H' → compPost (model X.prog X.w) X.A X.xe use Q (.ref acc) C (.ok .next) s') :
  wpAny (model X.prog X.w) X.A (comprehension (.ListComp elt [⟨tg, iter, ifs, 0⟩] sc pos) sc X.env p (newList []) false (eval iter X.env) use) Q X.xe s := by
 refine wpAny_comprehension_free rfl hs (I.closure B) B.kind B.names (thn (hi pins s σ H _ I h) fun xv s1 h1 => thn h1 fun itv s2 h2 => ?_)
 obtain ⟨it, fp, tn, J, H2, e, I2, T, st2, f2, r2⟩ := h2
 subst e
 have fpo : ∀ b ∈ fp, b < s2.heap.objs.size := fun b hb => by
  obtain ⟨o, e, _⟩ := T.obj _ _ st2 b hb
  exact Heap.lt_size e
 refine wpAny_newObj_type (wpAny_newFunctionEnv B.cell (by intro y hy; simp at hy) (fun h₁ hns₁ hsb₁ => ?_) B.kind)
 dsimp only at hns₁ hsb₁ ⊢
 obtain ⟨s₀, es0⟩ : ∃ s₀ : Shared, s₀ = { s2 with heap := s2.heap.push { cls := .type "list", dict := none, data := .seq ([] : List Value).toArray } } := ⟨_, rfl⟩
 have e0h : s₀.heap = s2.heap.push { cls := .type "list", data := .seq #[] } := by rw [es0]
 obtain ⟨C, eC⟩ : ∃ C : Addr, C = s₀.heap.objs.size := ⟨_, rfl⟩
 obtain ⟨acc, eA⟩ : ∃ a : Addr, a = s2.heap.objs.size := ⟨_, rfl⟩
 rw [show (s2.heap.push { cls := .type "list", dict := none, data := .seq ([] : List Value).toArray }).objs.size = C by rw [eC, e0h]] at hns₁ hsb₁ ⊢
 have keep₁ : ∀ b o, s₀.heap.get? b = some o → h₁.get? b = some o := fun b o e => by
  refine hsb₁.extBut b o ?_ ?_
  ·rw [eC]; exact Nat.ne_of_lt (Heap.lt_size e)
  ·rw [e0h] at e; exact Heap.get?_push_of_some _ e
 have szC : C = s2.heap.objs.size + 1 := by rw [eC, e0h, Heap.size_push]
 have up0 : ∀ b o, s2.heap.get? b = some o → s₀.heap.get? b = some o := fun b o e => by rw [e0h]; exact Heap.get?_push_of_some _ e
 have fr0 : H2 acc = none := I2.hok.fresh (Nat.le_of_eq eA.symm)
 show codeAny (model X.prog X.w) X.A (.compStart (.ListComp elt [⟨tg, iter, ifs, 0⟩] sc pos) 0 (.ref it) (.ref s2.heap.objs.size) (compEnvC sc (clOf sc X.env) C X.env))
  (compPost (model X.prog X.w) X.A X.xe use Q (.ref s2.heap.objs.size) C) { s2 with heap := h₁, toks := s2.toks + ([] : List (Str × Value)).length }
 rw [← eA]
 have es1 : ({ s2 with heap := h₁, toks := s2.toks + ([] : List (Str × Value)).length } : Shared) = { s₀ with heap := h₁, toks := s2.toks + ([] : List (Str × Value)).length } := by rw [es0]
 rw [es1]
 obtain ⟨W, ⟨m0, w0⟩, turn⟩ := r2 acc fr0
 have Ib : Inv (cxComp X N' sc C s₀ (upd H2 acc (.lst [])) fp) [] (capSt cap σ) (upd H2 acc (.lst [])) { s₀ with heap := h₁, toks := s2.toks + ([] : List (Str × Value)).length } :=
  inv_block I2 B cp f2 fpo eA (by rw [es0]) (by rw [es0]) e0h eC hns₁ keep₁
 have stat : ∀ {H' : Hp}, (∀ b ∈ fp, H' b = none) → ∀ b ∈ fp, FpOk (cxComp X N' sc C s₀ (upd H2 acc (.lst [])) fp) [] H' b := fun hn b hb =>
  ⟨hn b hb, (Ib.ok.exf b hb).1, Ib.ok.exfs b hb, .inl hb, fun x c e => (Ib.ok.exf b hb).2 x c e, fun p hp => absurd (show p ∈ ([] : List (Addr × Obj)) from hp) (by simp)⟩
 have fp0 : ∀ b ∈ fp, upd H2 acc (.lst []) b = none := fun b hb => by
  rw [upd_ne (by rw [eA]; exact Nat.ne_of_lt (fpo b hb))]
  exact (f2 b hb).1
 have loop : codeAny (model X.prog X.w) X.A (.compLoop (.ListComp elt [⟨tg, iter, ifs, 0⟩] sc pos) 0 (.ref it) (.ref acc) (compEnvC sc (clOf sc X.env) C X.env))
   (compPost (model X.prog X.w) X.A X.xe use Q (.ref acc) C) { s₀ with heap := h₁, toks := s2.toks + ([] : List (Str × Value)).length } := by
  refine codeAny_compLoop_any (fun n s' => ∃ i ys H', Inv (cxComp X N' sc C s₀ (upd H2 acc (.lst [])) fp) [] (capSt cap σ) H' s' ∧ tn i s'.heap ∧ (∀ b ∈ fp, H' b = none) ∧ W i n ys H') ?_ m0
   ⟨0, [], _, Ib, T.keep _ _ _ st2 fun b hb o e => keep₁ b o (up0 b o e), fp0, w0⟩
  rintro n s3 ⟨i, ys, H3, I3, st3, fr3, w3⟩
  rcases turn i n ys H3 w3 with ⟨stop, qn⟩ | ⟨go, step⟩
  ·refine thn (T.done (cxComp X N' sc C s₀ (upd H2 acc (.lst [])) fp) rfl rfl rfl hc i [] s3 _ H3 (fun _ _ => False) I3 (stat fr3) st3 stop) fun r s4 ⟨hr, I4⟩ => ?_
   subst hr
   have u0 : Un (frs X.stack) fp H2 (upd H2 acc (.lst [])) s2.heap s₀.heap := Un.laid up0 (Nat.le_of_eq eA.symm) fr0
   have un : Un (frs X.stack) fp H2 H3 s2.heap s4.heap := u0.trans I4.base
   have I5 : Inv X pins σ H3 s4 := I2.call' (by rw [I4.os]; show s₀.os = _; rw [es0]) un I4.hok I4.bare fun b hb => ⟨(f2 b hb).2.2.2.1, (f2 b hb).2.1, (f2 b hb).2.2.2.2.1, (f2 b hb).2.2.2.2.2⟩
   obtain ⟨m4, hn4, _⟩ := I4.loc
   have CL : C ≠ X.env.locals := fun z => by
    have := I2.lt
    rw [← z, szC] at this
    exact absurd this (Nat.not_lt.mpr (Nat.le_succ _))
   refine fin acc C H3 s4 m4 I5 hn4 CL (fun {σ' s''} I6 h' sb => ?_) qn
   refine I6.turned (t' := s''.toks) (fun b o hb e => (sb.2 b hb).trans e) I4.free CL (.inr ?_) (fun x c e z => ?_) fun p hp z => ?_
   ·have := I2.sz
    rw [szC]
    omega
   ·obtain ⟨v, o, q, _⟩ := I2.cell x c e
    have := Heap.lt_size q
    rw [z, szC] at this
    exact absurd this (Nat.not_lt.mpr (Nat.le_succ _))
   ·obtain ⟨q, _⟩ := I2.pin p hp
    have := Heap.lt_size q
    rw [z, szC] at this
    exact absurd this (Nat.not_lt.mpr (Nat.le_succ _))
  ·refine thn (T.item (cxComp X N' sc C s₀ (upd H2 acc (.lst [])) fp) rfl rfl rfl hc i [] s3 _ H3 (fun _ _ => False) I3 (stat fr3) st3 go) fun r s4 ⟨u, hr, h4⟩ => ?_
   subst hr
   refine thn h4 fun _ s5 ⟨x, H5, I5, r5, y5, st5, fr5⟩ => ?_
   have I5' := I5.pinned (stat fr5) (T.obj _ _ st5)
   refine thn (hg C s₀ _ fp _ s5 _ H5 x u _ I5' r5 (ow σ _ x H5 _ ⟨rfl, fun _ _ e => e⟩ (step x H5 y5))) fun _ s6 ⟨σ6, H6, I6, q6, kp6⟩ => ?_
   have again : ∀ {H7 : Hp} {s7 : Shared} {zs : List V}, Inv (cxComp X N' sc C s₀ (upd H2 acc (.lst [])) fp) ([] ++ pinsAt fp s5.heap) σ6 H7 s7 → (∃ m', m' < n ∧ W (i + 1) m' zs H7) →
     ∃ m, m < n ∧ ∃ i ys H', Inv (cxComp X N' sc C s₀ (upd H2 acc (.lst [])) fp) [] (capSt cap σ) H' s7 ∧ tn i s7.heap ∧ (∀ b ∈ fp, H' b = none) ∧ W i m ys H' := fun {H7 s7 zs} I7 w7 => by
    obtain ⟨m', hm, w7⟩ := w7
    refine ⟨m', hm, i + 1, zs, H7, (I7.unpinned).weak kp6.1.symm kp6.2, T.keep _ _ _ st5 fun b hb o e => (I7.pin (b, o) (List.mem_append_right _ (List.mem_append_right _ (mem_pinsAt hb e)))).1, fun b hb => ?_, w7⟩
    obtain ⟨o, e, d⟩ := T.obj _ _ st5 b hb
    exact (I7.pin (b, o) (List.mem_append_right _ (List.mem_append_right _ (mem_pinsAt hb e)))).2.1
   refine thn (ht C s₀ _ fp _ s6 σ6 H6 _ I6 q6) fun ok s7 ⟨H7, I7, q7⟩ => ?_
   cases ok with
   | false =>
    rw [if_neg Bool.false_ne_true] at q7 ⊢
    exact again I7 q7
   | true =>
    rw [if_pos rfl] at q7 ⊢
    refine thn (he C s₀ _ fp _ s7 σ6 H7 _ I7 q7) fun xv s8 ⟨v, H8, I8, r8, hacc8, hl8, w8⟩ => ?_
    refine thn (mt_append _ s8 σ6 H8 (.ref acc) [v] (.ref acc) [xv] (fun _ H9 => H9 = upd H8 acc (.lst (ys ++ [v]))) I8 rfl (.cons r8 .nil) ⟨acc, ys, v, rfl, rfl, hacc8, hl8, rfl⟩) fun _ s9 ⟨_, H9, I9, _, e9⟩ => ?_
    subst e9
    exact again I9 w8
 exact codeAny_compStart_list loop (T.self _ 0 _ _ _ (T.keep _ _ _ st2 fun b hb o e => keep₁ b o (up0 b o e)) loop)

theorem pe_comp (hc : X.calm = true) (B : BlockOk X sc) (cp : CapOk X sc cap N') (hi : PI X tg iter wi) (ow : GOwn cap g)
  (hg : ∀ C s₀ H₀ fp, PG (cxComp X N' sc C s₀ H₀ fp) tg g) (ht : ∀ C s₀ H₀ fp, PTs (cxComp X N' sc C s₀ H₀ fp) ifs tt) (he : ∀ C s₀ H₀ fp, PE (cxComp X N' sc C s₀ H₀ fp) elt te)
  (hs : ∀ x, foldedSetIterable iter X.env x = pure x := by intro _; rfl) : PE X (.ListComp elt [⟨tg, iter, ifs, 0⟩] sc pos) (tComp cap wi g tt te) := by
 intro pins s σ H Q I h
 rw [eval_ListComp]
 refine comp_core (use := none) (R := fun acc H2 => Q (.ref acc) H2) hc B cp hi ow hg ht he hs I h fun acc C H' s' m I' hn CL mk r => ?_
 exact ⟨m, hn, fun h' sb => ⟨.ref acc, H', mk I' h' sb, rfl, r⟩⟩
theorem ps_setComp {i : Nat} {y : Str} {py spos : Pos} (hc : X.calm = true) (B : BlockOk X sc) (cp : CapOk X sc cap N') (hi : PI X tg iter wi) (ow : GOwn cap g)
  (hg : ∀ C s₀ H₀ fp, PG (cxComp X N' sc C s₀ H₀ fp) tg g) (ht : ∀ C s₀ H₀ fp, PTs (cxComp X N' sc C s₀ H₀ fp) ifs tt) (he : ∀ C s₀ H₀ fp, PE (cxComp X N' sc C s₀ H₀ fp) elt te)
  (hN : X.N.Nodup) (hy : X.N[i]? = some y) (hl : X.env.scope.names.lookup y = some .local)
  (hsw : swapsWith (.ListComp elt [⟨tg, iter, ifs, 0⟩] sc pos) (some (.Name y py)) spos.line X.env = pure true := by rfl)
  (hs : ∀ x, foldedSetIterable iter X.env x = pure x := by intro _; rfl) : PS X (.Assign [.Name y py] (.ListComp elt [⟨tg, iter, ifs, 0⟩] sc pos) spos) (tSetComp i cap wi g tt te) := by
 intro pins s σ H D I h
 rw [exec_Assign_Name_used _ _ _ _ hsw]
 refine wpAny_bind (wpAny_standAt (wpAny_bind ?_))
 show wpAny _ X.A (do let _ ← comprehension (.ListComp elt [⟨tg, iter, ifs, 0⟩] sc pos) sc X.env _ (newList []) false (eval iter X.env) (some (assign (.Name y py) X.env))) _ _ s
 refine wpAny_bind (thn (comp_core (use := some (assign (.Name y py) X.env)) (Q := fun _ s' => SP X pins D .next s') (R := fun acc H2 => D.nx (σ.set i (some (.ref acc))) H2) hc B cp hi ow hg ht he hs I h fun acc C H' s' m I' hn CL mk r => ?_) fun _ s' hq => wpAny_pure (wpAny_pure hq))
 show wpAny _ X.A (assign (.Name y py) X.env (.ref acc)) _ _ _
 refine wpAny_assign_Name (store_ok2 I' hN hy (.inl hl) (v := .ref acc) rfl (fun s'' I'' hsb => ?_) (.inr hl))
 obtain ⟨a, sb, ha⟩ := hsb
 have hCa : C ≠ a := by
  rcases ha with ha | ha
  ·rw [ha]; exact CL
  ·intro z
   rw [← z] at ha
   obtain ⟨v, o, q, d⟩ := I'.cell y C ha
   obtain ⟨o', es, ep, q', d', _⟩ := hn
   rw [q] at q'; cases q'
   rw [d] at d'; cases d'
 exact ⟨m, hn.sameBut sb hCa, fun h' sb' => ⟨_, H', mk I'' h' sb', r⟩⟩
end
end L2
namespace L2
open PySem PySem.Spec PyProof.Rows

noncomputable def Tame {α : Type} : Sem α → Prop
 | .pure _ => True
 | .raise _ => True
 | .unsupported _ => True
 | .finish _ => True
 | .rule _ k => ∀ u, Tame (k u)
 | .at _ k => ∀ u, Tame (k u)
 | .load _ _ k => ∀ o, Tame (k o)
 | .update _ _ f k => (∀ o, (f o).dict = o.dict ∧ (f o).cls = o.cls) ∧ ∀ u, Tame (k u)
 | .alloc _ k => ∀ a, Tame (k a)
 | .loadIfAlive _ k => ∀ o, Tame (k o)
 | .point _ k => ∀ u, Tame (k u)
 | .stack k => ∀ x, Tame (k x)
 | .ask k => ∀ x, Tame (k x)
 | _ => False
noncomputable def KD (h h' : Heap) : Prop := ∀ (b : Nat) o, h.objs[b]? = some o → ∃ o', h'.objs[b]? = some o' ∧ o'.dict = o.dict ∧ o'.cls = o.cls
theorem KD.refl (h : Heap) : KD h h := fun _ o e => ⟨o, e, rfl, rfl⟩
theorem KD.trans {h h1 h2 : Heap} (x : KD h h1) (y : KD h1 h2) : KD h h2 := fun b o e => by
 obtain ⟨o1, e1, d1, c1⟩ := x b o e
 obtain ⟨o2, e2, d2, c2⟩ := y b o1 e1
 exact ⟨o2, e2, d2.trans d1, c2.trans c1⟩
theorem KD.push (h : Heap) (o : Obj) : KD h (h.push o) := fun b o' e => by
 refine ⟨o', ?_, rfl, rfl⟩
 obtain ⟨objs, l⟩ := h
 show (objs.push o)[b]? = some o'
 have e : objs[b]? = some o' := e
 rw [Array.getElem?_push]
 have hb : b < objs.size := (Array.getElem?_eq_some_iff.mp e).1
 rw [if_neg (Nat.ne_of_lt hb)]
 exact e
theorem KD.update (h : Heap) (a : Addr) {f : Obj → Obj} (hf : ∀ o, (f o).dict = o.dict ∧ (f o).cls = o.cls) : KD h (h.update a f) := fun b o e => by
 obtain ⟨objs, l⟩ := h
 show ∃ o', (objs.modify a f)[b]? = some o' ∧ _
 rw [Array.getElem?_modify]
 have e : objs[b]? = some o := e
 by_cases hab : a = b
 ·rw [if_pos hab, e]
  exact ⟨f o, rfl, hf o⟩
 ·rw [if_neg hab, e]
  exact ⟨o, rfl, rfl, rfl⟩
theorem get_objs {h : Heap} {a : Addr} {o : Obj} (e : h.get? a = some o) : h.objs[a]? = some o := by
 unfold Heap.get? at e
 split at e
 ·cases e
 ·exact e
theorem KD.at {h h' : Heap} {a : Addr} {o o' : Obj} (k : KD h h') (e : h.get? a = some o) (e' : h'.get? a = some o') : o'.dict = o.dict ∧ o'.cls = o.cls := by
 obtain ⟨o1, e1, d⟩ := k a o (get_objs e)
 rw [get_objs e'] at e1
 cases e1
 exact d
theorem tame_wp {α : Type} {M : Model} {Γ : PySem.Ctx} {t : Sem α} : ∀ {Q : α → Pos → Shared → Prop} {E : Value → Pos → Shared → Prop} {p : Pos} {s : Shared} {h₀ : Heap}, Tame t → KD h₀ s.heap → Sem.wp M Γ t Q E p s →
  Sem.wp M Γ t (fun a p' s' => Q a p' s' ∧ KD h₀ s'.heap) (fun e p' s' => E e p' s' ∧ KD h₀ s'.heap) p s := by
 induction t with
 | pure a => exact fun _ k h => ⟨h, k⟩
 | raise e => exact fun _ k h => ⟨h, k⟩
 | unsupported w => exact fun _ _ h => h.elim
 | finish e => exact fun _ _ h => h.elim
 | rule _ k ih => exact fun t z h => ih () (t ()) z h
 | «at» _ k ih => exact fun t z h => ih () (t ()) z h
 | load a _ k ih =>
  intro Q E p s h₀ t z h
  obtain ⟨o, e, h⟩ := h
  exact ⟨o, e, ih o (t o) z h⟩
 | update a _ f k ih =>
  intro Q E p s h₀ t z h
  obtain ⟨e, h⟩ := h
  exact ⟨e, ih () (t.2 ()) (z.trans (KD.update _ _ t.1)) h⟩
 | alloc o k ih => exact fun t z h => ih _ (t _) (z.trans (KD.push _ _)) h
 | loadIfAlive a k ih => exact fun t z h => ih _ (t _) z h
 | point _ k ih => exact fun t z h => ih () (t ()) z h
 | stack k ih => exact fun t z h => ih _ (t _) z h
 | ask k ih => exact fun t z h => ih _ (t _) z h
 | register _ _ _ => exact fun t => t.elim
 | fresh _ _ => exact fun t => t.elim
 | choose _ _ _ _ => exact fun t => t.elim
 | os _ _ _ _ => exact fun t => t.elim
 | call _ _ _ _ _ _ => exact fun t => t.elim
 | handled _ _ _ => exact fun t => t.elim
 | newGen _ _ _ => exact fun t => t.elim
 | genState _ _ _ => exact fun t => t.elim
 | resume _ _ _ _ _ => exact fun t => t.elim
 | yield _ _ _ _ _ => exact fun t => t.elim
 | fork _ _ _ => exact fun t => t.elim
 | thread _ _ => exact fun t => t.elim
 | await _ _ _ _ _ _ => exact fun t => t.elim
theorem tame_any {α : Type} {M : Model} {A : Around} {t : Sem α} {Q : α → Shared → Prop} {E : Value → Shared → Prop} {s : Shared} (T : Tame t) (h : wpAny M A t Q E s) : wpAny M A t (fun a s' => Q a s' ∧ KD s.heap s'.heap) (fun e s' => E e s' ∧ KD s.heap s'.heap) s :=
 fun Γ p hΓ => tame_wp T (KD.refl _) (h Γ p hΓ)
theorem tame_bind {α β : Type} {f : α → Sem β} (hf : ∀ a, Tame (f a)) : ∀ {t : Sem α}, Tame t → Tame (t.bind f) := by
 intro t
 induction t with
 | pure a => exact fun _ => hf a
 | raise e => exact fun _ => trivial
 | unsupported w => exact fun _ => trivial
 | finish e => exact fun _ => trivial
 | rule _ k ih => exact fun t u => ih u (t u)
 | «at» _ k ih => exact fun t u => ih u (t u)
 | load a _ k ih => exact fun t u => ih u (t u)
 | update a _ f k ih => exact fun t => ⟨t.1, fun u => ih u (t.2 u)⟩
 | alloc o k ih => exact fun t u => ih u (t u)
 | loadIfAlive a k ih => exact fun t u => ih u (t u)
 | point _ k ih => exact fun t u => ih u (t u)
 | stack k ih => exact fun t u => ih u (t u)
 | ask k ih => exact fun t u => ih u (t u)
 | register _ _ _ => exact fun t => t.elim
 | fresh _ _ => exact fun t => t.elim
 | choose _ _ _ _ => exact fun t => t.elim
 | os _ _ _ _ => exact fun t => t.elim
 | call _ _ _ _ _ _ => exact fun t => t.elim
 | handled _ _ _ => exact fun t => t.elim
 | newGen _ _ _ => exact fun t => t.elim
 | genState _ _ _ => exact fun t => t.elim
 | resume _ _ _ _ _ => exact fun t => t.elim
 | yield _ _ _ _ _ => exact fun t => t.elim
 | fork _ _ _ => exact fun t => t.elim
 | thread _ _ => exact fun t => t.elim
 | await _ _ _ _ _ _ => exact fun t => t.elim
theorem tb {α β : Type} {t : Sem α} {f : α → Sem β} (h : Tame t) (hf : ∀ a, Tame (f a)) : Tame (t >>= f) := tame_bind hf h
theorem tame_fieldsOf (v : Value) : Tame (fieldsOf v) := by
 unfold fieldsOf
 split
 ·refine tb (fun o => trivial) fun o => ?_
  split <;> trivial
 ·trivial
theorem tame_field (v : Value) (i : Nat) : Tame (field v i) := by
 unfold field
 refine tb (tame_fieldsOf v) fun a => ?_
 split <;> trivial
theorem mapFields_keep (g : Array Value → Array Value) (o : Obj) : (Obj.mapFields g o).dict = o.dict ∧ (Obj.mapFields g o).cls = o.cls := by
 obtain ⟨c, d, dt, sl⟩ := o
 cases dt <;> exact ⟨rfl, rfl⟩
theorem tame_setField (v : Value) (i : Nat) (x : Value) : Tame (setField v i x) := by
 unfold setField
 split
 ·unfold updateField
  refine tb (fun o => trivial) fun o => ?_
  split
  ·split
   ·exact ⟨fun o => mapFields_keep _ o, fun _ => trivial⟩
   ·trivial
  ·trivial
 ·trivial
theorem tame_setFlight (e : Value) (f : Option Addr) : Tame (setFlight e f) := by
 unfold setFlight
 refine tb (tame_field _ _) fun tb' => ?_
 split
 ·exact tame_setField _ _ _
 ·trivial
theorem tame_newFields (ty : String) (vs : List Value) : Tame (newFields ty vs) := by
 have h : Tame (newObjAsIs (Value.type ty) (Data.fields vs.toArray)) := by
  unfold newObjAsIs
  exact tb (fun a => trivial) fun a => trivial
 unfold newFields newObj
 show Tame (if vs.toArray.size > sizeLine + 2 then (unsupported "record:memory" >>= fun _ => newObjAsIs (Value.type ty) (Data.fields vs.toArray)) else newObjAsIs (Value.type ty) (Data.fields vs.toArray))
 split
 ·trivial
 ·exact h
theorem tame_behind (env : Env) (outer : List Env) : Tame (behindIsImport env outer) := by
 unfold behindIsImport
 split
 ·trivial
 ·split
  ·trivial
  ·exact tb (tame_field _ _) fun _ => trivial
theorem tame_under : Tame underTheClaimsCaller := tb (fun _ => trivial) fun _ => trivial
theorem tame_keptBack (env : Env) (i : Bool) (outer : List Env) : Tame (keptBack env i outer) := by
 cases outer with
 | nil =>
  unfold keptBack
  by_cases h : (env.scope.isGenerator || env.scope.isCoroutine) = true
  ·rw [if_pos h]; trivial
  ·rw [if_neg h]
   refine tb tame_under fun x => ?_
   trivial
 | cons c r =>
  unfold keptBack
  trivial
theorem tame_ready : ∀ l : List Env, Tame (readyFrames l)
 | [] => trivial
 | env :: outer => by
  unfold readyFrames
  split
  ·refine tb (fun o => trivial) fun o => ?_
   split
   ·trivial
   ·exact tb (tame_behind _ _) fun i => tb (tame_keptBack _ _ _) fun b => tb ⟨fun o => ⟨rfl, rfl⟩, fun _ => trivial⟩ fun _ => tame_ready outer
  ·trivial
theorem tame_frameOf (env : Env) : Tame (PySem.frameOf env) := by
 unfold PySem.frameOf
 refine tb (fun x => trivial) fun l => tb ?_ fun o => ?_
 ·generalize List.dropWhile _ l = l'
  unfold frameObject
  cases l' with
  | nil => trivial
  | cons a r => exact tb (tame_ready _) fun _ => trivial
 ·split <;> trivial
theorem tame_entryPlace (f : Addr) (b : Bool) : Tame (entryPlaceOf f b) := by
 unfold entryPlaceOf
 refine tb (fun x => trivial) fun l => ?_
 split <;> trivial
theorem tame_noteFrame (e : Value) (env : Env) : Tame (noteFrame e env) := by
 unfold noteFrame
 split
 ·rename_i f _
  have last : ∀ head : Value, Tame (do setField e 1 (← EntryCells.newEntry head (← PySem.frameOf env) .none (rawInt f) .none (← entryPlaceOf f (head != .none)))) := fun head =>
   tb (tame_frameOf env) fun a => tb (tame_entryPlace _ _) fun pl => tb (tame_newFields _ _) fun b => tame_setField _ _ _
  refine tb (tame_field _ _) fun head => ?_
  split
  ·refine tb (tame_field _ _) fun x => ?_
   split
   ·trivial
   ·exact tb (tame_setField _ _ _) fun _ => last head
  ·exact last head
 ·trivial
theorem tame_leaving (env : Env) (e : Value) : Tame (leaving env e) := tb (tame_noteFrame e env) fun _ => tame_setFlight _ _
end L2
namespace L2
open PySem PySem.Spec PyProof.Rows

theorem ObjOk.there {P : Program} {w : World} {H : Hp} {h : Heap} {a : Addr} {o : HO} (x : ObjOk P w H h a o) : ∃ ob, h.get? a = some ob := by
 cases o with
 | lst xs => obtain ⟨_, _, _, _, e⟩ := x; exact ⟨_, e⟩
 | tup xs => obtain ⟨_, _, _, ob, e, _⟩ := x; exact ⟨_, e⟩
 | dK kvs => obtain ⟨_, _, _, _, o, _, _, e, _⟩ := x; exact ⟨_, e⟩
 | dT kvs => obtain ⟨_, _, _, _, o, _, _, e, _⟩ := x; exact ⟨_, e⟩
 | dN kvs => obtain ⟨_, _, _, _, o, _, _, e, _⟩ := x; exact ⟨_, e⟩
 | set S n => obtain ⟨o, _, _, _, e, _⟩ := x; exact ⟨_, e⟩
 | ins C dx fs => obtain ⟨_, _, _, e, _⟩ := x; exact ⟨_, e⟩
 | own y => obtain ⟨_, e⟩ := x; exact ⟨_, e⟩
 | xd fs => obtain ⟨_, ⟨_, _, _, e, _⟩, _⟩ := x; exact ⟨_, e⟩
 | rng lo hi => obtain ⟨_, _, _, e⟩ := x; exact ⟨_, e⟩
 | frz ob u => obtain ⟨e, _⟩ := x; exact ⟨_, e⟩
 | tbl ps => exact ⟨_, (show h.get? a = some _ from x)⟩
 | met f y => exact ⟨_, (show h.get? a = some _ from x)⟩
 | ext φ => obtain ⟨_, ⟨_, e⟩, _⟩ := x; exact ⟨_, e⟩

noncomputable def Cov (outer : List Env) (H' : Hp) (old h' B : Heap) : Prop :=
 (∀ b o, (∃ o0, old.get? b = some o0) → b ∉ frs outer → h'.get? b = some o → B.get? b = some o) ∧ ∀ b u o, H' b = some u → h'.get? b = some o → B.get? b = some o
structure Fly (P : Program) (w : World) (outer : List Env) (H : Hp) (s : Shared) (e : Addr) (cls : Value) (H' : Hp) (s' : Shared) : Prop where
 os : s'.os = s.os
 bare : AllBare s'.gens
 un : Un (frs outer) [] H H' s.heap s'.heap
 hok : HOk P w H' s'.heap
 fly : ∃ B t, Heap.FlyingW B outer e cls (.ref t) s'.heap ∧ Cov outer H' s.heap s'.heap B
 new : s.heap.get? e = none
 free : H' e = none
 nd : ∀ o, s'.heap.get? e = some o → o.dict = none
noncomputable def CXE (P : Program) (w : World) : CXT := fun outer H s E ev s' => ∃ e cls H', ev = .ref e ∧ Fly P w outer H s e cls H' s' ∧ E cls none H'

theorem Fly.moved {P : Program} {w : World} {outer : List Env} {H H' : Hp} {s s' : Shared} {e : Addr} {cls a0 : Value} {B h2 : Heap} (F : Fly P w outer H s e cls H' s') (fl : Heap.FlyingW B outer e cls a0 s'.heap) (cov : Cov outer H' s.heap s'.heap B)
  (st : B.StaysIn h2) (sm : s'.heap.UpToSlots h2) : Un (frs outer) [] H H' s.heap h2 ∧ HOk P w H' h2 ∧ Cov outer H' s.heap h2 B := by
 have nofs : ∀ b u, H' b = some u → ∃ o, s'.heap.get? b = some o ∧ B.get? b = some o ∧ h2.get? b = some o := fun b u q => by
  obtain ⟨o, e1⟩ := (F.hok b u q).there
  have e2 := cov.2 b u o q e1
  exact ⟨o, e1, e2, st b o e2⟩
 have old : ∀ b o0, s.heap.get? b = some o0 → b ∉ frs outer → ∃ o, s'.heap.get? b = some o ∧ B.get? b = some o ∧ h2.get? b = some o := fun b o0 q hb => by
  obtain ⟨o, e1⟩ := F.un.there b o0 q (by simp)
  have e2 := cov.1 b o ⟨o0, q⟩ hb e1
  exact ⟨o, e1, e2, st b o e2⟩
 have fr : ∀ b ∈ frs outer, ∃ o sl, s'.heap.get? b = some o ∧ h2.get? b = some { o with slots := sl } := fun b hb => by
  obtain ⟨_, o, e1, d⟩ := fl.2.2.1.mem hb
  obtain ⟨sl, e2⟩ := sm b o e1 d
  exact ⟨o, sl, e1, e2⟩
 refine ⟨⟨fun b o q n hb _ => ?_, fun b o q n hb _ => ?_, fun b o q n hx => F.un.free b o q n hx, fun b o q _ => ?_, F.un.tups, F.un.frzs, F.un.tbls⟩, fun a u q => ?_, fun b o q hb e1 => ?_, fun b u o q e1 => ?_⟩
 ·obtain ⟨o1, e1, _, e3⟩ := old b o q hb
  have e4 := F.un.keep b o q n hb (by simp)
  rw [e1] at e4; cases e4
  exact e3
 ·obtain ⟨o1, sl1, e1, e2⟩ := fr b hb
  obtain ⟨sl, e4⟩ := F.un.slot b o q n hb (by simp)
  rw [e1] at e4; cases e4
  exact ⟨sl1, e2⟩
 ·by_cases hb : b ∈ frs outer
  ·obtain ⟨o1, sl1, e1, e2⟩ := fr b hb
   exact ⟨_, e2⟩
  ·obtain ⟨o1, _, _, e3⟩ := old b o q hb
   exact ⟨_, e3⟩
 ·refine (F.hok a u q).stay (fun b ob hb eb => ?_) (fun _ z => z) fun _ _ z => z
  have : ∃ u', H' b = some u' := by
   rcases hb with z | z
   ·exact ⟨u, z ▸ q⟩
   ·exact ⟨_, z⟩
  obtain ⟨u', hu⟩ := this
  obtain ⟨o1, e1, _, e3⟩ := nofs b u' hu
  rw [eb] at e1; cases e1
  exact e3
 ·obtain ⟨o0, q⟩ := q
  obtain ⟨o1, _, e2, e3⟩ := old b o0 q hb
  rw [e1] at e3; cases e3
  exact e2
 ·obtain ⟨o1, _, e2, e3⟩ := nofs b u q
  rw [e1] at e3; cases e3
  exact e2

section
variable {P : Program} {w : World} {K : PySem.W.Frag} {mg : Str → Option Value} {base : Heap} {N : List Str} {qual : Str} {scope : Scope} {f : Addr} {cdv : Value} {A : Around} {outer : List Env} {s : Shared} {H : Hp} {E : XK}

theorem raise_xe {pins : List (Addr × Obj)} {σ : St} {H1 : Hp} {s1 : Shared} {h2 : Heap} {e : Addr} {cls : Value} {vs : List Value} {t' : Nat}
  (I : Inv (cxOf (CXE P w) P w K mg base N qual scope f cdv A outer s H E) pins σ H1 s1) (hx : Heap.MadeExcOf s1.heap h2 e cls vs) (hE : E cls none H1) :
  (cxOf (CXE P w) P w K mg base N qual scope f cdv A outer s H E).xe (.ref e) { s1 with heap := h2 } := by
 have hfs : ∀ b ∈ frs (envOfC qual scope s.heap.objs.size f cdv :: outer), b ∈ s.heap.objs.size :: frs outer := I.stkSub
 have st0 : (PySem.W.hideAll s1.heap (frs (envOfC qual scope s.heap.objs.size f cdv :: outer))).StaysIn s1.heap := fun b o q => PySem.W.of_hideAll _ q
 have lt0 : ∀ b o, s.heap.get? b = some o → b ≠ s.heap.objs.size := fun b o q => Nat.ne_of_lt (Heap.lt_size q)
 have inB : ∀ b o, s1.heap.get? b = some o → b ∉ frs (envOfC qual scope s.heap.objs.size f cdv :: outer) → (PySem.W.hideAll s1.heap (frs (envOfC qual scope s.heap.objs.size f cdv :: outer))).get? b = some o := fun b o q hb => PySem.W.hideAll_get _ q hb
 refine wpAny_mono (tame_any (tame_leaving _ _) (wpAny_leaves_madeW (E := fun _ _ => False) (Q := fun _ s'' => ∃ h' t, s'' = { s1 with heap := h' } ∧ Heap.FlyingW (PySem.W.hideAll s1.heap (frs (envOfC qual scope s.heap.objs.size f cdv :: outer))) outer e cls (.ref t) h' ∧ h2.UpToSlots h')
  (base := PySem.W.hideAll s1.heap (frs (envOfC qual scope s.heap.objs.size f cdv :: outer))) (L := s.heap.objs.size) I.ok.frames rfl st0 (PySem.W.funFrames_hide I.stack fun env he a ha => List.mem_filterMap.mpr ⟨env, he, ha⟩) hx fun h' t x1 x2 x3 x4 => ⟨h', t, rfl, x1, x4⟩)) (fun _ s3 h3 => ?_) fun _ _ h3 => h3.1.elim
 obtain ⟨⟨h', t, rfl, x1, x4⟩, kd⟩ := h3
 have nfs : ∀ b o, s.heap.get? b = some o → b ∉ frs outer → b ∉ frs (envOfC qual scope s.heap.objs.size f cdv :: outer) := fun b o q hb hz => by
  rcases List.mem_cons.mp (hfs b hz) with z | z
  ·exact lt0 b o q z
  ·exact hb z
 have trk : ∀ b u, H1 b = some u → ∃ o, s1.heap.get? b = some o ∧ (PySem.W.hideAll s1.heap (frs (envOfC qual scope s.heap.objs.size f cdv :: outer))).get? b = some o ∧ h'.get? b = some o := fun b u q => by
  obtain ⟨o, e1⟩ := (I.hok b u q).there
  have e2 := inB b o e1 fun hz => by
   have z := I.stkFree b hz
   rw [q] at z; cases z
  exact ⟨o, e1, e2, x1.1 b o e2⟩
 have old : ∀ b o0, s.heap.get? b = some o0 → b ∉ frs outer → ∃ o, s1.heap.get? b = some o ∧ (PySem.W.hideAll s1.heap (frs (envOfC qual scope s.heap.objs.size f cdv :: outer))).get? b = some o ∧ h'.get? b = some o := fun b o0 q hb => by
  obtain ⟨o, e1⟩ := I.base.there b o0 q (by simp [cxOf])
  have e2 := inB b o e1 (nfs b o0 q hb)
  exact ⟨o, e1, e2, x1.1 b o e2⟩
 have fr : ∀ b ∈ frs outer, ∃ o sl, s1.heap.get? b = some o ∧ h'.get? b = some { o with slots := sl } := fun b hb => by
  obtain ⟨_, o, e1, d⟩ := I.funs.mem hb
  obtain ⟨sl, e2⟩ := x4 b o (hx.keeps b o e1) d
  exact ⟨o, sl, e1, e2⟩
 have exn : ∀ b : Addr, b ∉ (cxOf (CXE P w) P w K mg base N qual scope f cdv A outer s H E).ex := fun b z => absurd (show b ∈ ([] : List Addr) from z) (by simp)
 refine ⟨e, cls, H1, rfl, ⟨I.os, I.bare, ⟨fun b o q n hb _ => ?_, fun b o q n hb _ => ?_, fun b o q n hx => I.base.free b o q n (exn b), fun b o q _ => ?_, I.base.tups, I.base.frzs, I.base.tbls⟩, fun a u q => ?_, ⟨_, t, x1, fun b o q hb e1 => ?_, fun b u o q e1 => ?_⟩, ?_, ?_, ?_⟩, hE⟩
 ·obtain ⟨o1, e1, _, e3⟩ := old b o q hb
  have e4 := I.base.keep b o q n hb (exn b)
  rw [e1] at e4; cases e4
  exact e3
 ·obtain ⟨o1, sl1, e1, e2⟩ := fr b hb
  obtain ⟨sl, e4⟩ := I.base.slot b o q n hb (exn b)
  rw [e1] at e4; cases e4
  exact ⟨sl1, e2⟩
 ·by_cases hb : b ∈ frs outer
  ·obtain ⟨o1, sl1, e1, e2⟩ := fr b hb
   exact ⟨_, e2⟩
  ·obtain ⟨o1, _, _, e3⟩ := old b o q hb
   exact ⟨_, e3⟩
 ·refine (I.hok a u q).stay (fun b ob hb eb => ?_) (fun _ z => z) fun _ _ z => z
  have : ∃ u', H1 b = some u' := by
   rcases hb with z | z
   ·exact ⟨u, z ▸ q⟩
   ·exact ⟨_, z⟩
  obtain ⟨u', hu⟩ := this
  obtain ⟨o1, e1, _, e3⟩ := trk b u' hu
  rw [eb] at e1; cases e1
  exact e3
 ·obtain ⟨o0, q⟩ := q
  obtain ⟨o1, _, e2, e3⟩ := old b o0 q hb
  rw [e1] at e3; cases e3
  exact e2
 ·obtain ⟨o1, _, e2, e3⟩ := trk b u q
  rw [e1] at e3; cases e3
  exact e2
 ·cases q : s.heap.get? e with
  | none => rfl
  | some o =>
   obtain ⟨o', q'⟩ := I.base.there e o q (exn e)
   have := hx.new
   rw [q'] at this; cases this
 ·cases q : H1 e with
  | none => rfl
  | some u =>
   obtain ⟨o, e1⟩ := (I.hok e u q).there
   have := hx.new
   rw [e1] at this; cases this
 ·intro o q
  obtain ⟨t0, e0, _⟩ := hx.there
  exact (kd.at e0 q).1

theorem passE : Passes (CXE P w) (cxOf (CXE P w) P w K mg base N qual scope f cdv A outer s H E) E := by
 rintro pins σ H1 s1 ev s' I ⟨e, cls, H', rfl, F, hE⟩
 obtain ⟨B, t, fl, cov⟩ := F.fly
 have hfs : ∀ b ∈ frs (envOfC qual scope s.heap.objs.size f cdv :: outer), b ∈ s.heap.objs.size :: frs outer := I.stkSub
 refine wpAny_mono (tame_any (tame_leaving _ _) (wpAny_leaves_onW (E := fun _ _ => False) (Q := fun _ s'' => ∃ h', s'' = { s' with heap := h' } ∧ Heap.FlyingW B outer e cls (.ref t) h' ∧ s'.heap.UpToSlots h') (L := s.heap.objs.size) I.ok.frames rfl fl fun h' x1 x2 => ⟨h', rfl, x1, x2⟩)) (fun _ s3 h3 => ?_) fun _ _ h3 => h3.1.elim
 obtain ⟨⟨h', rfl, x1, x2⟩, kd⟩ := h3
 obtain ⟨un, hok, cov'⟩ := F.moved fl cov x1.1 x2
 have exn : ∀ b : Addr, b ∉ (cxOf (CXE P w) P w K mg base N qual scope f cdv A outer s H E).ex := fun b z => absurd (show b ∈ ([] : List Addr) from z) (by simp)
 have nfs : ∀ b o, s.heap.get? b = some o → b ∉ frs outer → b ∉ frs (envOfC qual scope s.heap.objs.size f cdv :: outer) := fun b o q hb hz => by
  rcases List.mem_cons.mp (hfs b hz) with z | z
  ·exact Nat.ne_of_lt (Heap.lt_size q) z
  ·exact hb z
 have sub : ∀ b ∈ frs outer, b ∈ frs (envOfC qual scope s.heap.objs.size f cdv :: outer) := fun b hb => by
  unfold frs at hb ⊢
  rw [List.filterMap_cons]
  exact List.mem_cons_of_mem _ hb
 refine ⟨e, cls, H', rfl, ⟨F.os.trans I.os, F.bare, ⟨fun b o q n hb _ => ?_, fun b o q n hb _ => ?_, fun b o q n _ => ?_, fun b o q _ => ?_, fun b xs q => un.tups b xs (I.base.tups b xs q), fun b o xs q => un.frzs b o xs (I.base.frzs b o xs q), fun b ps q => ?_⟩, hok,
  ⟨B, t, x1, fun b o q hb e1 => ?_, cov'.2⟩, ?_, F.free, fun o q => ?_⟩, hE⟩
 ·exact un.keep b o (I.base.keep b o q n hb (exn b)) (I.base.free b o q n (exn b)) (nfs b o q hb) (by simp)
 ·obtain ⟨sl, e1⟩ := I.base.slot b o q n hb (exn b)
  obtain ⟨sl2, e2⟩ := un.slot b _ e1 (I.base.free b o q n (exn b)) (sub b hb) (by simp)
  exact ⟨sl2, e2⟩
 ·obtain ⟨o1, e1⟩ := I.base.there b o q (exn b)
  exact un.free b o1 e1 (I.base.free b o q n (exn b)) (by simp)
 ·obtain ⟨o1, e1⟩ := I.base.there b o q (exn b)
  exact un.there b o1 e1 (by simp)
 ·obtain ⟨m1, e1⟩ := I.base.tbls b ps q
  obtain ⟨m2, e2⟩ := un.tbls b _ e1
  exact ⟨m1 ++ m2, by rw [e2, Array.append_assoc]⟩
 ·obtain ⟨o0, q⟩ := q
  obtain ⟨o1, q1⟩ := I.base.there b o0 q (exn b)
  exact cov'.1 b o ⟨o1, q1⟩ (nfs b o0 q hb) e1
 ·cases q : s.heap.get? e with
  | none => rfl
  | some o =>
   obtain ⟨o', q'⟩ := I.base.there e o q (exn e)
   have := F.new
   rw [q'] at this; cases this
 ·obtain ⟨ob, hob, _⟩ := fl.there
  exact (kd.at hob q).1.trans (F.nd ob hob)
end

structure ExcCls (K : PySem.W.Frag) (mg : Str → Option Value) (x : Str) (C : Addr) (bmB : List Value) (newId : String) : Prop where
 mg : mg x = some (.ref C)
 inK : PySem.W.excIn K C bmB newId = true
theorem ExcCls.own {K : PySem.W.Frag} {mg : Str → Option Value} {x : Str} {C : Addr} {bmB : List Value} {newId : String} {h : Heap} (O : ExcCls K mg x C bmB newId) (X : K.In h) : OwnCls x C bmB newId mg h := by
 refine ⟨O.mg, ?_⟩
 have q := O.inK
 unfold PySem.W.excIn at q
 split at q
 ·rename_i dd cd sl ho
  split at q
  ·rename_i C' bm k0 k1 k2 k3 n k5 hm hs
   simp only [Bool.and_eq_true, beq_iff_eq, Bool.not_eq_true'] at q
   obtain ⟨⟨⟨⟨⟨rfl, rfl⟩, hdel⟩, ht⟩, hok⟩, hni⟩ := q
   obtain ⟨nm, bs, mro, ns, qn, hd, sn, sub, ab, col, del⟩ := cd
   dsimp only at hm hdel hok hni
   subst hm hdel
   have hsl : sl = #[k0, k1, k2, k3, some (.builtin n), k5] := by
    obtain ⟨l⟩ := sl
    simp only at hs
    rw [hs]
   subst hsl
   exact ⟨bm, ns, nm, qn, bs, hd, sn, sub, ab, col, dd, k0, k1, k2, k3, k5, _, X _ _ ho, .of_isNs (PySem.W.isNs_of_in X hok), PySem.W.nsMap_none_of_in X hok hni, PySem.W.tail_of_in X ht⟩
  ·cases q
 ·cases q

noncomputable def tRaise (C : Addr) (E : XK) (ta : TA) : TS := fun _ σ H => ta σ H fun vs H1 => vs.length ≤ sizeLine ∧ E (.ref C) none H1
noncomputable def Raises (X : Cx) (E : XK) : Prop := ∀ (pins : List (Addr × Obj)) (σ : St) (H : Hp) (s : Shared) (h' : Heap) (e : Addr) (cls : Value) (vs : List Value), Inv X pins σ H s → Heap.MadeExcOf s.heap h' e cls vs → E cls none H → X.xe (.ref e) { s with heap := h' }
theorem raisesE {P : Program} {w : World} {K : PySem.W.Frag} {mg : Str → Option Value} {base : Heap} {N : List Str} {qual : Str} {scope : Scope} {f : Addr} {cdv : Value} {A : Around} {outer : List Env} {s : Shared} {H : Hp} {E : XK} :
  Raises (cxOf (CXE P w) P w K mg base N qual scope f cdv A outer s H E) E := fun _ _ _ _ _ _ _ _ I hx hE => raise_xe (t' := 0) I hx hE
theorem ps_raise {X : Cx} {E : XK} {x : Str} {C : Addr} {B newId initId : String} {bmB : List Value} {a : Expr} {ta : TA} {np cpos pos : Pos} (hr : Raises X E) (hc : X.calm = true) (hg : Gl X x) (O : ExcCls X.K X.mg x C bmB newId) (FB : ExcBaseFacts B newId initId bmB)
  (ha : PA X [a] ta) (he : starEach [a] X.env = [(false, eval a X.env)] := by rfl) (hd : (x == ("__debug__" : Str)) = false := by decide) : PS X (.Raise (some (.Call (.Name x np) [a] [] cpos)) none pos) (tRaise C E ta) := by
 intro pins s σ H D I h
 obtain ⟨tl, N, nm, q, bs, hdct, sn, sub, ab, col, dd, k0, k1, k2, k3, k5, mN, hC, hN, hni, T⟩ := (O.own I.ok.mod.kin).obj
 refine wpAny_Raise_call_subT (C := C) (nm := nm) (q := q) (N := N) (bs := bs) (bm := tl) (hdct := hdct) (sn := sn) (sub := sub) (ab := ab) (col := col) (dd := dd) (k0 := k0) (k1 := k1) (k2 := k2) (k3 := k3) (k5 := k5)
  FB (mN := mN) (T.hasType FB.hasBase) (I.ok.hd hc) (by rw [he]; rfl) hni (ld_glob I hg O.mg ⟨rfl, ?_⟩ hd)
 have hh := ha cpos pins s σ H _ I h
 rw [he] at hh ⊢
 exact Calls.evalArgs_plain (thn hh fun us s₂ ⟨vs, H1, I2, r, z, q⟩ => ⟨rfl, by rw [← r.length]; exact z, I2.bk _ _ hC, hN.keeps I2.bk, T.keeps I2.bk, fun h' e hm => hr pins σ H1 s₂ h' e (.ref C) us I2 hm q⟩)
end L2
namespace L2
open PySem PySem.Spec PyProof.Rows

theorem passF {P : Program} {w : World} {X : Cx} : Passes (CXE P w) X E0 := fun _ _ _ _ _ _ _ ⟨_, _, _, _, _, h⟩ => h.elim

noncomputable abbrev TEx := St → Hp → VK → (Value → Hp → Prop) → Prop
noncomputable abbrev TAx := St → Hp → (List V → Hp → Prop) → (Value → Hp → Prop) → Prop
noncomputable abbrev TSx := Ends → (Value → Hp → Prop) → St → Hp → Prop
noncomputable def XP (X : Cx) (pins : List (Addr × Obj)) (σ : St) (EX : Value → Hp → Prop) (ev : Value) (s' : Shared) : Prop :=
 ∃ (e : Addr) (cls : Value) (H0 H' : Hp) (s0 : Shared), ev = .ref e ∧ Inv X pins σ H0 s0 ∧ Fly X.prog X.w X.stack H0 s0 e cls H' s' ∧ EX cls H'
noncomputable def PEx (X : Cx) (e : Expr) (t : TEx) : Prop :=
 ∀ (pins : List (Addr × Obj)) (s : Shared) (σ : St) (H : Hp) (Q : VK) (EX : Value → Hp → Prop), Inv X pins σ H s → t σ H Q EX → wpAny (model X.prog X.w) X.A (eval e X.env) (EP X pins σ Q) (XP X pins σ EX) s
noncomputable def PAx (X : Cx) (es : List Expr) (t : TAx) : Prop :=
 ∀ (pos : Pos) (pins : List (Addr × Obj)) (s : Shared) (σ : St) (H : Hp) (Q : List V → Hp → Prop) (EX : Value → Hp → Prop), Inv X pins σ H s → t σ H Q EX → wpAny (model X.prog X.w) X.A (spliced (backTo pos (starEach es X.env))) (AP X pins σ Q) (XP X pins σ EX) s
noncomputable def PSx (X : Cx) (st : List Stmt) (t : TSx) : Prop :=
 ∀ (pins : List (Addr × Obj)) (s : Shared) (σ : St) (H : Hp) (D : Ends) (EX : Value → Hp → Prop), Inv X pins σ H s → t D EX σ H → wpAny (model X.prog X.w) X.A (execs st X.env) (SP X pins D) (XP X pins σ EX) s
section
variable {X : Cx} {e : Expr} {es : List Expr} {te : TE}
noncomputable def xE (t : TE) : TEx := fun σ H Q _ => t σ H Q
theorem pex_of (h : PE X.nox e te) : PEx X e (xE te) := fun pins s σ H Q EX I hw =>
 wpAny_mono (h pins s σ H Q (I.wish _) hw) (fun _ _ ⟨v, H', I', r, q⟩ => ⟨v, H', I'.unwish, r, q⟩) fun _ _ z => False.elim z
noncomputable def xNil : TAx := fun _ H Q _ => Q [] H
noncomputable def xCons (ta : TEx) (tr : TAx) : TAx := fun σ H Q EX => ta σ H (fun x H1 => tr σ H1 (fun xs H2 => Q (x :: xs) H2) EX) EX
theorem pax_nil : PAx X [] xNil := fun _ _ _ _ H Q _ I h => Calls.spliced_nil ⟨[], H, I, .nil, h⟩
theorem pax_cons {ta : TEx} {t : TAx} (ha : PEx X e ta) (hr : PAx X es t) (hs : starEach (e :: es) X.env = (false, eval e X.env) :: starEach es X.env := by rfl) : PAx X (e :: es) (xCons ta t) := by
 intro pos pins s σ H Q EX I h
 rw [hs]
 show wpAny _ _ (spliced ((false, eval e X.env) :: backTo pos (starEach es X.env))) _ _ s
 refine Calls.spliced_cons (thn (ha pins s σ H _ EX I h) fun u s1 ⟨x, H1, I1, r1, q1⟩ => ?_)
 exact thn (hr pos pins s1 σ H1 _ EX I1 q1) fun us s2 ⟨xs, H2, I2, r2, q2⟩ => ⟨x :: xs, H2, I2, .cons r1 r2, q2⟩
noncomputable def xCall (sp : Sp) (dvs : List V) (t : TAx) : TEx := fun σ H Q EX => t σ H (fun vs H1 => sp (vs ++ dvs) H1 Q fun cls _ H' => EX cls H') EX
theorem pex_call {k : Nat} {f : Addr} {fd : FuncData} {ps : List Str} {sp : Sp} {dvs : List V} {ds : List Value} {x : Str} {p pos : Pos} {t : TAx} (F : FnOk X.prog X.w X.K X.mg X.base (CXE X.prog X.w) k f fd ps sp) (hr : Room k X.A) (hg : Gl X x) (hm : X.mg x = some (.ref f)) (hk : PySem.W.keepIn X.K (.ref f) = true) (hb : Binds X.K fd ps ds) (hd : Vals dvs ds)
  (ha : PAx X (e :: es) t) (hdb : (x == ("__debug__" : Str)) = false := by decide) (he : starEach (e :: es) X.env = (false, eval e X.env) :: starEach es X.env := by rfl) (hpl : (backTo pos (starEach es X.env)).any (·.1) = false := by rfl) :
  PEx X (.Call (.Name x p) (e :: es) [] pos) (xCall sp dvs t) := by
 intro pins s σ H Q EX I h
 refine wpAny_Call_Name_kw (ld_glob I hg hm ?_ hdb)
 refine PySem.W.callWith_K (h₀ := X.base) I.ok.mod.kin hk (thn (ha pos pins s σ H _ EX I h) fun us s1 ⟨vs, H1, I1, r, q⟩ => ⟨I1.kIn, ?_⟩) he hpl
 have r2 : Vals (vs ++ dvs) (us ++ ds) := r.append hd
 have hl : (us ++ ds).length = ps.length := by rw [← r2.length]; exact F.len _ _ _ _ q
 refine wpAny_call (codeAny_mono (F.run X.A X.stack s1 H1 ⟨us, []⟩ (us ++ ds) (vs ++ dvs) Q _ hr I1.env0 (hb s1 us I1.kIn hl) r2 q) fun r s' hq => ?_)
 cases r with
 | error ev =>
  obtain ⟨e, cls, H', rfl, Fl, hE⟩ := hq
  exact ⟨e, cls, H1, H', s1, rfl, I1, Fl, hE⟩
 | ok fl =>
  cases fl with
  | ret u => exact I1.after hq
  | next => exact False.elim hq
  | brk => exact False.elim hq
  | cont => exact False.elim hq
noncomputable def xDrop (te : TEx) : TSx := fun D EX σ H => te σ H (fun _ H1 => D.nx σ H1) EX
noncomputable def xSet (i : Nat) (te : TEx) : TSx := fun D EX σ H => te σ H (fun v H1 => D.nx (σ.set i (some v)) H1) EX
theorem psx_set {te : TEx} {i : Nat} {x : Str} {pos pos' : Pos} (hN : X.N.Nodup) (hi : X.N[i]? = some x) (hx : Loc X.env.scope x) (he : PEx X e te) (hs : swapsWith e (some (.Name x pos')) pos.line X.env = pure false := by rfl)
  (hf : X.fn x = true ∨ X.env.scope.names.lookup x = some .local := by first | exact .inl rfl | exact .inr rfl | assumption) : PSx X [.Assign [.Name x pos'] e pos] (xSet i te) := by
 intro pins s σ H D EX I h
 refine wpAny_execs_cons (wpAny_Assign_Name (thn (he pins s σ H _ EX I h) fun v s1 ⟨y, H1, I1, r1, q1⟩ => ?_) hs)
 exact store_ok I1 hN hi hx r1 (fun s2 I2 => wpAny_execs_nil ⟨_, H1, I2, q1⟩) hf
end

noncomputable def excO (e : Addr) (cls : Value) : HO := .ext fun h => ∃ ob, h.get? e = some ob ∧ ob.cls = cls ∧ ob.dict = none ∧ ∃ vs, ob.data = .fields vs
theorem excO_ok {P : Program} {w : World} {H : Hp} {h : Heap} {e : Addr} {cls : Value} {ob : Obj} {vs : Array Value} (q : h.get? e = some ob) (c : ob.cls = cls) (d : ob.dict = none) (f : ob.data = .fields vs) : ObjOk P w H h e (excO e cls) :=
 ⟨⟨ob, q, c, d, vs, f⟩, ⟨ob, q⟩, fun h1 h2 ⟨o, e1, e2⟩ k => ⟨o, k o e1, e2⟩⟩
noncomputable abbrev Cx.hand (X : Cx) (e : Addr) : Cx := { X with A := X.A.mark (some (.ref e)), calm := false, xe := fun _ _ => False }
section
variable {X : Cx} {pins : List (Addr × Obj)} {σ : St} {H : Hp} {s : Shared}
theorem Cx.Ok.hand (ok : X.Ok) (e : Addr) : (X.hand e).Ok :=
 ⟨ok.mod, ok.kind, ok.glob, ok.blt, ok.above, ok.inj, ok.has, ok.cab, fun z => Bool.noConfusion z, ok.frames, ok.stk, ok.exf, ok.bs, ok.bsz, ok.noex, ok.exfs, ok.funs, ok.frf⟩
theorem Inv.hand (I : Inv X pins σ H s) (e : Addr) : Inv (X.hand e) pins σ H s := ⟨I.ok.hand e, I.os, I.bare, I.base, I.loc, I.cell, I.free, I.freeC, I.pin, I.hok, I.len⟩
theorem Inv.unhand {e : Addr} (ok : X.Ok) (I : Inv (X.hand e) pins σ H s) : Inv X pins σ H s := ⟨ok, I.os, I.bare, I.base, I.loc, I.cell, I.free, I.freeC, I.pin, I.hok, I.len⟩
theorem Inv.adopt {a : Addr} {o : HO} (I : Inv X pins σ H s) (n : H a = none) (h1 : X.s₀.heap.get? a = none) (h2 : a ≠ X.env.locals) (h3 : ∀ x c, X.env.cells.lookup x = some c → c ≠ a) (h4 : ∀ p ∈ X.pn ++ pins, p.1 ≠ a)
  (ok : ∀ H', ObjOk X.prog X.w H' s.heap a o) : Inv X pins σ (upd H a o) s := by
 have ne : ∀ b u, H b = some u → b ≠ a := fun b u e z => by rw [z, n] at e; cases e
 refine ⟨I.ok, I.os, I.bare, ⟨I.base.keep, I.base.slot, fun b ob e nb hx => ?_, I.base.there, fun b xs e => ?_, fun b ob u e => ?_, fun b ps e => ?_⟩, I.loc, I.cell, ?_, fun x c e => ?_, fun p hp => ?_, fun b u e => ?_, I.len⟩
 ·rw [upd_ne (fun z => by rw [z, h1] at e; cases e)]; exact I.base.free b ob e nb hx
 ·have := I.base.tups b xs e
  rw [upd_ne (ne b _ this)]; exact this
 ·have := I.base.frzs b ob u e
  rw [upd_ne (ne b _ this)]; exact this
 ·obtain ⟨m, q⟩ := I.base.tbls b ps e
  exact ⟨m, by rw [upd_ne (ne b _ q)]; exact q⟩
 ·rw [upd_ne (Ne.symm h2)]; exact I.free
 ·rw [upd_ne (h3 x c e)]; exact I.freeC x c e
 ·obtain ⟨e, q, r⟩ := I.pin p hp
  exact ⟨e, by rw [upd_ne (h4 p hp)]; exact q, r⟩
 ·by_cases hb : b = a
  ·subst hb
   rw [upd_same] at e; cases e
   exact ok _
  ·rw [upd_ne hb] at e
   exact (I.hok b u e).stay (fun _ _ _ q => q) (fun c q => by rw [upd_ne (ne c _ q)]; exact q) fun c xs q => by rw [upd_ne (ne c _ q)]; exact q
theorem Inv.goes {i : Nat} {n : Str} {m : Str → Option Value} {h' : Heap} {v : Option Value} {t' : Nat} (I : Inv X pins σ H s) (hN : X.N.Nodup) (hi : X.N[i]? = some n) (hn : s.heap.Ns X.env.locals m)
  (hl : ∀ (j : Nat) (x : Str) (v : V), X.N[j]? = some x → σ[j]? = some (some v) → Vis X.env.scope x → ∃ u, RelV v u ∧ Look X.env s.heap m x u)
  (hn' : h'.Ns X.env.locals (fun x => if x = n then v else m x)) (hs : Heap.SameBut X.env.locals s.heap h') : Inv X pins (σ.set i none) H { s with heap := h', toks := t' } := by
 have hiσ : i < σ.length := by rw [I.len]; exact (List.getElem?_eq_some_iff.mp hi).1
 have cne := I.cne
 have trk : HOk X.prog X.w H h' := fun b ob e => by
  refine (I.hok b ob e).stay (fun c w' hc q => (hs.2 c ?_).trans q) (fun _ q => q) fun _ _ q => q
  rintro rfl
  rcases hc with rfl | hc
  ·rw [I.free] at e; cases e
  ·rw [I.free] at hc; cases hc
 refine ⟨I.ok, I.os, I.bare, ⟨fun b o e n hb hx => ?_, fun b o e n hb hx => ?_, I.base.free, fun b o e hx => ?_, I.base.tups, I.base.frzs, I.base.tbls⟩, ⟨_, hn', fun j y v' e1 e2 e3 => ?_⟩, fun y c e => ?_, I.free, I.freeC, fun p hp => ?_, trk, by simpa using I.len⟩
 ·exact (hs.2 b (Nat.ne_of_lt (Nat.lt_of_lt_of_le (Heap.lt_size e) I.ok.above))).trans (I.base.keep b o e n hb hx)
 ·obtain ⟨sl, e1⟩ := I.base.slot b o e n hb hx
  exact ⟨sl, (hs.2 b (Nat.ne_of_lt (Nat.lt_of_lt_of_le (Heap.lt_size e) I.ok.above))).trans e1⟩
 ·obtain ⟨o', e1⟩ := I.base.there b o e hx
  exact ⟨o', (hs.2 b (Nat.ne_of_lt (Nat.lt_of_lt_of_le (Heap.lt_size e) I.ok.above))).trans e1⟩
 ·by_cases hj : j = i
  ·subst hj
   rw [List.getElem?_set_self hiσ] at e2
   cases e2
  ·rw [List.getElem?_set_ne (Ne.symm hj)] at e2
   obtain ⟨u', r', q⟩ := hl j y v' e1 e2 e3
   refine ⟨u', r', ?_⟩
   rcases q with ⟨k, e⟩ | ⟨k, c, e, z⟩
   ·refine .inl ⟨k, ?_⟩
    have : y ≠ n := fun e => hj (nodup_ix hN e1 (e ▸ hi))
    simp [this, e]
   ·exact .inr ⟨k, c, e, z.sameBut hs (cne y c e)⟩
 ·obtain ⟨w', z⟩ := I.cell y c e
  exact ⟨w', z.sameBut hs (cne y c e)⟩
 ·obtain ⟨e, n, ne, nf, d⟩ := I.pin p hp
  exact ⟨(hs.2 p.1 ne).trans e, n, ne, nf, d⟩
end

noncomputable def NameIs (X : Cx) (x : Str) (np : Pos) (c : Value) : Prop := ∀ (pins : List (Addr × Obj)) (σ : St) (H : Hp) (s : Shared) (Q : Value → Shared → Prop) (E : Value → Shared → Prop), Inv X pins σ H s → Q c s → wpAny (model X.prog X.w) X.A (eval (.Name x np) X.env) Q E s
theorem nameIs_own {X : Cx} {x : Str} {np : Pos} {c : Value} (hg : Gl X x) (hm : X.mg x = some c) (hd : (x == ("__debug__" : Str)) = false := by decide) : NameIs X x np c := fun _ _ _ _ _ _ I q => ld_glob I hg hm q hd

noncomputable def tTryAs (i : Nat) (hit : Value → Prop) (t : TSx) (th : TS) : TS := fun D σ H => t D (fun cls H' => hit cls ∧ ∀ e, H' e = none →
 th { nx := fun σ' H' => D.nx (σ'.set i none) H', rt := D.rt, bk := fun σ' H' => D.bk (σ'.set i none) H', ct := fun σ' H' => D.ct (σ'.set i none) H' } (σ.set i (some (.ref e))) (upd H' e (excO e cls))) σ H
theorem ps_tryAs {X : Cx} {body suite : List Stmt} {b₀ : Stmt} {x n : Str} {np hp pos : Pos} {i : Nat} {c : Value} {t : TSx} {th : TS} {L : Addr} (ht : PSx X body t) (hst : X.stack = X.env :: X.outer) (hfr : X.env.frame = some L) (hex : X.ex = [])
  (hcl : ∀ e, NameIs (X.hand e) x np c) (hN : X.N.Nodup) (hi : X.N[i]? = some n) (hl : X.env.scope.names.lookup n = some .local)
  (hs : ∀ e, PSs (X.hand e) (b₀ :: suite) th) :
  PS X (.Try body [.ExceptHandler (some (.Name x np)) (some n) (b₀ :: suite) hp] [] [] pos) (tTryAs i (fun cls => PySem.W.exmOne X.K cls c = some true) t th) := by
 intro pins s σ H D I h
 refine wpAny_Try_except (wpAny_mono (ht pins s σ H D _ I h) (fun f s1 q => ?_) (fun ev s1 hx => ?_))
 ·cases f with
  | next => exact wpAny_execs_nil q
  | ret u => exact q
  | brk => exact q
  | cont => exact q
 ·obtain ⟨e, cls, H0, H', s0, rfl, I0, F, hit, hth⟩ := hx
  obtain ⟨B, tt, fl, cov⟩ := F.fly
  have frames := I.ok.frames
  rw [hst] at fl frames
  refine wpAny_mono (tame_any (tame_noteFrame _ _) (wpAny_looks_onW (E := fun _ _ => False) (Q := fun _ s2 => ∃ h1, s2 = { s1 with heap := h1 } ∧ Heap.HeldW B (X.env :: X.outer) e cls (.ref tt) L h1 ∧ s1.heap.UpToSlots h1) frames hfr fl fun h1 hd1 sm1 => ⟨h1, rfl, hd1, sm1⟩)) (fun _ s2 h2' => ?_) fun _ _ h3 => h3.1.elim
  obtain ⟨⟨h1, rfl, hd1, sm1⟩, kd1⟩ := h2'
  refine wpAny_mono (tame_any (tame_setFlight _ _) (wpAny_landsW (E := fun _ _ => False) (Q := fun _ s3 => ∃ h2, s3 = { s1 with heap := h2 } ∧ Heap.FlyingW B (X.env :: X.outer) e cls (.ref tt) h2 ∧ h1.UpToSlots h2) hd1 fun h2 fl2 sm2 => ⟨h2, rfl, fl2, sm2⟩)) (fun _ s3 h3' => ?_) fun _ _ h3 => h3.1.elim
  obtain ⟨⟨h2, rfl, fl2, sm2⟩, kd2⟩ := h3'
  have nd2 : ∀ o, h2.get? e = some o → o.dict = none := fun o q => by
   obtain ⟨ob, hob, _⟩ := fl.there
   exact ((kd1.trans kd2).at hob q).1.trans (F.nd ob hob)
  obtain ⟨un, hok, cov2⟩ := F.moved (by rw [hst]; exact fl) cov fl2.1 (sm1.trans sm2)
  have nx : ∀ b ∈ ([] : List Addr), (b ∈ X.ex ∨ X.s₀.heap.objs.size ≤ b) ∧ b ≠ X.env.locals ∧ (∀ x c, X.env.cells.lookup x = some c → c ≠ b) ∧ ∀ p ∈ X.pn ++ pins, p.1 ≠ b := fun b hb => by cases hb
  have I2 : Inv X pins σ H' { s1 with heap := h2 } := I0.call' F.os un hok F.bare nx
  have F2 : Fly X.prog X.w X.stack H0 s0 e cls H' { s1 with heap := h2 } := ⟨F.os, F.bare, un, hok, ⟨B, tt, by rw [hst]; exact fl2, cov2⟩, F.new, F.free, nd2⟩
  refine wpAny_handleBy_cons (codeAny_handlers_test (hcl e pins σ H' _ _ _ (I2.hand e) ?_)) (by intro q; cases q)
  have ty : PySem.W.Looks (model X.prog X.w) h2 (typeOf (.ref e)) cls := by
   obtain ⟨ob, hob, hc⟩ := fl2.there
   subst hc
   exact (PySem.W.Looks.ld hob).andThen .now
  refine (PySem.W.exm_one I2.kIn ty hit).here ?_
  show codeAny _ _ _ _ _
  refine codeAny_handlers_suite_as (wpAny_mono (tame_any (tame_setFlight _ _) (lands_againW (E := fun _ _ => False) (Q := fun _ s3 => ∃ h3, s3 = { s1 with heap := h3 } ∧ Heap.FlyingW B (X.env :: X.outer) e cls (.ref tt) h3 ∧ h2.UpToSlots h3) fl2 fun h3 fl3 sm3 => ⟨h3, rfl, fl3, sm3⟩)) (fun _ s3 h3' => ?_) fun _ _ h3 => h3.1.elim)
  obtain ⟨⟨h3, rfl, fl3, sm3⟩, kd3⟩ := h3'
  obtain ⟨un3, hok3, cov3⟩ := F2.moved (by rw [hst]; exact fl2) cov2 fl3.1 sm3
  have I3 : Inv X pins σ H' { s1 with heap := h3 } := I0.call' F.os un3 hok3 F.bare nx
  obtain ⟨ob3, vs3, hob3, hc3, hf3, _⟩ := fl3.first
  have nd3 : ob3.dict = none := by
   obtain ⟨ob, hob, _⟩ := fl2.there
   exact (kd3.at hob hob3).1.trans (nd2 ob hob)
  have old : ∀ b o, s0.heap.get? b = some o → b ≠ e := fun b o q z => by
   have := F.new
   rw [← z, q] at this; cases this
  obtain ⟨m0, ⟨oL, esL, epL, hoL, _⟩, _⟩ := id I0.loc
  have I4 : Inv X pins σ (upd H' e (excO e cls)) { s1 with heap := h3 } := by
   refine I3.adopt F.free ?_ (Ne.symm (old _ _ hoL)) (fun y c' ec => ?_) (fun p hp' => old _ _ (I0.pin p hp').1) fun _ => excO_ok hob3 hc3 nd3 hf3
   ·cases q : X.s₀.heap.get? e with
    | none => rfl
    | some o =>
     obtain ⟨o', q'⟩ := I0.base.there e o q (by rw [hex]; simp)
     exact absurd rfl (old _ _ q')
   ·obtain ⟨v, o, q, _⟩ := I0.cell y c' ec
    exact old _ _ q
  have hth' := hth e F.free
  refine store_ok (X := X.hand e) (I4.hand e) hN hi (.inl hl) (v := .ref e) rfl (fun s5 I5 => ?_) (.inr hl)
  refine wpAny_mono (hs e pins s5 _ _ _ I5 hth') (fun f s6 q6 => ?_) fun _ _ z => z.elim
  have fin : ∀ {σ6 : St} {H6 : Hp} {R : Shared → Prop}, Inv (X.hand e) pins σ6 H6 s6 → (∀ s7, Inv X pins (σ6.set i none) H6 s7 → R s7) →
    wpAny (model X.prog X.w) X.A (do bindName X.env n .none; unbindBehindTheSuite X.env n hp) (fun _ s7 => R s7) X.xe s6 := fun {σ6 H6 R} I6 k => by
   obtain ⟨m6, hn6, hl6⟩ := id I6.loc
   refine wpAny_nameGoes_keeps hl hn6 (by rw [I.ok.kind]; rfl) fun h' v hn' hsb => k _ ?_
   exact (I6.unhand I.ok).goes hN hi hn6 hl6 hn' hsb
  cases f with
  | next =>
   obtain ⟨σ6, H6, I6, q⟩ := q6
   exact fin I6 fun s7 I7 => ⟨_, H6, I7, q⟩
  | brk =>
   obtain ⟨σ6, H6, I6, q⟩ := q6
   exact fin I6 fun s7 I7 => ⟨_, H6, I7, q⟩
  | cont =>
   obtain ⟨σ6, H6, I6, q⟩ := q6
   exact fin I6 fun s7 I7 => ⟨_, H6, I7, q⟩
  | ret u =>
   obtain ⟨v, σ6, H6, I6, r, q⟩ := q6
   exact fin I6 fun s7 I7 => ⟨v, _, H6, I7, r, q⟩
end L2
namespace L2
open PySem PySem.Spec PyProof.Rows
open PySem.Builtin.Int (intBits)

noncomputable def CMulB (i j : Int) : Prop := ∃ m n : Nat, intBits i ≤ m ∧ intBits j ≤ n ∧ m + n ≤ 134217728
noncomputable def CDivB (i j : Int) : Prop := j ≠ 0 ∧ intBits j ≤ 9000
section
variable {X : Cx}
theorem op_mulB : OpR X (binaryOp .Mult) (rI CMulB fun i j => .int (i * j)) := opI fun _ _ _ _ _ _ _ hc q => by
 obtain ⟨m, n, h1, h2, h3⟩ := hc
 exact mul_int q (IntMulOk.of_le h1 h2 h3)
theorem op_fdivB : OpR X (binaryOp .FloorDiv) (rI CDivB fun i j => .int (i.fdiv j)) := opI fun i j _ _ _ _ _ hc q => floordiv_int hc.1 q (.inl (PyProof.noPylong_of_log2 (by
 have h := PySem.intBits_le_iff.mp hc.2
 by_cases z : j.natAbs = 0
 ·rw [z]; decide
 ·exact (Nat.log2_lt z).mpr h)))


end
section
variable {prog : Program} {w : World} {A : Around} {E : Value → Shared → Prop} {s : Shared} {K : PySem.W.Frag} {x D : Addr} {ox : Obj}
theorem exc_ga_check {M : Model} {nameV : Value} {Q : Unit → Shared → Prop} (X : K.In s.heap) (I : PySem.W.InstAt s.heap x ox D none) (be : PySem.W.mroIn K D (.type "BaseException") = some true) (hq : Q () s) :
  wpAny M A (checkBuiltinCall "BaseException.__getattribute__" ⟨[.ref x, nameV], []⟩) Q E s := by
 obtain ⟨hh, g, d, t, os⟩ := s
 have hk : builtinKind "BaseException.__getattribute__" = some .slot := by decide +kernel
 have hsplit : splitId "BaseException.__getattribute__" = some ("BaseException", "__getattribute__") := by decide +kernel
 have L0 := I.type (M := M)
 have L1 := PySem.W.looks_mroIn (M := M) X be
 have ha := F.args_bexc_ga (.ref x) nameV
 simp only [checkBuiltinCall, hk, hsplit]
 refine wpAny_bind ?_
 unfold isInstance
 refine wpAny_bind (L0.at (L1.at ?_))
 repeat (first | wp_step)
 exact hq
theorem exc_class {Q : Option Value → Shared → Prop} (X : K.In s.heap) (I : PySem.W.InstAt s.heap x ox D none) (ga : PySem.W.findIn K (.ref D) "__getattribute__" = some (some (.builtin "BaseException.__getattribute__"))) (noga : PySem.W.findIn K (.ref D) "__getattr__" = some none)
  (be : PySem.W.mroIn K D (.type "BaseException") = some true) (hf : PySem.W.findObj K D none "__class__" = some (.bind (.builtin "getset_descriptor.__get__") (.builtin "object.__class__"))) (hm : PySem.W.mroIn K D (.type "object") = some true)
  (h : Q (some (.ref D)) { s with toks := s.toks + 1 }) : wpAny (model prog w) A (getAttr? (.ref x) "__class__") Q E s := by
 obtain ⟨hh, g, d, t, os⟩ := s
 have L0 := I.type (M := model prog w)
 have L1 := PySem.W.looks_findIn (M := model prog w) X ga
 have L2 := PySem.W.looks_findIn (M := model prog w) X noga
 have L3 := PySem.W.looks_find (M := model prog w) X I hf
 have hb := F.attrBase_ValueError.ga.bind (.ref x)
 unfold getAttr? getAttrBy? getAttrBy
 refine wpAny_bind (wpAny_mkText (wpAny_bind (wpAny_attempt (wpAny_holding (wpAny_bind (L0.at (wpAny_bind (L1.at ?_))))))))
 dsimp only
 rw [if_neg (show ¬ (onTheHeap (Value.ref D) && (Value.builtin "BaseException.__getattribute__" == Value.builtin "object.__getattribute__")) = true by rw [show (Value.builtin "BaseException.__getattribute__" == Value.builtin "object.__getattribute__") = false by decide +kernel]; simp)]
 unfold getAttrByItsOwn hookBefore
 refine wpAny_bind ?_
 show wpAny _ _ (typeLookup (.ref D) "__getattr__") _ _ _
 refine L2.at ?_
 refine wpAny_bind (wpAny_attempt (wpAny_holding ?_))
 unfold callGetattribute boundAndCalled
 rw [if_neg (by decide), hb]
 refine wpAny_bind (wpAny_pure ?_)
 dsimp only
 refine wpAny_call (codeAny_call_builtin F.attrBase_ValueError.ga.plain F.entry_bexc_ga (exc_ga_check (ox := ox) X I be ?_))
 unfold Builtin.«object.__getattribute__»
 refine wpAny_bind (wpAny_of_eq (show slotArgs "__getattribute__" 1 { pos := [Value.ref x] ++ [Value.str (Str.ofString "__class__") t] } = pure (.ref x, [Value.str (Str.ofString "__class__") t]) from rfl) ?_)
 dsimp only
 refine wpAny_bind (wpAny_of_eq (show Builtin.ObjectAttr.attrName (Value.str (Str.ofString "__class__") t) = pure (Str.ofString "__class__") from rfl) ?_)
 refine wpAny_bind (L0.at (wpAny_bind (L3.at ?_)))
 dsimp only
 show wpAny _ _ (do ret (← holding [Value.builtin "object.__class__"] (call (.builtin "getset_descriptor.__get__") [.builtin "object.__class__", .ref x, .ref D]))) _ _ _
 refine wpAny_bind (wpAny_holding (wpAny_call (PySem.W.class_get (ox := ox) (od := none) X I hm ?_)))
 exact wpAny_pure (PySem.W.handed_on rfl (wpAny_pure h))
end
section
variable {X : Cx}
structure ExcIs (K : PySem.W.Frag) (D : Addr) : Prop where
 ga : PySem.W.findIn K (.ref D) "__getattribute__" = some (some (.builtin "BaseException.__getattribute__"))
 noga : PySem.W.findIn K (.ref D) "__getattr__" = some none
 be : PySem.W.mroIn K D (.type "BaseException") = some true
 hc : (PySem.W.clsIn K D).isSome = true
 ha : PySem.W.findIn K (.ref D) "__class__" = some (some (.builtin "object.__class__"))
 hn : PySem.W.specialIn K (.builtin "object.__class__") "__get__" = some (some (.builtin "getset_descriptor.__get__"))
 htk : PySem.W.takesIn K (.builtin "object.__class__") = some true
 hm : PySem.W.mroIn K D (.type "object") = some true
theorem kitx_exc {K : PySem.W.Frag} {x D : Addr} (e : ExcIs K D) : PySem.W.KitX K (.ref x) (.ref D) (fun h => ∃ ox, PySem.W.InstAt h x ox D none) where
 ty := fun _ _ _ ⟨_, I⟩ => I.type
 it := fun _ _ X _ => by
  obtain ⟨cd, hcd⟩ := Option.isSome_iff_exists.mp e.hc
  unfold PySem.W.clsIn at hcd
  split at hcd
  ·rename_i ho
   intro A' Q' E' s' k q
   unfold isType loadHead
   exact wpAny_bind (wpAny_loadPart (k _ _ (X _ _ ho)) (wpAny_pure q))
  ·cases hcd
 ne := fun h tp dd its n sl X htp => by
  obtain ⟨cd, hcd⟩ := Option.isSome_iff_exists.mp e.hc
  refine Bool.eq_false_iff.mpr fun q => ?_
  have z : D = tp := Value.ref.inj (beq_iff_eq.mp q)
  subst z
  unfold PySem.W.clsIn at hcd
  split at hcd
  ·rename_i ho
   have y := (X _ _ ho).symm.trans htp
   cases y
  ·cases hcd
 ca := fun {_ _ _ _ _ s} X I k => by
  obtain ⟨ox, I⟩ := I
  obtain ⟨cd, hcd⟩ := Option.isSome_iff_exists.mp e.hc
  have hf : PySem.W.findObj K D none "__class__" = some (.bind (.builtin "getset_descriptor.__get__") (.builtin "object.__class__")) := by
   unfold PySem.W.findObj
   rw [hcd, Option.bind_some, e.ha, Option.bind_some]
   simp [e.hn, e.htk]
  exact exc_class X I e.ga e.noga e.be hf e.hm k

inductive TyX (K : PySem.W.Frag) (H : Hp) : V → Value → Prop where
 | of {x : V} {t : Value} (h : TyOf K H x t) : TyX K H x t
 | exc {e D : Addr} (h : H e = some (excO e (.ref D))) (k : ExcIs K D) : TyX K H (.ref e) (.ref D)
 | sqt {a : Addr} {xs : List V} (h : SqT K H a xs) : TyX K H (.ref a) (.type "tuple")
 | sql {a : Addr} {xs : List V} (h : SqL K H a xs) : TyX K H (.ref a) (.type "list")
theorem TyX.kit {pins : List (Addr × Obj)} {σ : St} {H : Hp} {s : Shared} {x : V} {u t : Value} (I : Inv X pins σ H s) (rx : RelV x u) (ty : TyX X.K H x t) : ∃ Hh, PySem.W.KitX X.K u t Hh ∧ Hh s.heap := by
 cases ty with
 | of ty =>
  cases ty with
  | non => cases (show u = Value.none from rx); exact ⟨_, PySem.W.kitx_none, True.intro⟩
  | bl y => cases (show u = Value.bool y from rx); exact ⟨_, PySem.W.kitx_bool, True.intro⟩
  | int i => obtain ⟨t, q⟩ := (show ∃ t, u = Value.int i t from rx); cases q; exact ⟨_, PySem.W.kitx_int, True.intro⟩
  | str y => obtain ⟨t, q⟩ := (show ∃ t, u = Value.str y t from rx); cases q; exact ⟨_, PySem.W.kitx_str, True.intro⟩
  | flt y => obtain ⟨t, q⟩ := (show ∃ t, u = Value.float y t from rx); cases q; exact ⟨_, PySem.W.kitx_float, True.intro⟩
  | @lst a xs ea =>
   cases (show u = Value.ref a from rx)
   obtain ⟨_, _, n, _, h1⟩ := (show ObjOk X.prog X.w H s.heap a (.lst xs) from I.hok a _ ea)
   exact ⟨_, PySem.W.kitx_list, ⟨_, h1, rfl⟩⟩
  | @frz a ob xs ea =>
   cases (show u = Value.ref a from rx)
   obtain ⟨_, _, _, n, _, h1⟩ := (show ObjOk X.prog X.w H s.heap a (.frz ob (.lst xs)) from I.hok a _ ea)
   exact ⟨_, PySem.W.kitx_list, ⟨_, h1, rfl⟩⟩
  | @tup a xs ea =>
   cases (show u = Value.ref a from rx)
   obtain ⟨_, _, _, p⟩ := (show ObjOk X.prog X.w H s.heap a (.tup xs) from I.hok a _ ea)
   obtain ⟨o, h1, h2, _⟩ := p
   exact ⟨_, PySem.W.kitx_tuple, ⟨o, h1, h2⟩⟩
  | @dK a kvs ea =>
   cases (show u = Value.ref a from rx)
   obtain ⟨_, _, vs, _, p⟩ := (show ObjOk X.prog X.w H s.heap a (.dK kvs) from I.hok a _ ea)
   obtain ⟨o, es, ep, h1, h2, _⟩ := p
   exact ⟨_, PySem.W.kitx_dict, ⟨o, h1, h2.1⟩⟩
  | @dT a kvs ea =>
   cases (show u = Value.ref a from rx)
   obtain ⟨_, _, xs, _, o, es, ep, h1, h2, _⟩ := (show ObjOk X.prog X.w H s.heap a (.dT kvs) from I.hok a _ ea)
   exact ⟨_, PySem.W.kitx_dict, ⟨o, h1, h2.1⟩⟩
  | @ins a C dx fs ea cl ha hn htk hm =>
   cases (show u = Value.ref a from rx)
   obtain ⟨mA, O, _⟩ := ins_get I.hok ea
   obtain ⟨od, J, _⟩ := O.look
   exact ⟨_, PySem.W.kitx_own (cl.get _) cl.hd ha hn htk hm, J⟩
 | @sqt a xs h =>
  cases (show u = Value.ref a from rx)
  obtain ⟨its, _, ⟨o, h1, h2, _⟩, _⟩ := I.tuple h
  exact ⟨_, PySem.W.kitx_tuple, ⟨o, h1, h2⟩⟩
 | @sql a xs h =>
  cases (show u = Value.ref a from rx)
  obtain ⟨its, _, ⟨o, n, h1, h2, _⟩, _⟩ := I.list h
  exact ⟨_, PySem.W.kitx_list, ⟨o, h1, h2⟩⟩
 | @exc e D h k =>
  cases (show u = Value.ref e from rx)
  obtain ⟨⟨ob, h1, h2, h3, vs, h4⟩, _⟩ := (show ObjOk X.prog X.w H s.heap e (excO e (.ref D)) from I.hok e _ h)
  refine ⟨_, kitx_exc k, ob, h1, h2, ?_, ?_⟩
  ·unfold PySem.W.notCls
   rw [h4]
  ·rw [h3]; trivial
noncomputable def clsV : V → Option Value
 | .ref a => some (.ref a)
 | .ty n => some (.type n)
 | _ => none
theorem clsV_rel {c : V} {cv u : Value} (h : clsV c = some cv) (r : RelV c u) : u = cv := by
 cases c with
 | ref a => cases h; exact r
 | ty n => cases h; exact r
 | _ => cases h
theorem RelV.nb {x : V} {u : Value} (r : RelV x u) : u ≠ .builtin "__main__.__loader__#opaque" := by
 cases x with
 | non => rintro rfl; cases r
 | bl b => rintro rfl; cases r
 | int i => rintro rfl; obtain ⟨_, q⟩ := r; cases q
 | str i => rintro rfl; obtain ⟨_, q⟩ := r; cases q
 | byt i => rintro rfl; obtain ⟨_, q⟩ := r; cases q
 | flt i => rintro rfl; obtain ⟨_, q⟩ := r; cases q
 | ref a => rintro rfl; cases r
 | ty a => rintro rfl; cases r
noncomputable def rIsi (K : PySem.W.Frag) : List V → Hp → VK → Prop := fun xs H Q => ∃ x c cv t b, xs = [x, c] ∧ clsV c = some cv ∧ TyX K H x t ∧ PySem.W.kitOne K t cv = some b ∧ Q (.bl b) H
theorem call_isi : CallR X (.builtin "isinstance") (rIsi X.K) := by
 intro pins s σ H xs us Q I r h
 obtain ⟨x, c, cv, t, b, rfl, hc, ty, e, q⟩ := h
 obtain ⟨u, w', rfl, ru, rw'⟩ := vals2 r
 obtain rfl := clsV_rel hc rw'
 obtain ⟨Hh, Z, p⟩ := ty.kit I ru
 exact PySem.W.kia_one Z I.kIn p e ru.nb fun tk => ⟨.bl b, H, I.tok tk, rfl, q⟩
noncomputable def rIsiT (K : PySem.W.Frag) : List V → Hp → VK → Prop := fun xs H Q => ∃ x tp cs its t b, xs = [x, .ref tp] ∧ H tp = some (.tup cs) ∧ cs.map clsV = its.map some ∧ TyX K H x t ∧ PySem.W.kitAny K t its = some b ∧ Q (.bl b) H
theorem clsVs_rel : ∀ {cs : List V} {its us : List Value}, cs.map clsV = its.map some → Vals cs us → us = its
 | [], its, _, h, .nil => by
  cases its with
  | nil => rfl
  | cons a r => cases h
 | c :: cs, its, _, h, .cons r rr => by
  cases its with
  | nil => cases h
  | cons a l =>
   rw [List.map_cons, List.map_cons] at h
   injection h with h1 h2
   rw [clsV_rel h1 r, clsVs_rel h2 rr]
theorem call_isiT : CallR X (.builtin "isinstance") (rIsiT X.K) := by
 intro pins s σ H xs us Q I r h
 obtain ⟨x, tp, cs, its, t, b, rfl, ht, hc, ty, e, q⟩ := h
 obtain ⟨u, w', rfl, ru, rw'⟩ := vals2 r
 cases (show w' = Value.ref tp from rw')
 obtain ⟨Hh, Z, p⟩ := ty.kit I ru
 obtain ⟨_, its', rv, o, h1, h2, n, h3⟩ := (show ObjOk X.prog X.w H s.heap tp (.tup cs) from I.hok tp _ ht)
 obtain rfl := clsVs_rel hc rv
 obtain ⟨oc, od, oda, osl⟩ := o
 obtain rfl : oc = _ := h2
 obtain rfl : oda = _ := h3
 exact PySem.W.kia_tup Z I.kIn p h1 e ru.nb fun tk => ⟨.bl b, H, I.tok tk, rfl, q⟩
end
theorem kit_same {K : PySem.W.Frag} {t : Value} : PySem.W.kitOne K t t = some true := by unfold PySem.W.kitOne; rw [if_pos (by simp)]
theorem kit_bool_int {K : PySem.W.Frag} : PySem.W.kitOne K (.type "bool") (.type "int") = some true := by
 have h : (fastBuiltinMro "bool").map (·.contains (.type "int")) = some true := by decide +kernel
 have hm : PySem.W.kitMeta "int" = true := by decide +kernel
 unfold PySem.W.kitOne PySem.W.kitCls
 rw [if_neg (by decide)]
 show (if PySem.W.kitMeta "int" = true then PySem.W.subIn K (.type "bool") (.type "int") else none) = _
 rw [if_pos hm]
 exact h
theorem kit_int_bool {K : PySem.W.Frag} : PySem.W.kitOne K (.type "int") (.type "bool") = some false := by
 have h : (fastBuiltinMro "int").map (·.contains (.type "bool")) = some false := by decide +kernel
 have hm : PySem.W.kitMeta "bool" = true := by decide +kernel
 unfold PySem.W.kitOne PySem.W.kitCls
 rw [if_neg (by decide)]
 show (if PySem.W.kitMeta "bool" = true then PySem.W.subIn K (.type "int") (.type "bool") else none) = _
 rw [if_pos hm]
 exact h
end L2
namespace L2
open PySem PySem.Spec PyProof.Rows

inductive D where
 | non | bl (b : Bool) | int (i : Int) | str (x : Str) | tup (l : List D) | lst (l : List D) | ins (C : Addr) (ns : List Str) (l : List D)
mutual
inductive Is (K : PySem.W.Frag) (H : Hp) : V → D → Prop where
 | non : Is K H .non .non
 | bl (b : Bool) : Is K H (.bl b) (.bl b)
 | int (i : Int) : Is K H (.int i) (.int i)
 | str (x : Str) : Is K H (.str x) (.str x)
 | tup {a : Addr} {xs : List V} {ds : List D} : SqT K H a xs → IsL K H xs ds → Is K H (.ref a) (.tup ds)
 | lst {a : Addr} {xs : List V} {ds : List D} : SqL K H a xs → IsL K H xs ds → Is K H (.ref a) (.lst ds)
 | ins {a C dx : Addr} {ns : List Str} {xs : List V} {ds : List D} : H a = some (.ins C dx (ns.zip xs)) → ns.length = xs.length → IsL K H xs ds → Is K H (.ref a) (.ins C ns ds)
inductive IsL (K : PySem.W.Frag) (H : Hp) : List V → List D → Prop where
 | nil : IsL K H [] []
 | cons {v : V} {d : D} {vs : List V} {ds : List D} : Is K H v d → IsL K H vs ds → IsL K H (v :: vs) (d :: ds)
end
theorem same_upd {H : Hp} {p : Addr} {o : HO} (h : H p = none) : Same H (upd H p o) := fun b u e => by rw [upd_ne (ne_of_none e h)]; exact e
theorem IsL.len {K : PySem.W.Frag} {H : Hp} : ∀ {vs : List V} {ds : List D}, IsL K H vs ds → vs.length = ds.length
 | _, _, .nil => rfl
 | _, _, .cons _ l => by rw [List.length_cons, List.length_cons, l.len]
theorem IsL.get {K : PySem.W.Frag} {H : Hp} : ∀ {vs : List V} {ds : List D} {i : Nat} {d : D}, IsL K H vs ds → ds[i]? = some d → ∃ v, vs[i]? = some v ∧ Is K H v d
 | _, _, _, _, .nil, e => by simp at e
 | _, _, 0, _, .cons h _, e => by simp at e; subst e; exact ⟨_, rfl, h⟩
 | _, _, i + 1, d, .cons _ l, e => by
  obtain ⟨v, e1, e2⟩ := l.get (i := i) (d := d) (by simpa using e)
  exact ⟨v, by simpa using e1, e2⟩
theorem Is.int_inv {K : PySem.W.Frag} {H : Hp} {v : V} {i : Int} (h : Is K H v (.int i)) : v = .int i := by cases h; rfl
theorem Is.bl_inv {K : PySem.W.Frag} {H : Hp} {v : V} {b : Bool} (h : Is K H v (.bl b)) : v = .bl b := by cases h; rfl
theorem Is.str_inv {K : PySem.W.Frag} {H : Hp} {v : V} {b : Str} (h : Is K H v (.str b)) : v = .str b := by cases h; rfl
theorem Is.non_inv {K : PySem.W.Frag} {H : Hp} {v : V} (h : Is K H v .non) : v = .non := by cases h; rfl
theorem Is.tup_inv {K : PySem.W.Frag} {H : Hp} {v : V} {ds : List D} (h : Is K H v (.tup ds)) : ∃ a xs, v = .ref a ∧ SqT K H a xs ∧ IsL K H xs ds := by cases h with | tup a b => exact ⟨_, _, rfl, a, b⟩
theorem Is.lst_inv {K : PySem.W.Frag} {H : Hp} {v : V} {ds : List D} (h : Is K H v (.lst ds)) : ∃ a xs, v = .ref a ∧ SqL K H a xs ∧ IsL K H xs ds := by cases h with | lst a b => exact ⟨_, _, rfl, a, b⟩

noncomputable abbrev dQ (a b : Int) : D := .tup [.int a, .int b]


section
variable {σ : St} {H : Hp} {Q : VK} {ta tb tc : TE} {D' : Ends} {v : V} {i : Nat}
end
local macro_rules | `(tactic| walk_at "rd") => `(tactic| repeat (first | refine i_seq ?_ | refine i_asg ?_ | refine i_gName ?_ | refine i_var rfl ?_ | refine i_c ?_ | refine i_op ?_ | refine i_I0 ?_ | refine i_U ?_ | refine i_un ?_ | refine i_cmp ?_ | refine i_2 ?_ | refine i_B ?_ | refine i_bl ?_ | refine i_not ?_ | refine i_and ?_ | refine i_or ?_ | refine i_andV ?_ | refine i_orV ?_ | refine i_notV ?_ | refine i_ifE ?_ | refine i_next ?_ | refine i_drop ?_ | refine i_ret ?_ | refine i_retN ?_ | refine i_ifS ?_ | refine i_nil ?_ | refine i_cons ?_ | refine i_call ?_ | refine i_CB ?_ | refine i_tup ?_ | refine i_lst ?_ | refine i_par ?_ | refine i_par2 ?_ | refine i_raise ?_))
end L2
namespace L2
open PySem PySem.Spec PyProof.Rows
section
variable {σ : St} {H : Hp} {Q : VK} {D' : Ends} {E : XK}
end
theorem Fun.okE {P : Program} {w : World} {K : PySem.W.Frag} {mg : Str → Option Value} {base : Heap} {x qual : Str} {st : Stmt} {f : Addr} {fd : FuncData} {N ps : List Str} {k : Nat} {sp : Sp} (F : Fun K x qual st f fd) (S : FnScope N ps (defScope st)) (len : ∀ vs H Q E, sp vs H Q E → vs.length = ps.length)
  (hbody : ∀ (cdv : Value) (A : Around) (outer : List Env) (s : Shared) (H : Hp) (vs : List V) (Q : VK) (E : XK), Room k (A.deeper (envOfC qual (defScope st) s.heap.objs.size f cdv)) → sp vs H Q E →
   ∃ t, PSs (cxOf (CXE P w) P w K mg base N qual (defScope st) f cdv A outer s H E) (defBody st) t ∧ t { nx := fun _ H' => Q .non H', rt := Q } (start N vs) H) : FnOk P w K mg base (CXE P w) (k + 1) f fd ps sp := by
 obtain ⟨oc, od, kV, doc, pm, an, cdv, ct, osl, rfl, lk, hcd⟩ := F.ex
 exact fn_of lk hcd S len fun A outer s H vs Q E hr hsp => hbody cdv A outer s H vs Q E hr hsp
theorem exm_of {K : PySem.W.Frag} {C D : Addr} {b : Bool} (h1 : PySem.W.mroIn K D (.type "BaseException") = some true) (h2 : (PySem.W.clsIn K D).isSome = true) (h3 : PySem.W.typeIn K (.ref D) = some (.type "type")) (h4 : PySem.W.mroIn K C (.ref D) = some b) :
  PySem.W.exmOne K (.ref C) (.ref D) = some b := by
 unfold PySem.W.exmOne
 have e : PySem.W.subIn K (.ref D) (.type "BaseException") = some true := h1
 rw [e, if_pos (by decide)]
 unfold PySem.W.kitCls
 show (if ((PySem.W.clsIn K D).isSome && PySem.W.typeIn K (.ref D) == some (.type "type")) = true then PySem.W.subIn K (.ref C) (.ref D) else none) = some b
 rw [h2, h3, if_pos (by decide)]
 exact h4
theorem kit_own {K : PySem.W.Frag} {C D : Addr} {b : Bool} (h2 : (PySem.W.clsIn K D).isSome = true) (h3 : PySem.W.typeIn K (.ref D) = some (.type "type")) (h4 : PySem.W.mroIn K C (.ref D) = some b) (h5 : C = D → b = true) :
  PySem.W.kitOne K (.ref C) (.ref D) = some b := by
 unfold PySem.W.kitOne
 by_cases h : C = D
 ·rw [if_pos (by simp [h]), h5 h]
 ·rw [if_neg (by simp [h])]
  unfold PySem.W.kitCls
  show (if ((PySem.W.clsIn K D).isSome && PySem.W.typeIn K (.ref D) == some (.type "type")) = true then PySem.W.subIn K (.ref C) (.ref D) else none) = some b
  rw [h2, h3, if_pos (by decide)]
  exact h4
end L2
namespace L2
open PySem PySem.Spec PyProof.Rows
section
variable {σ : St} {H : Hp} {Q : VK} {D' : Ends} {E : XK} {EX : Value → Hp → Prop}
end
end L2
namespace L2
open PySem PySem.Spec PyProof.Rows
section
variable {X : Cx} {K : PySem.W.Frag}
theorem ix_tupK (h : X.K = K := by rfl) : IxR X (rIxT K) := h ▸ ix_tup
theorem ix_listK (h : X.K = K := by rfl) : IxR X (rIxL K) := h ▸ ix_list
theorem call_isiK (h : X.K = K := by rfl) : CallR X (.builtin "isinstance") (rIsi K) := h ▸ call_isi
theorem call_isiTK (h : X.K = K := by rfl) : CallR X (.builtin "isinstance") (rIsiT K) := h ▸ call_isiT
theorem call_lenK (h : X.K = K := by rfl) : CallR X (.builtin "len") (fun xs H Q => ∃ p ys, xs = [.ref p] ∧ (SqL K H p ys ∨ SqT K H p ys) ∧ Q (.int ys.length) H) := h ▸ call_len_seq
theorem call_tupleK (h : X.K = K := by rfl) : CallR X (.type "tuple") (fun xs H Q => ∃ p ys, xs = [.ref p] ∧ ((SqL K H p ys ∧ ∀ l, H l = none → Q (.ref l) (upd H l (.tup ys))) ∨ (SqT K H p ys ∧ Q (.ref p) H))) := h ▸ call_tuple_of
theorem sl_listK (h : X.K = K := by rfl) : SlR X (rSlL K) := h ▸ sl_list
variable {tg l : Expr} {tl : TE}
theorem pi_listK (hl : PE X l tl) (h : X.K = K := by rfl) : PI X tg l (iList K tl) := h ▸ pi_list hl
theorem pi_tupK (hl : PE X l tl) (h : X.K = K := by rfl) : PI X tg l (iTup K tl) := h ▸ pi_tup hl
theorem pg_tupK {es : List Expr} {k : Nat} {t : TGs} {n : Nat} {pos : Pos} (hc : X.calm = true) (h : PGs X es t) (hK : X.K = K := by rfl)
  (hn : (assignEach es X.env).length = n := by rfl) (hst : (assignEach es X.env).findIdx? (·.1) = none := by rfl) : PG X (.Tuple es k pos) (gTup K n t) := hK ▸ pg_tup hc h hn hst
theorem cap_nil {sc : Scope} : CapOk X sc [] [] := trivial
theorem cap_own {sc : Scope} {r : List (Option Nat)} {n : List Str} {x : Str} (h : CapOk X sc r n) : CapOk X sc (none :: r) (x :: n) := h
theorem cap_out {sc : Scope} {r : List (Option Nat)} {n : List Str} {x : Str} {i : Nat} (h1 : X.N[i]? = some x) (h2 : sc.names.lookup x = some .free) (h : CapOk X sc r n) : CapOk X sc (some i :: r) (x :: n) := ⟨⟨h1, h2⟩, h⟩
end
noncomputable def blkOk (osc sc : Scope) : Bool := sc.names.all (fun y => y.2 != .cell) && sc.kind == .function && sc.names.all (fun y => y.2 != .local || sc.names.lookup y.1 == some .local) &&
 sc.names.all (fun y => y.2 != .free || (osc.names.lookup y.1 == some .cell || osc.names.lookup y.1 == some .free))
theorem blk {X : Cx} {osc sc : Scope} (hs : X.env.scope = osc) (h : blkOk osc sc = true) : BlockOk X sc := by
 unfold blkOk at h
 simp only [Bool.and_eq_true, List.all_eq_true, bne_iff_ne, ne_eq, beq_iff_eq, Bool.or_eq_true] at h
 obtain ⟨⟨⟨h1, h2⟩, h3⟩, h4⟩ := h
 refine ⟨h1, h2, fun y hy e => (h3 y hy).resolve_left fun z => z e, fun y hy e => ?_⟩
 show X.env.scope.names.lookup y.1 = _ ∨ X.env.scope.names.lookup y.1 = _
 rw [hs]
 exact (h4 y hy).resolve_left fun z => z e
end L2
namespace L2
open PySem PySem.Spec PyProof.Rows
section
variable {g : TG} {tb : TS} {σ : St} {H : Hp} {nx : St → Hp → Prop} {rt : VK}
end
end L2
namespace L2
open PySem PySem.Spec PyProof.Rows

mutual
noncomputable def D.depth : D → Nat
 | .tup l => D.depths l + 1
 | .lst l => D.depths l + 1
 | .ins _ _ _ => 1000
 | _ => 0
noncomputable def D.depths : List D → Nat
 | [] => 0
 | d :: r => max (D.depth d) (D.depths r)
end
section
variable {X : Cx} {pins : List (Addr × Obj)} {σ : St} {H : Hp} {s : Shared}
end
end L2
namespace L2
open PySem PySem.Spec PyProof.Rows
section
variable {σ : St} {H : Hp} {Q : VK} {D' : Ends} {cap : List (Option Nat)} {wi : TI} {g : TG} {tt : TT} {te : TE}
variable {acc : Addr} {H0 : Hp} {Qh : Hp → Prop}
end
end L2
namespace L2
open PySem PySem.Spec PyProof.Rows
section
variable {X : Cx}
end
end L2
namespace L2
open PySem PySem.Spec PyProof.Rows
section
variable {X : Cx} {pins : List (Addr × Obj)} {σ : List (Option V)} {H H' : Hp} {s : Shared} {h' : Heap}
theorem Inv.turnedL {t' : Nat} {fp : List Addr} (I : Inv X pins σ H s) (k : ∀ b o, b ∉ fp → s.heap.get? b = some o → h'.get? b = some o) (hf : ∀ b ∈ fp, FpOk X pins H b) : Inv X pins σ H { s with heap := h', toks := t' } := by
 have nit : ∀ b u, H b = some u → b ∉ fp := fun b u e z => by rw [(hf b z).1] at e; cases e
 refine I.step (g' := s.gens) (d' := s.drawn) (ch := fp) (fun b hb => ?_) (fun b o _ _ hc e _ => k b o hc e) (fun b o _ _ hc e _ => ⟨o.slots, k b o hc e⟩) (fun _ _ _ _ n => n)
  (fun b o hc e => ⟨o, k b o hc e⟩) (fun _ _ e => e) (fun _ _ _ e => e) (fun b ps e => ⟨#[], by rw [e]; simp⟩) (fun m hm => ?_) (fun b u e => ?_) I.bare
 ·obtain ⟨f0, f1, f2, f3, f4, f5⟩ := hf b hb
  exact ⟨f3, f1, f4, f5⟩
 ·obtain ⟨o, es, ep, ho, r⟩ := hm
  exact ⟨o, es, ep, k _ o (fun z => (hf _ z).2.1 rfl) ho, r⟩
 ·refine (I.hok b u e).stay (fun c v hc q => k c v ?_ q) (fun _ q => q) fun _ _ q => q
  rcases hc with z | z
  ·rw [z]; exact nit b u e
  ·exact nit c _ z
theorem Inv.turnedT {t' : Nat} {fp : List Addr} {ys : List V} {us : List Value} (I : Inv X pins σ H s) (hv : Vals ys us) (hl : ys.length ≤ sizeLine) (k : ∀ b o, b ∉ fp → s.heap.get? b = some o → h'.get? b = some o)
  (hp : h'.get? s.heap.objs.size = some { cls := .type "tuple", data := .seq us.toArray }) (hf : ∀ b ∈ fp, FpOk X pins H b) (hx : ∀ b ∈ fp, ∃ o, s.heap.get? b = some o) :
  Inv X pins σ (upd H s.heap.objs.size (.tup ys)) { s with heap := h', toks := t' } ∧ H s.heap.objs.size = none ∧ ∀ b ∈ fp, upd H s.heap.objs.size (.tup ys) b = none := by
 have fr : H s.heap.objs.size = none := I.hok.fresh (Nat.le_refl _)
 have nb : ∀ b ∈ fp, b ≠ s.heap.objs.size := fun b hb z => by
  obtain ⟨o, e⟩ := hx b hb
  exact absurd (Heap.lt_size e) (by rw [z]; exact Nat.lt_irrefl _)
 have fb : ∀ b ∈ fp, upd H s.heap.objs.size (.tup ys) b = none := fun b hb => by rw [upd_ne (nb b hb)]; exact (hf b hb).1
 have I0 : Inv X pins σ (upd H s.heap.objs.size (.tup ys)) { s with heap := s.heap.push { cls := .type "tuple", data := .seq us.toArray } } :=
  I.laid (t' := s.toks) (fun b o e => Heap.get?_push_of_some _ e) (Nat.le_refl _) ⟨hl, us, hv, IsTup.new _ _⟩
 refine ⟨Inv.turnedL (s := { s with heap := s.heap.push { cls := .type "tuple", data := .seq us.toArray } }) (t' := t') (fp := fp) I0 (fun b o hb e => ?_) (fun b hb => ?_), fr, fb⟩
 ·by_cases z : b = s.heap.objs.size
  ·subst z
   rw [Heap.get?_push_size _ rfl] at e
   cases e
   exact hp
  ·refine k b o hb ?_
   rwa [Heap.get?_push_ne _ _ _ z] at e
 ·obtain ⟨f0, f1, f2, f3, f4, f5⟩ := hf b hb
  exact ⟨fb b hb, f1, f2, f3, f4, f5⟩
end
end L2
namespace L2
open PySem PySem.Spec PyProof.Rows
section
variable {X : Cx}
end
structure ZA (z TI TO i1 i2 : Addr) : Prop where
 TIz : TI ≠ z
 TOz : TO ≠ z
 i1z : i1 ≠ z
 i2z : i2 ≠ z
 TITO : TI ≠ TO
 TIi1 : TI ≠ i1
 TIi2 : TI ≠ i2
 TOi1 : TO ≠ i1
 TOi2 : TO ≠ i2
 i12 : i1 ≠ i2
section
variable {X : Cx}
end
section
variable {σ : St} {H : Hp} {cap : List (Option Nat)} {g : TG} {tt : TT} {te : TE} {acc : Addr} {H0 : Hp} {Qh : Hp → Prop}
structure Pairs (J : It) (n : Nat) (f : Nat → Option (V × V)) (ok : Hp → Prop) : Prop where
 go : ∀ i H, ok H → i < n → J.go i H
 stop : ∀ H, ok H → J.stop n H
 yld : ∀ i H x H', ok H → i < n → J.yld i H x H' → ∃ p u v, x = .ref p ∧ H p = none ∧ H' = upd H p (.tup [u, v]) ∧ f i = some (u, v)
end
end L2
namespace L2
open PySem PySem.Spec PyProof.Rows
section
variable {σ : St} {H : Hp} {Q : VK} {D' : Ends}
end
section
variable {σ : St} {H : Hp} {Q : VK}
end
end L2
namespace L2
open PySem PySem.Spec PyProof.Rows
open Classical in
noncomputable def frG (H H' : Hp) : Hp := fun b => match H' b with
 | some (.lst xs) => if H b = none then some (.lst xs) else none
 | o => o
noncomputable def Dom (H H' : Hp) : Prop := ∀ b, H' b = none → H b = none
structure Acc (K : PySem.W.Frag) (H0 : Hp) (acc : Addr) (ys : List V) (ds : List D) (H : Hp) : Prop where
 at_ : H acc = some (.lst ys)
 new : IsL K (frG (upd H0 acc (.lst [])) H) ys ds
 same : Same H0 H
 dom : Dom (upd H0 acc (.lst [])) H
end L2
namespace L2
open PySem PySem.Spec PyProof.Rows
section
variable {X : Cx}
theorem preSum_eq (ns : List Int) : ∀ k, preSum (fun i => ns.getD i 0) k = (ns.take k).sum
 | 0 => by simp [preSum]
 | k + 1 => by
  unfold preSum
  rw [preSum_eq ns k, List.take_add_one, List.sum_append]
  cases h : ns[k]? <;> simp [List.getD_eq_getElem?_getD, h]
end
section
variable {σ : St} {H : Hp} {Q : VK}
end
end L2
namespace L2
open PySem PySem.Spec PyProof.Rows
section
variable {σ : St} {H : Hp} {v : V}
end
end L2
namespace L2
open PySem PySem.Spec PyProof.Rows PyProof
section
variable {X : Cx}
noncomputable def rIndex : V → List V → Hp → VK → Prop := fun x vs H Q => ∃ (l : Addr) (xs : List V) (y : V) (j : Nat), x = .ref l ∧ vs = [y] ∧ H l = some (.lst xs) ∧ flatV y = true ∧ xs.all flatV = true ∧ (∃ z, xs[j]? = some z ∧ eqV z y = true) ∧ (∀ m z, m < j → xs[m]? = some z → eqV z y = false) ∧ Q (.int (j : Int)) H
theorem mt_index : MtM X "list.index" rIndex := by
 intro pins s σ H x vs v us Q I rx rv h
 obtain ⟨l, xs, y, j, rfl, rfl, hH, fy, fs, ⟨z, hz1, hz2⟩, hno, q⟩ := h
 cases rx
 obtain ⟨u, rfl, ru⟩ := rv.one
 obtain ⟨zl, its, n, r, hl, e⟩ := I.lstM hH
 have hn := line63
 have hj : j < xs.length := (List.getElem?_eq_some_iff.1 hz1).1
 have fl : ∀ (m : Nat) (w : V), xs[m]? = some w → flatV w = true := fun m w hw => List.all_eq_true.1 fs w (List.mem_of_getElem? hw)
 have at_ : ∀ (m : Nat) (w : V) (hm : m < its.toArray.size), xs[m]? = some w → eqU y its.toArray[m] = eqV w y := fun m w hm hw => by
  obtain ⟨c, hc, rc⟩ := r.get hw
  have e1 : its.toArray[m] = c := by
   have e2 : its[m]? = some its[m] := List.getElem?_eq_getElem (by simpa using hm)
   rw [hc] at e2
   simpa using (Option.some.inj e2).symm
  rw [e1]
  exact eqU_of rc (fl m w hw)
 refine call_meets F.slot_list_index ⟨_, e, rfl⟩ F.entry_list_index (F.args_list_index_2 _ _) (SeqAt.list_indexAt l its.toArray n none #[] u (eqU y) j (by rw [List.size_toArray]; omega) (by omega) ?_ ?_) ⟨e, fun c hc => mem_eqAt ru fy r fs c (by simpa using hc), ?_⟩
 ·rw [at_ j z (by rw [List.size_toArray]; omega) hz1]
  exact hz2
 ·intro m hm hlt
  have hm' : m < xs.length := by omega
  rw [at_ m xs[m] hm (List.getElem?_eq_getElem hm')]
  exact hno m xs[m] hlt (List.getElem?_eq_getElem hm')
 ·exact ⟨.int j, H, I.tok _, ⟨_, rfl⟩, q⟩
noncomputable def rSlS : V → Option Int → Option Int → Hp → VK → Prop := fun x lo hi H Q => ∃ z, x = .str z ∧ z.length ≤ sizeLine ∧ Q (.str (Txt.slice z lo hi)) H
theorem sl_str : SlR X rSlS := by
 intro pins s σ H x v vl vu lo hi sl Q I rx hs pl pu h
 obtain ⟨z, rfl, hz, q⟩ := h
 obtain ⟨t, rfl⟩ := rx
 refine ⟨"str", _, F.slot_str_getitem.lookup, typeIs_str _ _ _, ?_⟩
 obtain ⟨l, hl1, hl2⟩ : ∃ l : Option (Int × Tok), vl = partValue l ∧ l.map (·.1) = lo := by
  cases pl with
  | none => exact ⟨none, rfl, rfl⟩
  | int i t => exact ⟨some (i, t), rfl, rfl⟩
 obtain ⟨u, hu1, hu2⟩ : ∃ l : Option (Int × Tok), vu = partValue l ∧ l.map (·.1) = hi := by
  cases pu with
  | none => exact ⟨none, rfl, rfl⟩
  | int i t => exact ⟨some (i, t), rfl, rfl⟩
 subst hl1 hu1 hl2 hu2
 exact wpAny_getItem_str_slice (l := l) (u := u) (st := none) hs rfl (post_val_or_str ⟨Nat.le_trans (Txt.slice_le z _ _) hz, fun t' k => ⟨.str _, H, I.tok _, ⟨_, rfl⟩, q⟩⟩)
theorem kit_no {K : PySem.W.Frag} {a b : String} (h1 : (Value.type a == Value.type b) = false) (h : (fastBuiltinMro a).map (·.contains (.type b)) = some false) (hm : PySem.W.kitMeta b = true) (hs : PySem.W.subIn K (.type a) (.type b) = (fastBuiltinMro a).map (·.contains (.type b))) : PySem.W.kitOne K (.type a) (.type b) = some false := by
 unfold PySem.W.kitOne PySem.W.kitCls
 rw [if_neg (by rw [h1]; decide)]
 show (if PySem.W.kitMeta b = true then PySem.W.subIn K (.type a) (.type b) else none) = _
 rw [if_pos hm, hs, h]
end
end L2
namespace L2
open PySem PySem.Spec PyProof.Rows
open AutoSeq1 (wpAny_loadPart')
section
variable {prog : Program} {w : World} {A : Around} {E : Value → Shared → Prop} {s : Shared}
theorem tit_at {h h' : Heap} {a t : Addr} {i : Nat} (x : IsTupIter h a t i) (e : ∀ o, h.get? a = some o → h'.get? a = some o) : IsTupIter h' a t i := let ⟨o, ho, r⟩ := x; ⟨o, e o ho, r⟩
theorem nextT {it t : Addr} {i : Nat} {its : Array Value} {x : Value} {Q : Value → Shared → Prop} (hit : IsTupIter s.heap it t i) (ht : IsTup s.heap t its) (hx : its[i]? = some x)
  (q : ∀ h', IsTupIter h' it t (i + 1) → Heap.SameBut it s.heap h' → Q x { s with heap := h' }) : wpAny (model prog w) A (Builtin.SmallTypes.nextOf (.ref it)) Q E s := by
 obtain ⟨io, hio, ic, ida⟩ := id hit
 obtain ⟨tob, hto, _, tn, tda⟩ := ht
 unfold Builtin.SmallTypes.nextOf
 refine wpAny_bind (wpAny_callSpecial?_slot (name := Str.ofString "__next__") hit.typeIs slot_tupleiter_next (wpAny_call_entry slot_tupleiter_next hit.typeIs entry_tupleiter_next ?_ (args_tupleiter_next _)))
 refine wpAny_bind (m := field (.ref it) 0) (wpAny_field hio ida (x := .ref t) rfl ?_)
 show wpAny _ _ (if (Value.ref t == Value.none) = true then _ else _) _ _ s; rw [if_neg (show ¬ ((Value.ref t == Value.none) = true) from Bool.false_ne_true)]
 refine wpAny_bind (m := field (.ref it) 1) (wpAny_field hio ida (x := .int i 0) rfl ?_)
 refine wpAny_bind (m := seqItems? (.ref t)) (wpAny_seqItems hto tda ?_)
 simp only [Int.toNat_natCast, hx]
 refine wpAny_bind (wpAny_setField hio ida (by simp) (wpAny_pure ⟨x, rfl, wpAny_pure (q _ ⟨_, Heap.get?_update_self _ hio (Obj.isFreed_of_fields (Obj.data_mapFields ida _)), (Obj.cls_mapFields ..).trans ic, ?_⟩ (Heap.SameBut.update ..))⟩))
 rw [Obj.data_mapFields ida]
 simp [rawInt]
theorem nextT_end {it t : Addr} {i : Nat} {its : Array Value} {Q : Value → Shared → Prop} (hh : A.handled = none) (hit : IsTupIter s.heap it t i) (ht : IsTup s.heap t its) (hx : its[i]? = none)
  (q : ∀ h' e, Heap.ExtBut it s.heap h' → (∃ o, h'.get? e = some o ∧ o.cls = .type "StopIteration") → E (.ref e) { s with heap := h' }) : wpAny (model prog w) A (Builtin.SmallTypes.nextOf (.ref it)) Q E s := by
 obtain ⟨io, hio, ic, ida⟩ := id hit
 obtain ⟨tob, hto, _, tn, tda⟩ := ht
 unfold Builtin.SmallTypes.nextOf
 refine wpAny_bind (wpAny_callSpecial?_slot (name := Str.ofString "__next__") hit.typeIs slot_tupleiter_next (wpAny_call_entry slot_tupleiter_next hit.typeIs entry_tupleiter_next ?_ (args_tupleiter_next _)))
 refine wpAny_bind (m := field (.ref it) 0) (wpAny_field hio ida (x := .ref t) rfl ?_)
 show wpAny _ _ (if (Value.ref t == Value.none) = true then _ else _) _ _ s; rw [if_neg (show ¬ ((Value.ref t == Value.none) = true) from Bool.false_ne_true)]
 refine wpAny_bind (m := field (.ref it) 1) (wpAny_field hio ida (x := .int i 0) rfl ?_)
 refine wpAny_bind (m := seqItems? (.ref t)) (wpAny_seqItems hto tda ?_)
 simp only [Int.toNat_natCast, hx]
 refine wpAny_bind (wpAny_rule (wpAny_bind (wpAny_setField hio ida (by simp) ?_)))
 refine wpAny_bind (m := newExc (.type "StopIteration") []) ?_
 simp only [newExc, newTuple]
 refine wpAny_bind (wpAny_newObj_type ?_ (by size_fits)); refine wpAny_bind (m := firstArgMember _ _) (wpAny_of_eq (a := Value.none) (by first | rfl | (simp only [firstArgMember]; rfl)) ?_); refine wpAny_newObj_type ?_ (by size_fits)
 simp only [raiseNew]
 refine wpAny_bind (wpAny_handled ?_); (first | rw [show A.in1.handled = none from hh] | rw [hh])
 exact wpAny_bind (wpAny_pure (wpAny_throw (q _ _ (((Heap.SameBut.update ..).extBut.push _).push _) ⟨_, Heap.get?_push_size _ rfl, rfl⟩)))
theorem drawsT (hh : A.handled = none) (it t : Addr) (hne : t ≠ it) (its : Array Value) : Draws prog w A it [it, t] its.size (fun i v => its[i]? = some v) (fun i h => IsTupIter h it t i ∧ IsTup h t its) where
 live := fun _ _ st => let ⟨o, ho, _⟩ := st.1; ⟨o, ho⟩
 frame := fun _ _ _ st hk => ⟨tit_at st.1 fun o e => hk it (by simp) o e, let ⟨o, ho, r⟩ := st.2; ⟨o, hk t (by simp) o ho, r⟩⟩
 item := fun i s Q E hi st hQ => nextT st.1 st.2 (x := its[i]) (by simp [hi]) fun h' hit' hs' => hQ _ h' s.toks (by simp [hi]) ⟨hit', st.2.extBut hs'.extBut hne⟩ hs'
 done := fun s Q E st hE => nextT_end hh st.1 st.2 (by simp) hE
theorem meets_enumT (t : Addr) (its : Array Value) (n : Nat) (dct : Option Addr) (sl : Array (Option Value)) :
  Meets (Builtin.«enumerate.__new__» ⟨[.type "enumerate", .ref t], []⟩) (fun _ R s => s.heap.get? t = some { cls := .type "tuple", dict := dct, data := .seq its n, slots := sl } ∧
   R (.ok (.ret (.ref (s.heap.push { cls := .type "tuple_iterator", data := .fields #[.ref t, .int 0 0] }).objs.size)))
    { s with heap := (s.heap.push { cls := .type "tuple_iterator", data := .fields #[.ref t, .int 0 0] }).push { cls := .type "enumerate", data := .fields #[.none, .bool false, .ref s.heap.objs.size, rawInt 0, .none, .none] } }) :=
 .of_wp fun prog w A R s h => by
  obtain ⟨hp, g, d, tk, os⟩ := s
  obtain ⟨ht, h⟩ := h
  have hsub := sub_enumerate
  have hT : IsTup (Shared.heap ⟨hp, g, d, tk, os⟩) t its := ⟨_, ht, rfl, n, rfl⟩
  wp_walk using wpAny_loadPart' ht
  refine wpAny_stack_any fun st => wpAny_pure ?_
  split
  ·rename_i c _ _ _ _ _
   cases (c == Value.type "enumerate") <;> (wp_walk using wpAny_loadPart' ht, iter_tuple hT; exact ⟨_, rfl, h⟩)
  ·wp_walk using wpAny_loadPart' ht, iter_tuple hT
   exact ⟨_, rfl, h⟩
theorem call_enumT {t : Addr} {its : Array Value} {Q : Value → Shared → Prop} (hT : IsTup s.heap t its)
  (h : ∀ h', IsEnum h' (s.heap.objs.size + 1) s.heap.objs.size 0 .none → IsTupIter h' s.heap.objs.size t 0 → h'.objs.size = s.heap.objs.size + 2 → (∀ b o, s.heap.get? b = some o → h'.get? b = some o) → Q (.ref (s.heap.objs.size + 1)) { s with heap := h' }) :
  wpAny (model prog w) A (call (.type "enumerate") [.ref t]) Q E s := by
 obtain ⟨⟨c, dct, dt, sl⟩, ht, hc, n, hd⟩ := hT
 replace hc : c = .type "tuple" := hc
 replace hd : dt = .seq its n := hd
 subst hc hd
 refine callType_new F.called_enumerate (by decide) (F.typeCall_enumerate_1 _) (F.newCall_enumerate_1 _) (fun obj => F.args_object_init_2 obj _) F.entry_enumerate_new (meets_enumT t its n dct sl) ⟨ht, ?_⟩
 have hz : (s.heap.push { cls := .type "tuple_iterator", data := .fields #[.ref t, .int 0 0] }).objs.size = s.heap.objs.size + 1 := Heap.size_push ..
 have he := Heap.get?_push_size (s.heap.push { cls := .type "tuple_iterator", data := .fields #[.ref t, .int 0 0] }) (o := { cls := .type "enumerate", data := .fields #[.none, .bool false, .ref s.heap.objs.size, rawInt 0, .none, .none] }) rfl
 show _ ∧ _
 rw [hz] at he ⊢
 exact ⟨⟨_, he, rfl⟩, h _ he ⟨_, Heap.get?_push_of_some _ (Heap.get?_push_size _ rfl), rfl, rfl⟩ (by rw [Heap.size_push, hz]) fun b o x => Heap.get?_push_of_some _ (Heap.get?_push_of_some _ x)⟩
end
noncomputable def IteT (K : PySem.W.Frag) (a : Addr) : It :=
 ⟨fun i H => ∃ xs x, SqT K H a xs ∧ xs[i]? = some x, fun i H x H' => ∃ p y, x = .ref p ∧ H p = none ∧ H' = upd H p (.tup [.int i, y]) ∧ ∀ xs, SqT K H a xs → xs[i]? = some y, fun i H => ∃ xs, SqT K H a xs ∧ xs.length ≤ i⟩
theorem tup_inj {X : Cx} {pins : List (Addr × Obj)} {σ : St} {H : Hp} {s : Shared} {a : Addr} {xs ys : List V} (I : Inv X pins σ H s) (h1 : SqT X.K H a xs) (h2 : SqT X.K H a ys) : xs = ys := I.tuple_inj h1 h2
theorem turn_enumT {P : Program} {w : World} {K : PySem.W.Frag} {elts : List Expr} {k : Nat} {tp : Pos} (a e it : Addr) (hne : e ≠ it) :
  Turn P w K (.Tuple elts k tp) (IteT K a) [e, it] e (fun i h => (∃ old, IsEnum h e it i old) ∧ IsTupIter h it a i) where
 mem := by simp
 obj := fun i h st b hb => by
  obtain ⟨⟨old, he⟩, o, e', c, d⟩ := st
  rcases (by simpa using hb : b = e ∨ b = it) with rfl | rfl
  ·exact ⟨_, he, fun v z => by cases z⟩
  ·exact ⟨o, e', fun v z => by rw [d] at z; cases z⟩
 keep := fun i h h' st k => ⟨let ⟨old, he⟩ := st.1; ⟨old, k e (by simp) _ he⟩, tit_at st.2 fun o e => k it (by simp) o e⟩
 item := by
  intro X hP hw hK hc i pins s σ H E I hf st hg
  subst hP hw hK
  obtain ⟨xs, x, hq, hx⟩ := hg
  obtain ⟨its, rv, p, hz⟩ := I.tuple hq
  obtain ⟨u, hu, ru⟩ := rv.get hx
  obtain ⟨⟨old, he⟩, hit⟩ := st
  obtain ⟨oi, hoi, ci, _⟩ := id hit
  obtain ⟨ot, hot, ct, _⟩ := id p
  have nai : a ≠ it := fun z => by subst z; rw [hoi] at hot; cases hot; rw [ci] at ct; exact absurd ct (by decide)
  have nae : e ≠ a := fun z => by subst z; rw [he] at hot; cases hot; exact absurd (show Value.type "enumerate" = .type "tuple" from ct) (by decide)
  have hi : i < its.toArray.size := by have := (List.getElem?_eq_some_iff.1 hu).1; simpa using this
  refine wpAny_pyNext_enum_itemD (drawsT (prog := X.prog) (w := X.w) (A := X.A.in1) (I.ok.hd hc) it a nai its.toArray) he ⟨hit, p⟩ hi hne (by simp [hne, nae]) fun y h1 tk hP heo hst1 ht1 hz1 hk1 => ?_
  have hy : y = u := by
   have : its.toArray[i]? = some u := by simpa using hu
   rw [this] at hP
   exact (Option.some.inj hP).symm
  subst hy
  refine ⟨_, rfl, ?_⟩
  refine wpAny_letOwnedTupleGo_enum (s := { s with heap := h1, toks := tk + 1 }) heo fun h2 he2 hs2 => ?_
  have hs2 : Heap.SameBut e h1 h2 := hs2
  have ltE : e < s.heap.objs.size := Heap.lt_size he
  have vv : Vals [V.int i, x] [.int i tk, y] := .cons ⟨_, rfl⟩ (.cons ru .nil)
  have T := Inv.turnedT (h' := h2) (t' := tk + 1) (fp := [e, it]) I vv (by show 2 ≤ sizeLine; decide) (fun b o hb eb => ?_) ((hs2.2 _ (Nat.ne_of_gt ltE)).trans ht1) hf (fun b hb => ?_)
  ·obtain ⟨I2, fr, fb⟩ := T
   exact ⟨.ref s.heap.objs.size, _, I2, rfl, ⟨_, x, rfl, fr, rfl, fun ys hy => by rw [tup_inj I hy hq]; exact hx⟩, ⟨⟨_, he2⟩, tit_at hst1.1 fun o eo => (hs2.2 it hne.symm).trans eo⟩, fb⟩
  ·have hb : b ≠ e ∧ b ≠ it := by simpa using hb
   exact (hs2.2 b hb.1).trans (hk1 b o hb.1 hb.2 eb)
  ·rcases (by simpa using hb : b = e ∨ b = it) with rfl | rfl
   ·exact ⟨_, he⟩
   ·exact ⟨oi, hoi⟩
 done := by
  intro X hP hw hK hc i pins s σ H E I hf st hg
  subst hP hw hK
  obtain ⟨xs, hq, hx⟩ := hg
  obtain ⟨its, rv, p, hz⟩ := I.tuple hq
  have hl := rv.length
  obtain ⟨⟨old, he⟩, hit⟩ := st
  have hT : s.TypeIs (.ref e) "enumerate" := ⟨_, he, rfl⟩
  unfold pyNext
  refine wpAny_bind (wpAny_attempt (wpAny_callSpecial?_slot (name := Str.ofString "__next__") hT F.slot_enumerate_next (wpAny_call_entry F.slot_enumerate_next hT F.entry_enumerate_next ?_ (F.args_enumerate_next_1 _))))
  refine wpAny_bind (m := field (.ref e) 2) (wpAny_field he rfl (x := .ref it) rfl ?_)
  refine wpAny_bind (nextT_end (I.ok.hd hc) hit p (by simp; omega) fun h' ex he' hx' => ?_)
  obtain ⟨oe, hoe, hce⟩ := hx'
  refine wpAny_bind (wpAny_isInstance (T := "StopIteration") (b := true) ⟨oe, hoe, hce⟩ isSubtype_stop (wpAny_pure ?_))
  exact ⟨rfl, Inv.turnedL (t' := s.toks) (fp := [e, it]) I (fun b o hb eo => he' b o (fun z => hb (by simp [z])) eo) hf⟩
 self := fun _ _ _ _ _ st h => let ⟨⟨_, he⟩, _⟩ := st; wpAny_pyIter_enum he h
section
variable {X : Cx}
noncomputable def iEnumT (K : PySem.W.Frag) (ta : TA) : TI := fun σ H R => ta σ H fun vs H1 => ∃ a, vs = [.ref a] ∧ (∃ xs, SqT K H1 a xs) ∧ R (IteT K a) H1
theorem pi_enumT {K : PySem.W.Frag} {elts : List Expr} {k : Nat} {tp : Pos} {l : Expr} {ta : TA} {p pos : Pos} (hg : Gl X "enumerate") (hm : X.mg "enumerate" = none) (ha : PA X [l] ta) (hK : X.K = K := by rfl) (hs : starEach [l] X.env = [(false, eval l X.env)] := by rfl) :
  PI X (.Tuple elts k tp) (.Call (.Name "enumerate" p) [l] [] pos) (iEnumT K ta) := by
 subst hK
 intro pins s σ H R I h
 refine Call_ (ld_blt I hg hm Boot.«enumerate» (PyProof.Rows.callWith_type1 (thn (ha pos pins s σ H _ I h) fun us s1 ⟨vs, H1, I1, r1, q1⟩ => ?_) hs rfl))
 obtain ⟨a, e, ⟨xs, hq⟩, q⟩ := q1
 subst e
 obtain ⟨u, rfl, ru⟩ := vals1 r1
 cases ru
 obtain ⟨its, rv, p, hz⟩ := I1.tuple hq
 refine call_enumT p fun h' he hit hsz hk => ?_
 have I2 : Inv X pins σ H1 { s1 with heap := h' } := I1.kept (t' := s1.toks) hk
 refine wpAny_pyIter_enum (s := { s1 with heap := h' }) he ?_
 refine ⟨s1.heap.objs.size + 1, [s1.heap.objs.size + 1, s1.heap.objs.size], _, _, H1, rfl, I2, turn_enumT a (s1.heap.objs.size + 1) s1.heap.objs.size (Nat.succ_ne_self _), ⟨⟨_, he⟩, hit⟩, fun b hb => ?_, q⟩
 have hb : s1.heap.objs.size ≤ b := by
  rcases (by simpa using hb : b = s1.heap.objs.size + 1 ∨ b = s1.heap.objs.size) with rfl | rfl
  ·exact Nat.le_succ _
  ·exact Nat.le_refl _
 exact Inv.fpOk I1 hb (I1.hok.fresh hb) |> fun ⟨f0, f1, f2, f3, f4, f5⟩ => ⟨f0, f1, f2, f3, f4, f5⟩
end
end L2
namespace L2
open PySem PySem.Spec PyProof.Rows
section
variable {prog : Program} {w : World} {A : Around} {E : Value → Shared → Prop} {s : Shared}
noncomputable abbrev zT1 (h : Heap) (l1 : Addr) : Heap := h.push { cls := .type "tuple_iterator", data := .fields #[.ref l1, .int 0 0] }
noncomputable abbrev zT2 (h : Heap) (l1 l2 : Addr) : Heap := (zT1 h l1).push { cls := .type "tuple_iterator", data := .fields #[.ref l2, .int 0 0] }
noncomputable abbrev zT3 (h : Heap) (l1 l2 : Addr) : Heap := (zT2 h l1 l2).push { cls := .type "tuple", data := .seq #[.ref h.objs.size, .ref (zT1 h l1).objs.size] }
noncomputable abbrev zT4 (h : Heap) (l1 l2 : Addr) : Heap := (zT3 h l1 l2).push { cls := .type "tuple", data := .seq #[.none, .none] }
noncomputable abbrev zT5 (h : Heap) (l1 l2 : Addr) : Heap := (zT4 h l1 l2).push { cls := .type "zip", data := .fields #[.none, .bool false, .bool false, .ref (zT2 h l1 l2).objs.size, .ref (zT3 h l1 l2).objs.size] }
end
section
variable {X : Cx}
end
end L2
namespace L2
open PySem PySem.Spec PyProof.Rows
mutual
noncomputable def D.small (n : Nat) : D → Prop
 | .int i => i.natAbs < 2 ^ n
 | .tup l => D.smalls n l
 | .lst l => D.smalls n l
 | .non => True
 | .bl _ => True
 | .str _ => False
 | .ins _ _ _ => False
noncomputable def D.smalls (n : Nat) : List D → Prop
 | [] => True
 | d :: r => D.small n d ∧ D.smalls n r
end
mutual
noncomputable def D.wt (n : Nat) : D → Nat
 | .tup l => D.wts n l
 | .lst l => D.wts n l
 | .int _ => n
 | _ => 0
noncomputable def D.wts (n : Nat) : List D → Nat
 | [] => 0
 | d :: r => D.wt n d + 1 + D.wts n r
end
section
variable {X : Cx} {pins : List (Addr × Obj)} {σ : St} {H : Hp} {s : Shared}
end
structure ShowOk (n : Nat) (d : D) : Prop where
 seq : ∃ l, d = .tup l ∨ d = .lst l
 small : D.small n d
 n0 : 8 ≤ n
 n1 : n ≤ 1900
 deep : D.depth d ≤ 40
 size : (n + 3) * D.wt n d + n + 1 ≤ 16777216
section
variable {X : Cx}
end
end L2
namespace L2
open PySem PySem.Spec PyProof.Rows
theorem rv_mro : mroOf (.type "reversed") = pure [.type "reversed", .type "object"] := by rw [mroOf_type]; kernel_rfl
theorem rv_new : typeLookup (.type "reversed") "__new__" = pure (some (.builtin "reversed.__new__")) := by rw [typeLookup_type, builtinLookup_eq_fast]; kernel_rfl
theorem rv_init : Slot "reversed" "__init__" "object.__init__" := .of (owner := "object") (n := "__init__") (by rw [typeLookup_type, builtinLookup_eq_fast]; kernel_rfl) (by decide +kernel) (by decide +kernel) (by decide +kernel) (by first | exact .inl (by decide +kernel) | exact .inr (by decide +kernel)) (by rw [isSubtype_type]; kernel_rfl)
theorem rv_called : TypeCalled "reversed" "reversed.__new__" "object.__init__" := ⟨by decide +kernel, by decide +kernel, ⟨_, _, rv_mro⟩, madeBy_type rv_mro rv_new (by decide +kernel), by decide +kernel, by rw [isSubtype_type]; kernel_rfl, rv_init⟩
theorem rv_typeCall (a : Value) : checkTypeCall "reversed" ⟨[a], []⟩ = pure () := by kernel_rfl
theorem rv_newCall (a : Value) : checkBuiltinCall "reversed.__new__" ⟨[.type "reversed", a], []⟩ = pure () := by kernel_rfl
theorem rv_entryNew : entryFor table "reversed.__new__" = some Builtin.«reversed.__new__» := entryFor_of_tree (by kernel_rfl)
theorem rv_sub : isSubtype (.type "reversed") (.type "reversed") = pure true := by rw [isSubtype_type]; kernel_rfl
theorem rv_owner : Manifest.owners.lookup (String.ofList ['d', 'e', 's', 'r', 'e', 'v', 'e', 'r'].reverse) = some Manifest.sig_reversed := by kernel_rfl
theorem rv_next : Slot "reversed" "__next__" "reversed.__next__" := .of (owner := "reversed") (n := "__next__") (by rw [typeLookup_type, builtinLookup_eq_fast]; kernel_rfl) (by decide +kernel) (by decide +kernel) (by decide +kernel) (by first | exact .inl (by decide +kernel) | exact .inr (by decide +kernel)) (by rw [isSubtype_type]; kernel_rfl)
theorem rv_entryNext : entryFor table "reversed.__next__" = some Builtin.«reversed.__next__» := entryFor_of_tree (by kernel_rfl)
theorem rv_argsNext (a : Value) : argsOk "reversed.__next__" ⟨[a], []⟩ := by
 unfold argsOk; rw [signature?_of (id := "reversed.__next__") (n := ['_', '_', 't', 'x', 'e', 'n', '_', '_']) (o := ['d', 'e', 's', 'r', 'e', 'v', 'e', 'r']) (by kernel_rfl) rv_owner]; kernel_rfl
theorem rv_iter : Slot "reversed" "__iter__" "reversed.__iter__" := .of (owner := "reversed") (n := "__iter__") (by rw [typeLookup_type, builtinLookup_eq_fast]; kernel_rfl) (by decide +kernel) (by decide +kernel) (by decide +kernel) (by first | exact .inl (by decide +kernel) | exact .inr (by decide +kernel)) (by rw [isSubtype_type]; kernel_rfl)
theorem rv_argsIter (a : Value) : argsOk "reversed.__iter__" ⟨[a], []⟩ := by
 unfold argsOk; rw [signature?_of (id := "reversed.__iter__") (n := ['_', '_', 'r', 'e', 't', 'i', '_', '_']) (o := ['d', 'e', 's', 'r', 'e', 'v', 'e', 'r']) (by kernel_rfl) rv_owner]; kernel_rfl
theorem rv_entryIter : entryFor table "reversed.__iter__" = some Builtin.«dict_keyiterator.__iter__» := entryFor_alias (id' := "dict_keyiterator.__iter__") (by kernel_rfl) (by first | rfl | decide +kernel | (unfold String.splitOn; simp +decide [String.splitOnAux])) (by decide +kernel) (by kernel_rfl)
theorem rv_none : typeLookup (.type "tuple") "__reversed__" = pure none := by rw [typeLookup_type, builtinLookup_eq_fast]; kernel_rfl
noncomputable abbrev rvObj (t : Addr) (i : Int) : Obj := { cls := .type "reversed", data := .fields #[.ref t, rawInt i] }
noncomputable abbrev IsRv (h : Heap) (a t : Addr) (i : Int) : Prop := h.get? a = some (rvObj t i)
section
variable {prog : Program} {w : World} {A : Around} {E : Value → Shared → Prop} {s : Shared}
theorem rv_newClass (a : Value) : Builtin.SmallTypes.newClass "reversed" ⟨[.type "reversed", a], []⟩ = pure (.type "reversed", [a]) := by
 unfold Builtin.SmallTypes.newClass
 simp only [isType, rv_sub, pure_bind, Bool.not_true, Bool.false_eq_true, if_false]
theorem meets_rv (t : Addr) (its : Array Value) (hz : (its.size : Int) < 2 ^ 63) : Meets (Builtin.«reversed.__new__» ⟨[.type "reversed", .ref t], []⟩) (fun _ R s => IsTup s.heap t its ∧ ∀ tk, R (.ok (.ret (.ref s.heap.objs.size))) { s with heap := s.heap.push (rvObj t ((its.size : Int) - 1)), toks := tk }) :=
 .of_wp fun prog w A R s h => by
  obtain ⟨hT, h⟩ := h
  unfold Builtin.«reversed.__new__»
  refine wpAny_bind (wpAny_of_eq (rv_newClass _) ?_)
  try dsimp only
  refine wpAny_bind (wpAny_of_eq (a := ()) (by first | rfl | kernel_rfl) ?_)
  refine wpAny_bind (wpAny_of_eq (a := ()) (by first | rfl | kernel_rfl) ?_)
  try dsimp only
  refine wpAny_bind (wpAny_specialOf hT.typeIs rv_none ?_)
  try dsimp only
  refine wpAny_bind ?_
  show wpAny _ _ (isInstance (.ref t) (.type "dict") >>= _) _ _ _
  refine wpAny_bind (wpAny_isInstance (T := "tuple") (b := false) hT.typeIs (by rw [isSubtype_type]; kernel_rfl) ?_)
  rw [if_neg (by decide)]
  show wpAny _ _ (specialOf (.ref t) "__getitem__" >>= _) _ _ _
  refine wpAny_bind (wpAny_specialOf hT.typeIs slot_tuple_getitem.lookup ?_)
  dsimp only
  rw [if_pos (by decide)]
  refine wpAny_pure ?_
  rw [if_neg (by decide)]
  refine wpAny_bind (len_tuple hT hz ?_)
  refine wpAny_bind (wpAny_of_eq (a := some (its.size : Int)) rfl ?_)
  dsimp only
  refine wpAny_bind (m := Builtin.SmallTypes.newRecord (.type "reversed") [.ref t, rawInt ((its.size : Int) - 1)]) ?_
  unfold Builtin.SmallTypes.newRecord
  first
  | exact wpAny_newObj_type (wpAny_pure ⟨_, rfl, h _⟩)
  | (wp_walk; exact ⟨_, rfl, h _⟩)
theorem rvT_item {it t : Addr} {i : Nat} {its : Array Value} {x : Value} {Q : Option Value → Shared → Prop} (hit : IsRv s.heap it t (i : Int)) (ht : IsTup s.heap t its) (hx : its[i]? = some x) (hs : (i : Int) < 2 ^ 63)
  (q : ∀ h' tk, IsRv h' it t ((i : Int) - 1) → Heap.SameBut it s.heap h' → Q (some x) { s with heap := h', toks := tk }) : wpAny (model prog w) A (pyNext (.ref it)) Q E s := by
 have hT : s.TypeIs (.ref it) "reversed" := ⟨_, hit, rfl⟩
 unfold pyNext
 refine wpAny_bind (wpAny_attempt (wpAny_callSpecial?_slot (name := Str.ofString "__next__") hT rv_next (wpAny_call_entry rv_next hT rv_entryNext ?_ (rv_argsNext _))))
 unfold Builtin.«reversed.__next__»
 refine wpAny_bind (wpAny_of_eq (a := (Value.ref it, [])) rfl ?_); (try dsimp only)
 refine wpAny_bind (wpAny_field hit rfl (x := .ref t) rfl ?_)
 refine wpAny_bind (wpAny_field hit rfl (x := rawInt (i : Int)) rfl ?_)
 show wpAny _ _ (if (i : Int) < 0 then _ else _) _ _ s; rw [if_neg (by omega)]
 refine wpAny_bind (wpAny_specialOf ht.typeIs slot_tuple_getitem.lookup ?_)
 rw [if_neg (by decide)]
 refine wpAny_bind (wpAny_mkInt ?_)
 have hlt : i < its.size := (Array.getElem?_eq_some_iff.1 hx).1
 have hix : seqIndex? (i : Int) its.size = some i := by
  unfold seqIndex?
  simp only [show ¬ ((i : Int) < 0) by omega, if_false]
  rw [if_pos (by simp; omega), Int.toNat_natCast]
 refine wpAny_bind (wpAny_attempt (getItem_tuple (j := i) ht (by omega) hs hix hx ?_)); (try dsimp only)
 refine wpAny_bind (wpAny_field hit rfl (x := rawInt (i : Int)) rfl ?_); (try dsimp only)
 refine wpAny_bind (wpAny_setField_rec hit (by simp) fun h' hit' hs' => ?_)
 exact wpAny_pure ⟨_, rfl, wpAny_pure (q h' _ hit' hs')⟩
theorem rvT_end {it t : Addr} {Q : Option Value → Shared → Prop} (hh : A.handled = none) (hit : IsRv s.heap it t (-1)) (q : ∀ h', Heap.ExtBut it s.heap h' → Q none { s with heap := h' }) : wpAny (model prog w) A (pyNext (.ref it)) Q E s := by
 have hT : s.TypeIs (.ref it) "reversed" := ⟨_, hit, rfl⟩
 unfold pyNext
 refine wpAny_bind (wpAny_attempt (wpAny_callSpecial?_slot (name := Str.ofString "__next__") hT rv_next (wpAny_call_entry rv_next hT rv_entryNext ?_ (rv_argsNext _))))
 unfold Builtin.«reversed.__next__»
 refine wpAny_bind (wpAny_of_eq (a := (Value.ref it, [])) rfl ?_); (try dsimp only)
 refine wpAny_bind (wpAny_field hit rfl (x := .ref t) rfl ?_)
 refine wpAny_bind (wpAny_field hit rfl (x := rawInt (-1)) rfl ?_)
 show wpAny _ _ (if (-1 : Int) < 0 then _ else _) _ _ s; rw [if_pos (by decide)]
 refine wpAny_bind (wpAny_rule ?_)
 refine wpAny_bind ?_
 show wpAny _ _ (setField (.ref it) 1 (rawInt (-1)) >>= _) _ _ s
 refine wpAny_bind (wpAny_setField_rec hit (by simp) fun h1 hit1 hs1 => ?_)
 replace hit1 : IsRv h1 it t (-1) := hit1
 show wpAny _ _ (setField (.ref it) 0 .none) _ _ _
 refine wpAny_setField_rec hit1 (by simp) fun h2 hit2 hs2 => ?_
 first
 | refine wpAny_bind (m := newExc (.type "StopIteration") []) ?_
 | (refine wpAny_bind ?_; refine wpAny_bind (m := newExc (.type "StopIteration") []) ?_)
 simp only [newExc, newTuple]
 refine wpAny_bind (wpAny_newObj_type ?_ (by size_fits)); refine wpAny_bind (m := firstArgMember _ _) (wpAny_of_eq (a := Value.none) (by first | rfl | (simp only [firstArgMember]; rfl)) ?_); refine wpAny_newObj_type ?_ (by size_fits)
 simp only [raiseNew]
 refine wpAny_bind (wpAny_handled ?_); (first | rw [show A.in1.handled = none from hh] | rw [hh])
 refine wpAny_bind (wpAny_pure (wpAny_throw ?_))
 refine wpAny_bind (wpAny_isInstance (T := "StopIteration") (b := true) ⟨_, Heap.get?_push_size _ rfl, rfl⟩ isSubtype_stop (wpAny_pure (q _ ?_)))
 exact fun b o hb e => Heap.get?_push_of_some _ (Heap.get?_push_of_some _ (hs2.extBut b o hb (hs1.extBut b o hb e)))
theorem rvT_iter {it t : Addr} {i : Int} {Q : Value → Shared → Prop} (hit : IsRv s.heap it t i) (q : Q (.ref it) s) : wpAny (model prog w) A (pyIter (.ref it)) Q E s := by
 have hT : s.TypeIs (.ref it) "reversed" := ⟨_, hit, rfl⟩
 refine wpAny_pyIter_slot hT rv_iter (wpAny_call_entry rv_iter hT rv_entryIter ?_ (rv_argsIter _))
 show wpAny _ _ (ret (Value.ref it)) _ _ _
 exact wpAny_pure ⟨_, rfl, "reversed", _, hT, rv_next.lookup, q⟩
theorem call_rvT {t : Addr} {its : Array Value} {Q : Value → Shared → Prop} (hT : IsTup s.heap t its) (hz : (its.size : Int) < 2 ^ 63)
  (h : ∀ tk, Q (.ref s.heap.objs.size) { s with heap := s.heap.push (rvObj t ((its.size : Int) - 1)), toks := tk }) : wpAny (model prog w) A (call (.type "reversed") [.ref t]) Q E s :=
 callType_new rv_called (by decide) (rv_typeCall _) (rv_newCall _) (fun obj => F.args_object_init_2 obj _) rv_entryNew (meets_rv t its hz) ⟨hT, fun tk => ⟨⟨_, Heap.get?_push_size _ rfl, rfl⟩, h tk⟩⟩
end
noncomputable def ItR (K : PySem.W.Frag) (a : Addr) (n : Nat) : It :=
 ⟨fun i H => i < n ∧ ∃ xs, SqT K H a xs ∧ xs.length = n, fun i H x H' => H' = H ∧ ∀ xs, SqT K H a xs → xs[n - 1 - i]? = some x, fun i H => i = n⟩
theorem turn_rvT {P : Program} {w : World} {K : PySem.W.Frag} {tg : Expr} (a it : Addr) (n : Nat) : Turn P w K tg (ItR K a n) [it] it (fun i h => IsRv h it a ((n : Int) - 1 - (i : Int))) where
 mem := by simp
 obj := fun i h st b hb => by
  have e : b = it := by simpa using hb
  subst e
  exact ⟨_, st, fun v z => by cases z⟩
 keep := fun i h h' st k => k it (by simp) _ st
 item := by
  intro X hP hw hK hc i pins s σ H E I hf st hg
  subst hP hw hK
  obtain ⟨hi, xs, hq, hl⟩ := hg
  have hx : xs[n - 1 - i]? = some (xs[n - 1 - i]'(by omega)) := List.getElem?_eq_getElem (by omega)
  obtain ⟨its, rv, p, hz⟩ := I.tuple hq
  obtain ⟨u, hu, ru⟩ := rv.get hx
  obtain ⟨f0, f1, f2, f3, f4, f5⟩ := hf it (by simp)
  have hn := line63
  have e : (n : Int) - 1 - (i : Int) = ((n - 1 - i : Nat) : Int) := by omega
  rw [e] at st
  refine rvT_item st p (x := u) (by simpa using hu) (by omega) fun h' tk st' sb => ?_
  have I1 : Inv X pins σ H { s with heap := h', toks := tk } := I.turned (t' := tk) (fun b o hb e => (sb.2 b hb).trans e) f0 f1 f3 f4 f5
  have e2 : ((n - 1 - i : Nat) : Int) - 1 = (n : Int) - 1 - ((i + 1 : Nat) : Int) := by omega
  rw [e2] at st'
  exact ⟨u, rfl, go_of (s := { s with heap := h', toks := tk }) (n := "reversed") st' rfl rfl (by decide) ⟨_, H, I1, ru, ⟨rfl, fun ys hy => by rw [I.tuple_inj hy hq]; exact hx⟩, st', fun b hb => (hf b hb).1⟩⟩
 done := by
  intro X hP hw hK hc i pins s σ H E I hf st hg
  subst hP hw hK
  have hg : i = n := hg
  obtain ⟨f0, f1, f2, f3, f4, f5⟩ := hf it (by simp)
  have e : (n : Int) - 1 - (i : Int) = -1 := by omega
  rw [e] at st
  exact rvT_end (I.ok.hd hc) st fun h' eb => ⟨rfl, I.turned (t' := s.toks) (fun b o hb e => eb b o hb e) f0 f1 f3 f4 f5⟩
 self := fun _ _ _ _ _ st h => rvT_iter st h
section
variable {X : Cx} {tg : Expr}
noncomputable def iRvT (K : PySem.W.Frag) (ta : TA) : TI := fun σ H R => ta σ H fun vs H1 => ∃ a xs, vs = [.ref a] ∧ SqT K H1 a xs ∧ R (ItR K a xs.length) H1
theorem pi_rvT {K : PySem.W.Frag} {l : Expr} {ta : TA} {p pos : Pos} (hg : Gl X "reversed") (hm : X.mg "reversed" = none) (ha : PA X [l] ta) (hK : X.K = K := by rfl) (hs : starEach [l] X.env = [(false, eval l X.env)] := by rfl) :
  PI X tg (.Call (.Name "reversed" p) [l] [] pos) (iRvT K ta) := by
 subst hK
 intro pins s σ H R I h
 refine Call_ (ld_blt I hg hm Boot.«reversed» (PyProof.Rows.callWith_type1 (thn (ha pos pins s σ H _ I h) fun us s1 ⟨vs, H1, I1, r1, q1⟩ => ?_) hs rfl))
 obtain ⟨a, xs, e, hq, q⟩ := q1
 subst e
 obtain ⟨u, rfl, ru⟩ := vals1 r1
 cases ru
 obtain ⟨its, rv, p, hz⟩ := I1.tuple hq
 have hl := rv.length
 have hn := line63
 refine call_rvT p (by rw [List.size_toArray]; omega) fun tk => ?_
 have I2 : Inv X pins σ H1 { s1 with heap := s1.heap.push (rvObj a ((its.toArray.size : Int) - 1)), toks := tk } := I1.kept (t' := tk) fun b o e => Heap.get?_push_of_some _ e
 refine rvT_iter (s := { s1 with heap := s1.heap.push (rvObj a ((its.toArray.size : Int) - 1)), toks := tk }) (Heap.get?_push_size _ rfl) ?_
 refine ⟨s1.heap.objs.size, [s1.heap.objs.size], _, _, H1, rfl, I2, turn_rvT a s1.heap.objs.size xs.length, ?_, fun b hb => ?_, q⟩
 ·have e : ((its.toArray.size : Nat) : Int) - 1 = (xs.length : Int) - 1 - ((0 : Nat) : Int) := by rw [List.size_toArray]; omega
  show IsRv _ _ _ _
  rw [← e]
  exact Heap.get?_push_size _ rfl
 ·have e : b = s1.heap.objs.size := by simpa using hb
  subst e
  exact Inv.fpOk I1 (Nat.le_refl _) (I1.hok.fresh (Nat.le_refl _))
noncomputable def rCatA (K : PySem.W.Frag) : R2 := fun x y H Q => ∃ a b xs ys, x = .ref a ∧ y = .ref b ∧ SqT K H a xs ∧ SqT K H b ys ∧ xs.length + ys.length ≤ sizeLine ∧ (xs = [] → Q (.ref b) H) ∧ (xs ≠ [] → ys = [] → Q (.ref a) H) ∧ (xs ≠ [] → ys ≠ [] → ∀ p, H p = none → Q (.ref p) (upd H p (.tup (xs ++ ys))))
theorem op_catA {K : PySem.W.Frag} (hK : X.K = K := by rfl) : OpR X (binaryOp .Add) (rCatA K) := by
 subst hK
 intro pins s σ H x y v u Q I rx ry h
 obtain ⟨a, b, xs, ys, e1, e2, ha, hb, hz, q1, q2, q3⟩ := h
 by_cases hx : xs = []
 ·subst e1 e2
  cases rx
  cases ry
  obtain ⟨its, r1, p1, _⟩ := I.tuple ha
  obtain ⟨its2, r2, p2, _⟩ := I.tuple hb
  obtain ⟨⟨cls, dd, data, sl⟩, ho, hc, n, hd⟩ := id p1
  obtain ⟨⟨cls2, dd2, data2, sl2⟩, ho2, hc2, n2, hd2⟩ := id p2
  simp only at hc hd hc2 hd2
  subst hc hd hc2 hd2
  exact concat_meets ⟨_, ho, rfl⟩ ⟨_, ho2, rfl⟩ noFill_tuple_add seq_tuple_add PySem.F.slot_tuple_add PySem.F.entry_tuple_add (PySem.F.args_tuple_add_2 _ _) (tuple_addW0 a b its.toArray its2.toArray n n2 dd dd2 sl sl2 (by have := r1.nil_iff.mpr hx; simp [this])) ⟨ho, ho2, ⟨.ref b, H, I, rfl, q1 hx⟩⟩
 ·exact op_catT pins s σ H x y v u Q I rx ry ⟨a, b, xs, ys, e1, e2, ha, hb, hx, hz, q2 hx, q3 hx⟩
end
end L2
namespace L2
open PySem PySem.Spec PyProof.Rows PyProof
section
variable {X : Cx}
noncomputable def rSumT (K : PySem.W.Frag) : List V → Hp → VK → Prop := fun xs H Q => ∃ (p : Addr) (ns : List Int), xs = [.ref p] ∧ SqT K H p (ns.map V.int) ∧ Q (.int ns.sum) H
theorem call_sumTK {K : PySem.W.Frag} (hc : X.calm = true) (hK : X.K = K := by rfl) : CallR X (.builtin "sum") (rSumT K) := by
 subst hK
 intro pins s σ H xs us Q I r h
 obtain ⟨p, ns, rfl, hq, q⟩ := h
 obtain ⟨u, rfl, ru⟩ := vals1 r
 cases ru
 obtain ⟨its, rv, pl, hz⟩ := I.tuple hq
 have lt : p < s.heap.objs.size := pl.lt
 have hl := rv.length
 rw [List.length_map] at hl
 have pl' : s.heap.IsTuple p its.toArray := pl
 refine call_sum_walkAnyS (wpAny_pyIter_tuple pl' ?_)
 have W := (Walks.tuple (prog := X.prog) (w := X.w) (A := X.A.in1) (I.ok.hd hc) s.heap.objs.size p (Nat.ne_of_lt lt) its.toArray).toS
 refine ⟨s.heap.objs.size, _, _, _, _, _, _, fun i => ns.getD i 0, rfl, W, ?_, ?_, ?_, ?_⟩
 ·exact ⟨⟨_, Heap.get?_push_size _ rfl, rfl, rfl⟩, IsTup.push pl _⟩
 ·intro b hb
  rw [Heap.size_push]
  rcases (by simpa using hb : b = s.heap.objs.size ∨ b = p) with rfl | rfl
  ·exact Nat.lt_succ_self _
  ·exact Nat.lt_succ_of_lt lt
 ·intro i v hv
  have hv : its[i]? = some v := by simpa using hv
  have hi : i < ns.length := by rw [hl]; exact (List.getElem?_eq_some_iff.1 hv).1
  obtain ⟨u, hu, t, ru⟩ := rv.get (i := i) (x := V.int ns[i]) (by rw [List.getElem?_map, List.getElem?_eq_getElem hi]; rfl)
  rw [hu] at hv
  cases hv
  refine ⟨t, ?_⟩
  rw [ru]
  show Value.int ns[i] t = Value.int (ns.getD i 0) t
  rw [List.getD_eq_getElem?_getD, List.getElem?_eq_getElem hi, Option.getD_some]
 ·intro s' t' m
  have I1 : Inv X pins σ H { s with heap := s'.heap, toks := s'.toks } := I.kept fun b o e => m.heap b o (fun z => by
   have z : b = s.heap.objs.size := by simpa using z
   exact absurd (Heap.lt_size e) (by rw [z]; exact Nat.lt_irrefl _)) (Heap.get?_push_of_some _ e)
  have e : ({ s with heap := s'.heap, toks := s'.toks } : Shared) = s' := by
   have h1 := m.gens
   have h2 := m.drawn
   have h3 := m.os
   cases s'
   simp only at h1 h2 h3
   subst h1 h2 h3
   rfl
  rw [e] at I1
  refine ⟨.int ns.sum, H, I1, ⟨t', ?_⟩, q⟩
  rw [preSum_eq]
  have : its.toArray.size = ns.length := by rw [List.size_toArray, ← hl]
  rw [this, List.take_length]
end
end L2
namespace L2
open PySem PySem.Spec PyProof.Rows
section
variable {X : Cx}
noncomputable def rAny (K : PySem.W.Frag) : List V → Hp → VK → Prop := fun xs H Q => ∃ (p : Addr) (bs : List Bool), xs = [.ref p] ∧ SqL K H p (bs.map V.bl) ∧ Q (.bl (bs.any id)) H
noncomputable def rAll (K : PySem.W.Frag) : List V → Hp → VK → Prop := fun xs H Q => ∃ (p : Addr) (bs : List Bool), xs = [.ref p] ∧ SqL K H p (bs.map V.bl) ∧ Q (.bl (bs.all id)) H
theorem range_any : ∀ (bs : List Bool), (List.range bs.length).any (fun i => bs.getD i false) = bs.any id := fun bs => by
 rw [Bool.eq_iff_iff, List.any_eq_true, List.any_eq_true]
 constructor
 ·rintro ⟨i, hi, h⟩
  have hi := List.mem_range.1 hi
  rw [List.getD_eq_getElem?_getD, List.getElem?_eq_getElem hi, Option.getD_some] at h
  exact ⟨_, List.getElem_mem hi, h⟩
 ·rintro ⟨b, hb, h⟩
  obtain ⟨i, hi, e⟩ := List.mem_iff_getElem.1 hb
  refine ⟨i, List.mem_range.2 hi, ?_⟩
  rw [List.getD_eq_getElem?_getD, List.getElem?_eq_getElem hi, Option.getD_some, e]
  exact h
theorem range_all : ∀ (bs : List Bool), (List.range bs.length).all (fun i => bs.getD i false) = bs.all id := fun bs => by
 rw [Bool.eq_iff_iff, List.all_eq_true, List.all_eq_true]
 constructor
 ·intro h b hb
  obtain ⟨i, hi, e⟩ := List.mem_iff_getElem.1 hb
  have := h i (List.mem_range.2 hi)
  rw [List.getD_eq_getElem?_getD, List.getElem?_eq_getElem hi, Option.getD_some, e] at this
  exact this
 ·intro h i hi
  have hi := List.mem_range.1 hi
  rw [List.getD_eq_getElem?_getD, List.getElem?_eq_getElem hi, Option.getD_some]
  exact h _ (List.getElem_mem hi)
theorem walk_bools {pins : List (Addr × Obj)} {σ : St} {H : Hp} {s : Shared} {p : Addr} {bs : List Bool} (hc : X.calm = true) (I : Inv X pins σ H s) (hq : SqL X.K H p (bs.map V.bl)) {R : Value → Shared → Prop}
  (k : ∀ Ia fp wr G n P St tr (s₂ : Shared), WalksS X.prog X.w X.A.in1 Ia fp wr G n P St → St 0 s₂ → TruthOf X.prog X.w X.A.in1 P tr → n = bs.length → (tr = fun i => bs.getD i false) → (∀ s', Moved wr G s₂ s' → Inv X pins σ H s') → R (.ref Ia) s₂) :
  wpAny (model X.prog X.w) X.A.in1 (pyIter (.ref p)) R X.xe s := by
 obtain ⟨its, rv, pl, hz⟩ := I.list hq
 have lt : p < s.heap.objs.size := by
  obtain ⟨o, n, e, _⟩ := id pl
  exact Heap.lt_size e
 have hl := rv.length
 rw [List.length_map] at hl
 refine wpAny_pyIter_list pl.isList ?_
 have W := (Walks.list (prog := X.prog) (w := X.w) (A := X.A.in1) (I.ok.hd hc) s.heap.objs.size p (Nat.ne_of_lt lt) its.toArray).toS
 refine k s.heap.objs.size _ _ _ _ _ _ (fun i => bs.getD i false) _ W ?_ ?_ ?_ rfl ?_
 ·exact ⟨⟨_, Heap.get?_push_size _ rfl, rfl, rfl⟩, Heap.IsList.push pl.isList _⟩
 ·intro i v s Q E hv hQ
  have hv : its[i]? = some v := by simpa using hv
  have hi : i < bs.length := by rw [hl]; exact (List.getElem?_eq_some_iff.1 hv).1
  obtain ⟨u, hu, ru⟩ := rv.get (i := i) (x := V.bl bs[i]) (by rw [List.getElem?_map, List.getElem?_eq_getElem hi]; rfl)
  have e0 : u = v := by
   rw [hu] at hv
   exact Option.some.inj hv
  have ru : u = Value.bool bs[i] := ru
  rw [← e0, ru]
  refine wpAny_truthy_bool ?_
  have e : bs.getD i false = bs[i] := by rw [List.getD_eq_getElem?_getD, List.getElem?_eq_getElem hi, Option.getD_some]
  rw [← e]
  exact hQ
 ·rw [List.size_toArray, ← hl]
 ·intro s' m
  have I1 : Inv X pins σ H { s with heap := s'.heap, toks := s'.toks } := I.kept fun b o e => m.heap b o (fun z => by
   have z : b = s.heap.objs.size := by simpa using z
   exact absurd (Heap.lt_size e) (by rw [z]; exact Nat.lt_irrefl _)) (Heap.get?_push_of_some _ e)
  have e : ({ s with heap := s'.heap, toks := s'.toks } : Shared) = s' := by
   have h1 := m.gens
   have h2 := m.drawn
   have h3 := m.os
   cases s'
   simp only at h1 h2 h3
   subst h1 h2 h3
   rfl
  rw [e] at I1
  exact I1
theorem call_anyK {K : PySem.W.Frag} (hc : X.calm = true) (hK : X.K = K := by rfl) : CallR X (.builtin "any") (rAny K) := by
 subst hK
 intro pins s σ H xs us Q I r h
 obtain ⟨p, bs, rfl, hq, q⟩ := h
 obtain ⟨u, rfl, ru⟩ := vals1 r
 cases ru
 refine call_any_walkS (walk_bools hc I hq fun Ia fp wr G n P St tr s₂ W h0 ht hn htr hm => ⟨Ia, fp, wr, G, n, P, St, tr, rfl, W, h0, ht, fun s' m => ⟨.bl _, H, hm s' m, rfl, ?_⟩⟩)
 rw [hn, htr, range_any]
 exact q
theorem call_allK {K : PySem.W.Frag} (hc : X.calm = true) (hK : X.K = K := by rfl) : CallR X (.builtin "all") (rAll K) := by
 subst hK
 intro pins s σ H xs us Q I r h
 obtain ⟨p, bs, rfl, hq, q⟩ := h
 obtain ⟨u, rfl, ru⟩ := vals1 r
 cases ru
 refine call_all_walkS (walk_bools hc I hq fun Ia fp wr G n P St tr s₂ W h0 ht hn htr hm => ⟨Ia, fp, wr, G, n, P, St, tr, rfl, W, h0, ht, fun s' m => ⟨.bl _, H, hm s' m, rfl, ?_⟩⟩)
 rw [hn, htr, range_all]
 exact q
theorem Inv.lstR {pins : List (Addr × Obj)} {σ : St} {H : Hp} {s : Shared} {l : Addr} {xs : List V} (I : Inv X pins σ H s) (hH : SqX X.K H l xs) : xs.length ≤ sizeLine ∧ ∃ (its : List Value) (n : Nat), Vals xs its ∧ xs.length = its.length ∧ s.heap.get? l = some { cls := .type "list", data := .seq its.toArray n } := by
 rcases hH with hH | ⟨its, n, hk, hz, r⟩
 ·obtain ⟨z, its, n, r, e⟩ := hH.ok I.hok
  exact ⟨z, its, n, r, r.length, e⟩
 ·have hl := r.length
  have hl2 : its.toList.length = its.size := Array.length_toList
  exact ⟨by omega, its.toList, n, r, r.length, I.kIn l _ hk⟩
theorem meets_ext (l : Addr) (items : Array Value) (n : Nat) (b : Addr) (ob : Obj) (T : String) (items2 : Array Value) (n2 : Nat) (hT : T = "list" ∨ T = "tuple") (hs0 : (!items.isEmpty && Builtin.List.listTooLong (items.size + items2.size)) = false) (hs1 : items.size ≤ sizeLine) (hs2 : items.size + items2.size ≤ sizeLine) :
  Meets (Builtin.«list.extend» ⟨[.ref l, .ref b], []⟩) (fun _ R s => s.heap.get? l = some { cls := .type "list", dict := none, data := .seq items n, slots := #[] } ∧ s.heap.get? b = some ob ∧ ob.cls = .type T ∧ ob.data = .seq items2 n2 ∧ R (.ok (.ret Value.none)) { s with heap := s.heap.update l (Obj.mapSeq fun x => x ++ items2), toks := s.toks }) := by
 intro prog w A R s h
 obtain ⟨hl, hb, hc, hd, hR⟩ := h
 show wpAny _ _ (Builtin.List.listExtendWith (.ref l) (.ref b) .none) _ _ s
 unfold Builtin.List.listExtendWith
 refine wpAny_bind (wpAny_typeOf (T := T) ⟨ob, hb, hc⟩ ?_)
 have hcond : (Builtin.List.listSameRef (.ref l) (.ref b) || Value.type T == Value.type "list" || Value.type T == Value.type "tuple") = true := by
  rcases hT with rfl | rfl <;> simp
 rw [if_pos hcond]
 refine wpAny_bind ?_
 unfold Builtin.List.listItems
 refine wpAny_bind (wpAny_seqItems hb hd (wpAny_pure ?_))
 refine wpAny_bind ?_
 refine wpAny_bind (wpAny_seqItems hl rfl (wpAny_pure ?_))
 rw [if_neg (by rw [hs0]; exact Bool.false_ne_true)]
 have hz' : (items ++ items2).size ≤ sizeLine + 1 := by rw [Array.size_append]; omega
 refine wpAny_bind (m := Builtin.List.listUpdate (.ref l) (· ++ items2)) ?_
 show wpAny _ _ (updateSeq l (fun x => x ++ items2)) _ _ s
 refine wpAny_updateSeq hl rfl (hz := hs1) (_hz' := hz') ?_
 exact wpAny_pure hR
noncomputable def rExtendR (K : PySem.W.Frag) : V → List V → Hp → VK → Prop := fun x vs H Q => ∃ l b xs zs, x = .ref l ∧ vs = [.ref b] ∧ H l = some (.lst xs) ∧ (SqX K H b zs ∨ SqT K H b zs) ∧ xs.length + zs.length ≤ sizeLine ∧ Q .non (upd H l (.lst (xs ++ zs)))
theorem mt_extendK {K : PySem.W.Frag} (hK : X.K = K := by rfl) : MtR X "list.extend" (rExtendR K) := by
 subst hK
 intro pins s σ H x vs v us Q I rx rv h
 obtain ⟨l, b, xs, zs, rfl, rfl, hH, hB, hz, q⟩ := h
 cases rx
 obtain ⟨u, rfl, ru⟩ := rv.one
 cases ru
 obtain ⟨z, its, n, r, hl, e⟩ := I.lstM hH
 have key : ∀ {its2 : List Value} {ob : Obj} {T : String} {n2 : Nat}, Vals zs its2 → (T = "list" ∨ T = "tuple") → s.heap.get? b = some ob → ob.cls = .type T → ob.data = .seq its2.toArray n2 →
   wpAny (model X.prog X.w) X.A (call (.builtin "list.extend") [.ref l, .ref b]) (EP X pins σ Q) X.xe s := by
  intro its2 ob T n2 r2 hT hb hc hd
  have hl2 := r2.length
  have hsz : its.toArray.size + its2.toArray.size ≤ sizeLine := by rw [List.size_toArray, List.size_toArray]; omega
  refine call_meets F.slot_list_extend ⟨_, e, rfl⟩ F.entry_list_extend (F.args_list_extend_2 _ _)
   (meets_ext l its.toArray n b ob T its2.toArray n2 hT (by rw [notLongL hsz, Bool.and_false]) (by rw [List.size_toArray]; omega) hsz) ⟨e, hb, hc, hd, ?_⟩
  refine ⟨.non, _, I.lset (its' := its ++ its2) hH e (by simp) (r.append r2) ?_, rfl, q⟩
  rw [List.length_append]
  omega
 rcases hB with hB | hB
 ·obtain ⟨z2, its2, n2, r2, hl2, e2⟩ := I.lstR hB
  exact key r2 (.inl rfl) e2 rfl rfl
 ·obtain ⟨its2, r2, ⟨ob, hb, hc, n2, hd⟩, _⟩ := I.tuple hB
  exact key r2 (.inr rfl) hb hc hd
end
end L2
namespace L2
open PySem PySem.Spec PyProof.Rows
theorem nolen_lri : typeLookup (.type "list_reverseiterator") "__len__" = pure none := by rw [typeLookup_type, builtinLookup_eq_fast]; kernel_rfl
theorem hint_lri : typeLookup (.type "list_reverseiterator") "__length_hint__" = pure (some (.builtin "list_reverseiterator.__length_hint__")) := by rw [typeLookup_type, builtinLookup_eq_fast]; kernel_rfl
section
variable {prog : Program} {w : World} {A : Around} {E : Value → Shared → Prop} {s : Shared}
theorem extend_rev {R : Result → Shared → Prop} (hh : A.handled = none) {it l : Addr} {items : Array Value} (hn : items.size ≤ sizeLine) (S : Addr) (res : Value) (c₀ : Nat) (hS : s.heap.get? S = some { cls := .type "list", data := .seq #[] c₀ })
  (hit : s.heap.IsRevIter it l ((items.size : Int) - 1)) (hl : s.heap.IsList l items) (hil : l ≠ it) (hSI : S ≠ it) (hSl : S ≠ l)
  (hR : ∀ h' tk acc' c', (∀ b o, b ≠ S → b ≠ it → s.heap.get? b = some o → h'.get? b = some o) → h'.get? S = some { cls := .type "list", dict := none, data := .seq acc' c', slots := #[] } →
   ItemsOf (fun i v => items[items.size - 1 - i]? = some v) acc' items.size → R (.ok (.ret res)) { s with heap := h', toks := tk }) :
  wpAny (model prog w) A.in1 (Builtin.List.listExtendWith (.ref S) (.ref it) res)
   (fun fin s' => match fin with | .done f => R (.ok f) s' | .again c' => c'.quiet = true ∧ codeAny (model prog w) A c' R s') (fun e s' => R (.error e) s') s := by
 have hSf : S ∉ [it, l] := fun hm => by
  rcases List.mem_cons.mp hm with e | hm
  ·exact hSI e
  ·exact hSl (List.mem_singleton.mp hm)
 have W := (Walks.listRev (prog := prog) (w := w) (A := A.in1) hh it l hil items).toS
 have hst : 0 ≤ items.size ∧ s.heap.IsRevIter it l ((items.size : Int) - 1 - ((0 : Nat) : Int)) ∧ s.heap.IsList l items := ⟨Nat.zero_le _, by simpa using hit, hl⟩
 unfold Builtin.List.listExtendWith
 refine wpAny_bind (wpAny_typeOf (T := "list_reverseiterator") hit.typeIs ?_)
 have h1 : Builtin.List.listSameRef (.ref S) (.ref it) = false := by simp [Builtin.List.listSameRef, hSI]
 rw [if_neg (by rw [h1]; decide)]
 refine wpAny_bind (wpAny_pyIter_revIter hit ?_)
 refine wpAny_bind (wpAny_holding ?_)
 unfold Builtin.List.listLengthHint
 refine wpAny_bind (wpAny_specialOf hit.typeIs nolen_lri ?_)
 show wpAny _ A.in1 (specialOf (Value.ref it) (Str.ofString "__length_hint__") >>= _) _ _ _
 refine wpAny_bind (wpAny_specialOf hit.typeIs hint_lri ?_)
 (generalize hid : ("list_reverseiterator.__length_hint__" : String) = id0; (fail_if_success (clear hid id0)); wp_delta; rw [show splitId id0 = some ("list_reverseiterator", "__length_hint__") from by subst hid; decide +kernel]; subst hid)
 refine wpAny_bind (wpAny_isInstance (b := true) hit.typeIs (by rw [isSubtype_type]; kernel_rfl) ?_)
 refine wpAny_pure ?_
 rw [if_neg (by decide)]
 refine wpAny_pure ⟨plainId_quiet F.plain_extend_loop _, codeAny_extend_loopS W hn _ hSf _ items.size 0 _ _ _ rfl (Nat.zero_le _) hst hS (ItemsOf.nil _) fun s' acc' c' hm hS' hacc => ?_⟩
 rw [Moved.eq_with hm]
 refine hR s'.heap s'.toks acc' c' (fun b ob hb hb2 e => hm.heap b ob (fun hmem => ?_) e) hS' hacc
 rcases List.mem_cons.mp hmem with e' | hmem
 ·exact hb e'
 ·exact hb2 (List.mem_singleton.mp hmem)
theorem call_list_rev {Q : Value → Shared → Prop} (hh : A.handled = none) {it l : Addr} {items : Array Value} (hn : items.size ≤ sizeLine) (hit : s.heap.IsRevIter it l ((items.size : Int) - 1)) (hl : s.heap.IsList l items) (hil : l ≠ it)
  (hQ : ∀ h' tk acc' c', (∀ b o, b ≠ it → s.heap.get? b = some o → h'.get? b = some o) →
   h'.get? s.heap.objs.size = some { cls := .type "list", dict := none, data := .seq acc' c', slots := #[] } → ItemsOf (fun i v => items[items.size - 1 - i]? = some v) acc' items.size → Q (.ref s.heap.objs.size) { s with heap := h', toks := tk }) :
  wpAny (model prog w) A (call (.type "list") [.ref it]) Q E s := by
 refine callType_codes (Q₁ := fun obj s₁ => obj = .ref s.heap.objs.size ∧ s₁ = { s with heap := s.heap.push { cls := .type "list", data := .seq #[] } }) F.called_list (F.typeCall_list_1 _) F.entry_list_init
  (code_list_new _ ⟨rfl, rfl⟩) fun obj s₁ h₁ => ?_
 obtain ⟨rfl, rfl⟩ := h₁
 have hS : (s.heap.push { cls := .type "list", data := .seq #[] }).get? s.heap.objs.size = some { cls := .type "list", data := .seq #[] } := Heap.get?_push_size _ rfl
 refine ⟨⟨_, hS, rfl⟩, F.args_list_init_2 _ _, ?_⟩
 show wpAny _ _ (do let old ← Builtin.List.listItems (.ref s.heap.objs.size); Builtin.List.listUpdate (.ref s.heap.objs.size) (fun _ => #[]); letGo old.toList.reverse; Builtin.List.listExtendWith (.ref s.heap.objs.size) (.ref it) .none) _ _ _
 refine wpAny_bind ?_
 unfold Builtin.List.listItems
 refine wpAny_bind (wpAny_seqItems hS rfl (wpAny_pure ?_))
 show wpAny _ _ (updateSeq s.heap.objs.size (fun _ => #[]) >>= fun _ => letGo (#[] : Array Value).toList.reverse >>= fun _ => Builtin.List.listExtendWith (.ref s.heap.objs.size) (.ref it) .none) _ _ _
 refine wpAny_bind (wpAny_updateSeq hS rfl ?_)
 have hS₂ := Heap.get?_update_self (Obj.mapSeq (fun _ => (#[] : Array Value))) hS rfl
 have ltI : it < s.heap.objs.size := let ⟨_, ho, _⟩ := hit; Heap.lt_size ho
 have ltl : l < s.heap.objs.size := let ⟨_, ho, _⟩ := hl; Heap.lt_size ho
 have oth : ∀ b o, b ≠ s.heap.objs.size → (s.heap.push { cls := .type "list", data := .seq #[] }).get? b = some o → ((s.heap.push { cls := .type "list", data := .seq #[] }).update s.heap.objs.size (Obj.mapSeq (fun _ => (#[] : Array Value)))).get? b = some o :=
  fun b o hb e => (Heap.get?_update_other _ _ (Ne.symm hb)).trans e
 have old : ∀ b o, s.heap.get? b = some o → ((s.heap.push { cls := .type "list", data := .seq #[] }).update s.heap.objs.size (Obj.mapSeq (fun _ => (#[] : Array Value)))).get? b = some o :=
  fun b o e => oth b o (Nat.ne_of_lt (Heap.lt_size e)) (Heap.get?_push_of_some _ e)
 refine wpAny_bind (wpAny_letGo ?_)
 refine extend_rev (A := A.in1) (items := items) hh hn s.heap.objs.size .none _ hS₂ (hit.at fun o e => old _ o e) (hl.at fun o e => old _ o e) hil (Ne.symm (Nat.ne_of_lt ltI)) (Ne.symm (Nat.ne_of_lt ltl)) fun h' tk acc' c' hk hS' hacc => ?_
 exact ⟨rfl, hQ h' tk acc' c' (fun b o hb e => hk b o (Nat.ne_of_lt (Heap.lt_size e)) hb (old b o e)) hS' hacc⟩
end
section
variable {X : Cx}
noncomputable def tListRev (K : PySem.W.Frag) (te : TE) : TE := fun σ H Q => te σ H fun x H1 => ∃ p ys, x = .ref p ∧ SqX K H1 p ys ∧ ∀ l, H1 l = none → Q (.ref l) (upd H1 l (.lst ys.reverse))
theorem pe_listRev {K : PySem.W.Frag} {e : Expr} {te : TE} {p p2 pos pos2 : Pos} (hc : X.calm = true) (hg : Gl X "list") (hm : X.mg "list" = none) (hg2 : Gl X "reversed") (hm2 : X.mg "reversed" = none) (ha : PE X e te) (hK : X.K = K := by rfl)
  (he2 : starEach [e] X.env = [(false, eval e X.env)] := by rfl) (he : starEach [.Call (.Name "reversed" p2) [e] [] pos2] X.env = [(false, eval (.Call (.Name "reversed" p2) [e] [] pos2) X.env)] := by rfl) :
  PE X (.Call (.Name "list" p) [.Call (.Name "reversed" p2) [e] [] pos2] [] pos) (tListRev K te) := by
 subst hK
 intro pins s σ H Q I h
 refine wpAny_Call_Name_kw (ld_blt I hg hm boot_list ?_ (by decide) (by decide))
 refine PyProof.Rows.callWith_type1 ?_ he rfl
 rw [he]
 show wpAny _ _ (spliced ((false, eval (.Call (.Name "reversed" p2) [e] [] pos2) X.env) :: backTo pos [])) _ _ s
 refine Calls.spliced_cons ?_
 refine wpAny_Call_Name_kw (ld_blt I hg2 hm2 Boot.«reversed» ?_ (by decide) (by decide))
 refine PyProof.Rows.callWith_type1 ?_ he2 rfl
 refine thn (pa_cons ha pa_nil he2 pos2 pins s σ H (fun vs H1 => ∃ p ys, vs = [.ref p] ∧ SqX X.K H1 p ys ∧ ∀ l, H1 l = none → Q (.ref l) (upd H1 l (.lst ys.reverse))) I ?_) fun us s1 ⟨vs, H1, I1, r1, q1⟩ => ?_
 ·have h : te σ H fun x H1 => ∃ p ys, x = .ref p ∧ SqX X.K H1 p ys ∧ ∀ l, H1 l = none → Q (.ref l) (upd H1 l (.lst ys.reverse)) := h
  show te σ H fun x H1 => ∃ p ys, [x] = [V.ref p] ∧ SqX X.K H1 p ys ∧ ∀ l, H1 l = none → Q (.ref l) (upd H1 l (.lst ys.reverse))
  have e : (fun (x : V) (H1 : Hp) => ∃ p ys, [x] = [V.ref p] ∧ SqX X.K H1 p ys ∧ ∀ l, H1 l = none → Q (.ref l) (upd H1 l (.lst ys.reverse))) = fun x H1 => ∃ p ys, x = .ref p ∧ SqX X.K H1 p ys ∧ ∀ l, H1 l = none → Q (.ref l) (upd H1 l (.lst ys.reverse)) := by
   funext x H1
   simp
  rw [e]
  exact h
 obtain ⟨p, ys, rfl, hq, q⟩ := q1
 obtain ⟨u, rfl, ru⟩ := vals1 r1
 cases ru
 obtain ⟨z, its, n, r, hl, e1⟩ := I1.lstR hq
 have hL : s1.heap.IsList p its.toArray := ⟨_, e1, rfl, n, rfl⟩
 have ltp : p < s1.heap.objs.size := Heap.lt_size e1
 refine call_reversed_list hL ?_
 refine Calls.spliced_nil ?_
 refine call_list_rev (items := its.toArray) (I1.ok.hd hc) (by rw [List.size_toArray]; omega) ⟨_, Heap.get?_push_size _ rfl, rfl, rfl⟩ (hL.push _) (Nat.ne_of_lt ltp) fun h' tk acc' c' hk hS' hacc => ?_
 have kept : ∀ b o, s1.heap.get? b = some o → h'.get? b = some o := fun b o e => hk b o (Nat.ne_of_lt (Heap.lt_size e)) (Heap.get?_push_of_some _ e)
 have hsz : s1.heap.objs.size ≤ (s1.heap.push (revObj p ((its.toArray.size : Int) - 1))).objs.size := by rw [Heap.size_push]; exact Nat.le_succ _
 have ha : acc'.toList = its.reverse := by
  obtain ⟨a1, a2⟩ := hacc
  refine List.ext_getElem? fun i => ?_
  by_cases hi : i < its.length
  ·have hi' : i < acc'.size := by rw [a1, List.size_toArray]; exact hi
   have e3 : acc'.toList[i]? = some acc'[i] := by simp [hi']
   have e4 := a2 i acc'[i] (by simp [hi'])
   rw [e3, List.getElem?_reverse hi, ← e4]
   simp
  ·rw [List.getElem?_eq_none (by simp [a1]; omega), List.getElem?_eq_none (by simp; omega)]
 have hv : Vals ys.reverse its.reverse := r.reverse
 refine ⟨.ref _, _, I1.laid (o := .lst ys.reverse) (t' := tk) kept hsz ⟨by rw [List.length_reverse]; exact z, its.reverse, c', hv, ?_⟩, rfl, q _ (I1.hok.fresh hsz)⟩
 rw [hS', ← ha]
end
end L2
namespace HT
open PySem PyProof.Rows
section
variable {prog : Program} {w : World} {A : Around} {E : Value → Shared → Prop} {s : Shared}
theorem getItem_tuple_whole {t sl : Addr} {items : Array Value} {vl vu : Value} {lo hi : Option Int} {Q : Value → Shared → Prop} (ht : IsTup s.heap t items) (hs : s.heap.IsSliceOf sl vl vu .none) (pl : IsPart vl lo) (pu : IsPart vu hi)
  (hw : sIx items.size 0 lo = 0 ∧ sIx items.size items.size hi = items.size) (h : Q (.ref t) s) : wpAny (model prog w) A (getItem (.ref t) (.ref sl)) Q E s := by
 obtain ⟨os, hos, hcs, hds⟩ := id hs
 have hTs : s.TypeIs (.ref sl) "slice" := ⟨os, hos, hcs⟩
 unfold getItem
 try with_reducible refine wpAny_holding ?_
 first | refine wpAny_bind (wpAny_pure ?_) | skip
 refine wpAny_bind (wpAny_sequenceKey ht.typeIs (by decide) ?_)
 refine wpAny_bind (wpAny_callSpecial?_slot (name := Str.ofString "__getitem__") ht.typeIs PyProof.Rows.slot_tuple_getitem
  (wpAny_call_entry PyProof.Rows.slot_tuple_getitem ht.typeIs entry_tuple_getitem ?_ (args_tuple_getitem _ _)))
 show wpAny _ _ (Builtin.Tuple.tupleItemsOf (.ref t) >>= _) _ _ s
 refine wpAny_bind (tupleItemsOf_ ht ?_)
 refine wpAny_bind (wpAny_typeOf hTs ?_)
 rw [if_pos (by decide)]
 refine wpAny_bind (sliceApplied_gen hs pl pu ?_)
 have hyes : ((((sIx items.size 0 lo : Nat) : Int) == 0 && (1 : Int) == 1 && (sIx items.size items.size hi - sIx items.size 0 lo) == items.size) = true) := by
  rw [hw.1, hw.2]
  simp
 show wpAny _ _ (if (((sIx items.size 0 lo : Nat) : Int) == 0 && (1 : Int) == 1 && (sIx items.size items.size hi - sIx items.size 0 lo) == items.size) = true then _ else _) _ _ s
 rw [if_pos hyes]
 refine wpAny_bind ?_
 unfold Builtin.Tuple.tupleIsExact
 refine wpAny_bind (wpAny_typeOf ht.typeIs ?_)
 refine wpAny_pure ?_
 rw [if_pos (by decide)]
 refine wpAny_bind (wpAny_rule ?_)
 exact wpAny_pure ⟨_, rfl, wpAny_pure h⟩
end
end HT
namespace L2
open PySem PySem.Spec PyProof.Rows
section
variable {X : Cx}
noncomputable def rSlA (K : PySem.W.Frag) : V → Option Int → Option Int → Hp → VK → Prop := fun x lo hi H Q => ∃ a xs, x = .ref a ∧ SqT K H a xs ∧
 (HT.sIx xs.length 0 lo = 0 ∧ HT.sIx xs.length xs.length hi = xs.length → Q (.ref a) H) ∧ (¬ (HT.sIx xs.length 0 lo = 0 ∧ HT.sIx xs.length xs.length hi = xs.length) → ∀ p, H p = none → Q (.ref p) (upd H p (.tup (cutV xs lo hi))))
theorem sl_tupA {K : PySem.W.Frag} (hK : X.K = K := by rfl) : SlR X (rSlA K) := by
 subst hK
 intro pins s σ H x v vl vu lo hi sl Q I rx hs pl pu h
 obtain ⟨a, xs, rfl, hx, q1, q2⟩ := h
 by_cases hw : HT.sIx xs.length 0 lo = 0 ∧ HT.sIx xs.length xs.length hi = xs.length
 ·cases rx
  obtain ⟨its, r, ht, hz⟩ := I.tuple hx
  have hlen : its.toArray.size = xs.length := by rw [List.size_toArray]; exact r.length.symm
  refine ⟨"tuple", _, PyProof.Rows.slot_tuple_getitem.lookup, ht.typeIs, ?_⟩
  exact HT.getItem_tuple_whole ht hs pl pu (by rw [hlen]; exact hw) ⟨.ref a, H, I, rfl, q1 hw⟩
 ·exact sl_tup pins s σ H (.ref a) v vl vu lo hi sl Q I rx hs pl pu ⟨a, xs, rfl, hx, hw, q2 hw⟩
section
variable {X : Cx} {tg : Expr}
end
end
end L2
namespace L2
open PySem PySem.Spec PyProof.Rows
section
variable {env : Env} {r : List Expr}
theorem se_Tuple {a b c} : starEach (.Tuple a b c :: r) env = (false, eval (.Tuple a b c) env) :: starEach r env := by rw [starEach]; simp
theorem se_List {a b} : starEach (.List a b :: r) env = (false, eval (.List a b) env) :: starEach r env := by rw [starEach]; simp
theorem se_Constant {a b c} : starEach (.Constant a b c :: r) env = (false, eval (.Constant a b c) env) :: starEach r env := by rw [starEach]; simp
theorem se_Name {a b} : starEach (.Name a b :: r) env = (false, eval (.Name a b) env) :: starEach r env := by rw [starEach]; simp
theorem se_Subscript {a b c} : starEach (.Subscript a b c :: r) env = (false, eval (.Subscript a b c) env) :: starEach r env := by rw [starEach]; simp
theorem se_BinOp {a b c d} : starEach (.BinOp a b c d :: r) env = (false, eval (.BinOp a b c d) env) :: starEach r env := by rw [starEach]; simp
theorem se_Call {a b c d} : starEach (.Call a b c d :: r) env = (false, eval (.Call a b c d) env) :: starEach r env := by rw [starEach]; simp
theorem se_IfExp {a b c d} : starEach (.IfExp a b c d :: r) env = (false, eval (.IfExp a b c d) env) :: starEach r env := by rw [starEach]; simp
theorem se_Attribute {a b c} : starEach (.Attribute a b c :: r) env = (false, eval (.Attribute a b c) env) :: starEach r env := by rw [starEach]; simp
end
end L2
namespace L2
open PySem PySem.Spec PyProof.Rows PySem.Builtin
theorem noFill_tuple_mul : fillsNumberSlot (.type "tuple") "mul" = pure false :=
 PySem.fillsNumberSlot_seq (id := "tuple.__mul__") (r := some (.builtin "tuple.__rmul__")) F.slot_tuple_mul.lookup (by decide +kernel) F.slot_tuple_rmul.lookup (by decide +kernel)
theorem repeat_tuple : seqRepeat? (.type "tuple") = pure (some (.builtin "tuple.__mul__")) := by
 unfold seqRepeat?
 rw [PySem.seqSlot_of (T := "tuple") (name := "__mul__") (id := "tuple.__mul__") F.slot_tuple_mul.lookup (by decide +kernel), PySem.seqSlot_of (T := "tuple") (name := "__rmul__") (id := "tuple.__rmul__") F.slot_tuple_rmul.lookup (by decide +kernel)]
 rfl
theorem int_rmul_tuple (a : Int) (t : Tok) (l : Addr) (items : Array Value) (n : Nat) (dd : Option Addr) (sl : Array (Option Value)) :
  Meets (Builtin.«int.__rmul__» ⟨[.int a t, .ref l], []⟩) (fun _ R s => s.heap.get? l = some { cls := .type "tuple", dict := dd, data := .seq items n, slots := sl } ∧ R (.ok (.ret Value.notImplemented)) s) :=
 .of_wp fun prog w A R s h => by obtain ⟨hp, g, d, tk, os⟩ := s; obtain ⟨hl, h⟩ := h; wp_walk; exact ⟨_, rfl, h⟩
theorem tuple_mul0 (l : Addr) (items : Array Value) (n : Nat) (dd : Option Addr) (sl : Array (Option Value)) (k : Int) (t : Tok) (hk : ¬ (decide (k < -(2 ^ 63)) || decide (k ≥ 2 ^ 63)) = true) (hc : (items.isEmpty || k == 1) = true) :
  Meets (Builtin.«tuple.__mul__» ⟨[.ref l, .int k t], []⟩) (fun _ R s => s.heap.get? l = some { cls := .type "tuple", dict := dd, data := .seq items n, slots := sl } ∧ R (.ok (.ret (Value.ref l))) { s with heap := s.heap, toks := s.toks }) :=
 .of_wp fun prog w A R s h => by obtain ⟨hp, g, d, tk, os⟩ := s; obtain ⟨hl, h⟩ := h; have f1 := AutoSeq1.idx_int; wp_walk using wpAny_loadPart' hl; refine wpAny_ite_false (decide_eq_false hk) ?_; wp_walk using wpAny_loadPart' hl; exact ⟨_, rfl, h⟩
theorem tuple_mul1 (l : Addr) (items : Array Value) (n : Nat) (dd : Option Addr) (sl : Array (Option Value)) (k : Int) (t : Tok) (hk : ¬ (decide (k < -(2 ^ 63)) || decide (k ≥ 2 ^ 63)) = true) (hc : ¬ (items.isEmpty || k == 1) = true) (h0 : (decide (k ≤ 0) || items.isEmpty) = true) :
  Meets (Builtin.«tuple.__mul__» ⟨[.ref l, .int k t], []⟩) (fun _ R s => s.heap.get? l = some { cls := .type "tuple", dict := dd, data := .seq items n, slots := sl } ∧ R (.ok (.ret (Value.ref s.heap.objs.size))) { s with heap := s.heap.push { cls := Value.type "tuple", data := Data.seq #[] }, toks := s.toks }) :=
 .of_wp fun prog w A R s h => by obtain ⟨hp, g, d, tk, os⟩ := s; obtain ⟨hl, h⟩ := h; have f1 := AutoSeq1.idx_int; wp_walk using wpAny_loadPart' hl; refine wpAny_ite_false (decide_eq_false hk) ?_; wp_walk using wpAny_loadPart' hl; exact ⟨_, rfl, h⟩
theorem tuple_mul2 (l : Addr) (items : Array Value) (n : Nat) (dd : Option Addr) (sl : Array (Option Value)) (k : Int) (t : Tok) (hk : ¬ (decide (k < -(2 ^ 63)) || decide (k ≥ 2 ^ 63)) = true) (hc : ¬ (items.isEmpty || k == 1) = true) (h0 : ¬ (decide (k ≤ 0) || items.isEmpty) = true)
  (hm : ¬ (items.size : Int) * k > (2 ^ 63 - 1) / 8) (hl2 : ¬ Tuple.tupleTooMany ((items.size : Int) * k) = true) (hsz : ((List.replicate k.toNat items).foldl (fun x1 x2 => x1 ++ x2) #[]).size ≤ sizeLine) :
  Meets (Builtin.«tuple.__mul__» ⟨[.ref l, .int k t], []⟩) (fun _ R s => s.heap.get? l = some { cls := .type "tuple", dict := dd, data := .seq items n, slots := sl } ∧ R (.ok (.ret (Value.ref s.heap.objs.size))) { s with heap := s.heap.push { cls := Value.type "tuple", data := Data.seq ((List.replicate k.toNat items).foldl (· ++ ·) #[]) }, toks := s.toks }) :=
 .of_wp fun prog w A R s h => by obtain ⟨hp, g, d, tk, os⟩ := s; obtain ⟨hl, h⟩ := h; have f1 := AutoSeq1.idx_int; wp_walk using wpAny_loadPart' hl; refine wpAny_ite_false (decide_eq_false hk) ?_; wp_walk using wpAny_loadPart' hl; refine wpAny_ite_false (decide_eq_false hm) ?_; wp_walk using wpAny_loadPart' hl; exact ⟨_, rfl, h⟩
section
variable {X : Cx}
noncomputable def rRepT (K : PySem.W.Frag) : R2 := fun x y H Q => ∃ a k xs, x = .ref a ∧ y = .int k ∧ SqT K H a xs ∧ -(2 ^ 63) ≤ k ∧ k < 2 ^ 63 ∧ xs.length * k.toNat ≤ sizeLine ∧
 ((xs = [] ∨ k = 1) → Q (.ref a) H) ∧ (¬ (xs = [] ∨ k = 1) → ∀ p, H p = none → Q (.ref p) (upd H p (.tup (List.replicate k.toNat xs).flatten)))
theorem op_repTK {K : PySem.W.Frag} (hK : X.K = K := by rfl) : OpR X (binaryOp .Mult) (rRepT K) := by
 subst hK
 intro pins s σ H x y v u Q I rx ry h
 obtain ⟨a, k, xs, rfl, rfl, hH, h1, h2, hz, q1, q2⟩ := h
 cases rx
 obtain ⟨t, rfl⟩ := ry
 obtain ⟨its, r, p1, _⟩ := I.tuple hH
 obtain ⟨⟨cls, dd, data, sl⟩, ho, hc, n, hd⟩ := id p1
 simp only at hc hd
 subst hc hd
 have hl := r.length
 have hk : ¬ (decide (k < -(2 ^ 63)) || decide (k ≥ 2 ^ 63)) = true := by
  intro h
  rcases Bool.or_eq_true_iff.1 h with h | h
  ·have := of_decide_eq_true h; omega
  ·have := of_decide_eq_true h; omega
 have hnew : ∀ m : Nat, List.foldl (fun x1 x2 => x1 ++ x2) #[] (List.replicate m its.toArray) = (List.replicate m its).flatten.toArray := fun m => by
  have := foldl_rep its m []
  rw [List.nil_append] at this
  exact this
 refine wpAny_binaryOp_repeat_ref (T := "tuple") (U := "int") (by decide) ⟨_, ho, rfl⟩ (fun s' => typeIs_int s' k t) noFill_tuple_mul F.fills_int_mul F.slot_int_rmul repeat_tuple F.slot_int_index.lookup
  (call_meets F.slot_int_rmul (typeIs_int s k t) F.entry_int_rmul (F.args_int_rmul_2 _ _) (int_rmul_tuple k t a its.toArray n dd sl) ⟨ho, rfl, ⟨_, ho, rfl⟩, ?_⟩)
 by_cases hc : xs = [] ∨ k = 1
 ·refine call_meets F.slot_tuple_mul ⟨_, ho, rfl⟩ F.entry_tuple_mul (F.args_tuple_mul_2 _ _) (tuple_mul0 a its.toArray n dd sl k t hk ?_) ⟨ho, ⟨.ref a, H, I, rfl, q1 hc⟩⟩
  rcases hc with rfl | rfl
  ·have : its = [] := r.nil_iff.mpr rfl
   subst this
   rfl
  ·simp
 ·have hne : its ≠ [] := fun z => hc (.inl (r.nil_iff.mp z))
  have hc' : ¬ (its.toArray.isEmpty || k == 1) = true := by
   intro h
   rcases Bool.or_eq_true_iff.1 h with h | h
   ·exact hne (by simpa using h)
   ·exact hc (.inr (by simpa using h))
  by_cases h0 : k ≤ 0
  ·refine call_meets F.slot_tuple_mul ⟨_, ho, rfl⟩ F.entry_tuple_mul (F.args_tuple_mul_2 _ _) (tuple_mul1 a its.toArray n dd sl k t hk hc' (by simp [h0])) ⟨ho, ?_⟩
   refine ⟨.ref s.heap.objs.size, _, I.laid (t' := s.toks) (o := .tup (List.replicate k.toNat xs).flatten) (fun b ob q => Heap.get?_push_of_some _ q) (Nat.le_refl _) ?_, rfl, q2 hc _ (I.hok.fresh (Nat.le_refl _))⟩
   have e0 : k.toNat = 0 := by omega
   rw [e0]
   exact ⟨by simp, _, .nil, IsTup.new _ _⟩
  ·have hm : ((its.toArray.size : Nat) : Int) * k = ((xs.length * k.toNat : Nat) : Int) := by
    rw [List.size_toArray, ← hl]
    have : k = (k.toNat : Int) := by omega
    rw [Int.natCast_mul, ← this]
   have hs : xs.length * k.toNat ≤ 2 ^ 24 := hz
   refine call_meets F.slot_tuple_mul ⟨_, ho, rfl⟩ F.entry_tuple_mul (F.args_tuple_mul_2 _ _) (tuple_mul2 a its.toArray n dd sl k t hk hc' (by simp [h0]; exact hne) (by rw [hm]; omega) (by
    rw [hm]
    unfold Tuple.tupleTooMany
    intro h
    have := of_decide_eq_true h
    have hz' : ((xs.length * k.toNat : Nat) : Int) ≤ (sizeLine : Int) := Int.ofNat_le.2 hz
    omega) (by rw [hnew, List.size_toArray, ← (r.rep k.toNat).length, len_rep, Nat.mul_comm]; exact hz)) ⟨ho, ?_⟩
   rw [hnew]
   refine ⟨.ref s.heap.objs.size, _, I.laid (t' := s.toks) (o := .tup (List.replicate k.toNat xs).flatten) (fun b ob q => Heap.get?_push_of_some _ q) (Nat.le_refl _) ?_, rfl, q2 hc _ (I.hok.fresh (Nat.le_refl _))⟩
   exact ⟨by rw [len_rep, Nat.mul_comm]; exact hz, _, r.rep k.toNat, IsTup.new _ _⟩
end
end L2
namespace L2
open PySem PySem.Spec PyProof.Rows PySem.Calls
section
variable {X : Cx}
end
section
variable {prog : Program} {w : World} {A : Around} {E : Value → Shared → Prop} {s : Shared} {T : String} {r d : Addr} {n : Nat} {P : Nat → Value → Prop} {OK : Heap → Prop} {Q : Value → Shared → Prop}
end
section
variable {X : Cx}
end
section
variable {prog : Program} {w : World} {A : Around} {E : Value → Shared → Prop} {s : Shared} {T : String} {r d : Addr} {n : Nat} {P : Nat → Value → Prop} {OK : Heap → Prop} {Q : Value → Shared → Prop}
end
section
variable {X : Cx}
end
end L2
namespace L2
open PySem
inductive Xv where
 | non | bl (b : Bool) | int (i : Int) | str (x : Str) | tup (xs : List Xv) | ct (xs : List Xv) | ref (n : Nat)
inductive Ce where
 | lst (xs : List Xv)
 | frz (xs : List Xv)
 | dk (kvs : List (Key × Xv))
 | dt (kvs : List (List Key × Xv))
 | ins (nm : Str) (fs : List (Str × Xv))
 | fdk (kvs : List (Key × Xv))
 | dn (kvs : List (NK × Xv × Xv))
 | exc (nm : Str)
noncomputable abbrev Sto := List Ce
noncomputable abbrev Rho := List (Option Xv)
noncomputable def Ce.fz : Ce → Bool
 | .frz _ => true
 | .fdk _ => true
 | .exc _ => true
 | _ => false
noncomputable def HO.mu : HO → Bool
 | .lst _ => true
 | .dK _ => true
 | .dT _ => true
 | .dN _ => true
 | .ins _ _ _ => true
 | .set _ _ => true
 | _ => false
noncomputable def KeepI (H H' : Hp) : Prop := ∀ b u, H b = some u → u.mu = false → H' b = some u
theorem KeepI.refl (H : Hp) : KeepI H H := fun _ _ e _ => e
theorem KeepI.trans {H H1 H2 : Hp} (a : KeepI H H1) (b : KeepI H1 H2) : KeepI H H2 := fun x u e m => b x u (a x u e m) m
theorem KeepI.same {H H' : Hp} (S : Same H H') : KeepI H H' := fun b u e _ => S b u e
structure Ext (j : List Addr) (H : Hp) (j' : List Addr) (H' : Hp) : Prop where
 pre : ∀ (n : Nat) a, j[n]? = some a → j'[n]? = some a
 imm : KeepI H H'
theorem Ext.refl {j : List Addr} {H : Hp} : Ext j H j H := ⟨fun _ _ e => e, KeepI.refl _⟩
theorem Ext.trans {j j1 j2 : List Addr} {H H1 H2 : Hp} (a : Ext j H j1 H1) (b : Ext j1 H1 j2 H2) : Ext j H j2 H2 := ⟨fun n x e => b.pre n x (a.pre n x e), a.imm.trans b.imm⟩
theorem Ext.same {j : List Addr} {H H' : Hp} (S : Same H H') : Ext j H j H' := ⟨fun _ _ e => e, KeepI.same S⟩
mutual
inductive Xis (K : PySem.W.Frag) (j : List Addr) (H : Hp) : Xv → V → Prop where
 | non : Xis K j H .non .non
 | bl (b : Bool) : Xis K j H (.bl b) (.bl b)
 | int (i : Int) : Xis K j H (.int i) (.int i)
 | str (x : Str) : Xis K j H (.str x) (.str x)
 | tup {a : Addr} {vs : List V} {xs : List Xv} : H a = some (.tup vs) → XisL K j H xs vs → Xis K j H (.tup xs) (.ref a)
 | ct {a : Addr} {vs : List V} {xs : List Xv} : (∀ H, SqT K H a vs) → XisL K j H xs vs → Xis K j H (.ct xs) (.ref a)
 | ref {n : Nat} {a : Addr} : j[n]? = some a → Xis K j H (.ref n) (.ref a)
inductive XisL (K : PySem.W.Frag) (j : List Addr) (H : Hp) : List Xv → List V → Prop where
 | nil : XisL K j H [] []
 | cons {x : Xv} {v : V} {xs : List Xv} {vs : List V} : Xis K j H x v → XisL K j H xs vs → XisL K j H (x :: xs) (v :: vs)
end
mutual
theorem Xis.mono {K : PySem.W.Frag} {j j' : List Addr} {H H' : Hp} (S : Ext j H j' H') : ∀ {x : Xv} {v : V}, Xis K j H x v → Xis K j' H' x v
 | _, _, .non => .non
 | _, _, .bl b => .bl b
 | _, _, .int i => .int i
 | _, _, .str x => .str x
 | _, _, .tup h l => .tup (S.imm _ _ h rfl) (XisL.mono S l)
 | _, _, .ct h l => .ct h (XisL.mono S l)
 | _, _, .ref h => .ref (S.pre _ _ h)
theorem XisL.mono {K : PySem.W.Frag} {j j' : List Addr} {H H' : Hp} (S : Ext j H j' H') : ∀ {xs : List Xv} {vs : List V}, XisL K j H xs vs → XisL K j' H' xs vs
 | _, _, .nil => .nil
 | _, _, .cons h l => .cons (Xis.mono S h) (XisL.mono S l)
end
section
variable {K : PySem.W.Frag} {j : List Addr} {H : Hp}
theorem XisL.len : ∀ {xs : List Xv} {vs : List V}, XisL K j H xs vs → vs.length = xs.length
 | _, _, .nil => rfl
 | _, _, .cons _ l => by rw [List.length_cons, List.length_cons, l.len]
theorem XisL.get : ∀ {xs : List Xv} {vs : List V} {i : Nat} {x : Xv}, XisL K j H xs vs → xs[i]? = some x → ∃ v, vs[i]? = some v ∧ Xis K j H x v
 | _, _, _, _, .nil, e => by simp at e
 | _, _, 0, _, .cons h _, e => by simp at e; subst e; exact ⟨_, rfl, h⟩
 | _, _, i + 1, x, .cons _ l, e => by
  obtain ⟨v, e1, e2⟩ := l.get (i := i) (x := x) (by simpa using e)
  exact ⟨v, by simpa using e1, e2⟩
theorem XisL.append : ∀ {xs ys : List Xv} {vs ws : List V}, XisL K j H xs vs → XisL K j H ys ws → XisL K j H (xs ++ ys) (vs ++ ws)
 | _, _, _, _, .nil, h => h
 | _, _, _, _, .cons h l, k => .cons h (l.append k)
theorem XisL.one {v : V} {x : Xv} (h : Xis K j H x v) : XisL K j H [x] [v] := .cons h .nil
theorem XisL.take : ∀ {xs : List Xv} {vs : List V} (n : Nat), XisL K j H xs vs → XisL K j H (xs.take n) (vs.take n)
 | _, _, 0, _ => .nil
 | _, _, _ + 1, .nil => .nil
 | _, _, n + 1, .cons h l => .cons h (l.take n)
theorem XisL.drop : ∀ {xs : List Xv} {vs : List V} (n : Nat), XisL K j H xs vs → XisL K j H (xs.drop n) (vs.drop n)
 | _, _, 0, h => h
 | _, _, _ + 1, .nil => .nil
 | _, _, n + 1, .cons h l => l.drop n
theorem XisL.ints : ∀ ns : List Int, XisL K j H (ns.map Xv.int) (ns.map V.int)
 | [] => .nil
 | n :: r => .cons (.int n) (XisL.ints r)
theorem XisL.reverse : ∀ {xs : List Xv} {vs : List V}, XisL K j H xs vs → XisL K j H xs.reverse vs.reverse
 | _, _, .nil => .nil
 | _, _, .cons h l => by
  rw [List.reverse_cons, List.reverse_cons]
  exact l.reverse.append (.one h)
theorem XisL.dropLast {xs : List Xv} {vs : List V} (h : XisL K j H xs vs) : XisL K j H xs.dropLast vs.dropLast := by
 rw [List.dropLast_eq_take, List.dropLast_eq_take, h.len]
 exact h.take _
theorem XisL.at_ {xs : List Xv} {vs : List V} {i : Int} {x : Xv} (h : XisL K j H xs vs) (e : atI xs i = some x) : ∃ v, atI vs i = some v ∧ Xis K j H x v := by
 unfold atI at e ⊢
 rw [h.len]
 cases e1 : ixN xs.length i with
 | none => rw [e1] at e; cases e
 | some m =>
  rw [e1] at e
  obtain ⟨v, e3, e4⟩ := h.get (i := m) e
  exact ⟨v, e3, e4⟩
theorem Xis.int_inv {v : V} {i : Int} (h : Xis K j H (.int i) v) : v = .int i := by cases h; rfl
theorem Xis.bl_inv {v : V} {b : Bool} (h : Xis K j H (.bl b) v) : v = .bl b := by cases h; rfl
theorem Xis.str_inv {v : V} {b : Str} (h : Xis K j H (.str b) v) : v = .str b := by cases h; rfl
theorem Xis.non_inv {v : V} (h : Xis K j H .non v) : v = .non := by cases h; rfl
theorem Xis.ref_inv {v : V} {n : Nat} (h : Xis K j H (.ref n) v) : ∃ a, v = .ref a ∧ j[n]? = some a := by cases h with | ref e => exact ⟨_, rfl, e⟩
theorem Xis.tup_inv {v : V} {xs : List Xv} (h : Xis K j H (.tup xs) v) : ∃ a vs, v = .ref a ∧ H a = some (.tup vs) ∧ XisL K j H xs vs := by cases h with | tup a b => exact ⟨_, _, rfl, a, b⟩
theorem XisL.cons_inv {vs : List V} {x : Xv} {xs : List Xv} (h : XisL K j H (x :: xs) vs) : ∃ v r, vs = v :: r ∧ Xis K j H x v ∧ XisL K j H xs r := by cases h with | cons a b => exact ⟨_, _, rfl, a, b⟩
theorem XisL.nil_inv {vs : List V} (h : XisL K j H [] vs) : vs = [] := by cases h; rfl
theorem XisL.d1 {vs : List V} {a : Xv} (h : XisL K j H [a] vs) : ∃ x, vs = [x] ∧ Xis K j H a x := by
 obtain ⟨x, r, rfl, hx, h⟩ := h.cons_inv
 obtain rfl := h.nil_inv
 exact ⟨x, rfl, hx⟩
noncomputable def Xv.tupOf : Xv → Option (List Xv)
 | .tup xs => some xs
 | .ct xs => some xs
 | _ => none
theorem Xis.tupO {v : V} {x : Xv} {xs : List Xv} (h : Xis K j H x v) (e : x.tupOf = some xs) : ∃ a vs, v = .ref a ∧ SqT K H a vs ∧ XisL K j H xs vs := by
 cases h with
 | tup h l => simp [Xv.tupOf] at e; subst e; exact ⟨_, _, rfl, SqT.of h, l⟩
 | ct h l => simp [Xv.tupOf] at e; subst e; exact ⟨_, _, rfl, h H, l⟩
 | _ => simp [Xv.tupOf] at e
end
inductive KX {κ : Type} (K : PySem.W.Frag) (j : List Addr) (H : Hp) : List (κ × Xv) → List (κ × V) → Prop where
 | nil : KX K j H [] []
 | cons {k : κ} {x : Xv} {v : V} {r : List (κ × Xv)} {rs : List (κ × V)} : Xis K j H x v → KX K j H r rs → KX K j H ((k, x) :: r) ((k, v) :: rs)
theorem KX.mono {κ : Type} {K : PySem.W.Frag} {j j' : List Addr} {H H' : Hp} (S : Ext j H j' H') : ∀ {xs : List (κ × Xv)} {vs : List (κ × V)}, KX K j H xs vs → KX K j' H' xs vs
 | _, _, .nil => .nil
 | _, _, .cons h l => .cons (h.mono S) (l.mono S)
mutual
noncomputable def xkey : Xv → Option NK
 | .int i => some (.int i)
 | .str x => some (.str x)
 | .tup l => (xkeyL l).map .tup
 | .ct l => (xkeyL l).map .tup
 | .non => none
 | .bl _ => none
 | .ref _ => none
noncomputable def xkeyL : List Xv → Option (List NK)
 | [] => some []
 | x :: r => (xkey x).bind fun k => (xkeyL r).map (k :: ·)
end
inductive NX (K : PySem.W.Frag) (j : List Addr) (H : Hp) : List (NK × Xv × Xv) → List (NK × Addr × V) → Prop where
 | nil : NX K j H [] []
 | cons {k : NK} {x y : Xv} {b : Addr} {v : V} {r : List (NK × Xv × Xv)} {rs : List (NK × Addr × V)} : xkey x = some k ∧ ndep k ≤ 8 → Xis K j H x (.ref b) → Xis K j H y v → NX K j H r rs → NX K j H ((k, x, y) :: r) ((k, b, v) :: rs)
theorem NX.mono {K : PySem.W.Frag} {j j' : List Addr} {H H' : Hp} (S : Ext j H j' H') : ∀ {xs : List (NK × Xv × Xv)} {vs : List (NK × Addr × V)}, NX K j H xs vs → NX K j' H' xs vs
 | _, _, .nil => .nil
 | _, _, .cons e h1 h2 l => .cons e (h1.mono S) (h2.mono S) (l.mono S)
noncomputable def CeIs (K : PySem.W.Frag) (j : List Addr) (H : Hp) (a : Addr) : Ce → Prop
 | .lst xs => ∃ vs, H a = some (.lst vs) ∧ XisL K j H xs vs
 | .frz xs => ∃ vs, ((∃ o, H a = some (.frz o (.lst vs))) ∨ ∀ H, SqX K H a vs) ∧ XisL K j H xs vs
 | .dk kvs => ∃ ks : List (Key × V), H a = some (.dK ks) ∧ KX K j H kvs ks
 | .dt kvs => ∃ ks : List (List Key × V), H a = some (.dT ks) ∧ KX K j H kvs ks
 | .ins nm fs => ∃ (C dx : Addr) (vs : List (Str × V)), PySem.W.nsIn K mainGlobals nm = some (some (.ref C)) ∧ H a = some (.ins C dx vs) ∧ KX K j H fs vs
 | .fdk kvs => ∃ (o : Obj) (ks : List (Key × V)), H a = some (.frz o (.dK ks)) ∧ KX K j H kvs ks
 | .dn kvs => ∃ ks : List (NK × Addr × V), H a = some (.dN ks) ∧ NX K j H kvs ks
 | .exc nm => ∃ C : Addr, PySem.W.nsIn K mainGlobals nm = some (some (.ref C)) ∧ H a = some (excO a (.ref C))
theorem CeIs.mu {K : PySem.W.Frag} {j : List Addr} {H : Hp} {a : Addr} : ∀ {c : Ce}, CeIs K j H a c → c.fz = false → ∃ o, H a = some o ∧ o.mu = true
 | .lst _, ⟨_, e, _⟩, _ => ⟨_, e, rfl⟩
 | .frz _, _, z => by cases z
 | .dk _, ⟨_, e, _⟩, _ => ⟨_, e, rfl⟩
 | .dt _, ⟨_, e, _⟩, _ => ⟨_, e, rfl⟩
 | .ins _ _, ⟨_, _, _, _, e, _⟩, _ => ⟨_, e, rfl⟩
 | .fdk _, _, z => by cases z
 | .dn _, ⟨_, e, _⟩, _ => ⟨_, e, rfl⟩
 | .exc _, _, z => by cases z
theorem CeIs.mono {K : PySem.W.Frag} {j j' : List Addr} {H H' : Hp} {a : Addr} (S : Ext j H j' H') : ∀ {c : Ce}, (c.fz = false → H' a = H a) → CeIs K j H a c → CeIs K j' H' a c
 | .lst _, h, ⟨_, e, l⟩ => ⟨_, (h rfl).trans e, l.mono S⟩
 | .frz _, _, ⟨_, .inl ⟨o, e⟩, l⟩ => ⟨_, .inl ⟨o, S.imm _ _ e rfl⟩, l.mono S⟩
 | .frz _, _, ⟨_, .inr e, l⟩ => ⟨_, .inr e, l.mono S⟩
 | .dk _, h, ⟨_, e, l⟩ => ⟨_, (h rfl).trans e, l.mono S⟩
 | .dt _, h, ⟨_, e, l⟩ => ⟨_, (h rfl).trans e, l.mono S⟩
 | .ins _ _, h, ⟨_, _, _, n, e, l⟩ => ⟨_, _, _, n, (h rfl).trans e, l.mono S⟩
 | .fdk _, _, ⟨_, _, e, l⟩ => ⟨_, _, S.imm _ _ e rfl, l.mono S⟩
 | .dn _, h, ⟨_, e, l⟩ => ⟨_, (h rfl).trans e, l.mono S⟩
 | .exc _, _, ⟨C, n, e⟩ => ⟨C, n, S.imm _ _ e rfl⟩
structure Fm where
 H0 : Hp
 j0 : List Addr
 S0 : Sto
structure En (K : PySem.W.Frag) (F : Fm) (j : List Addr) (H : Hp) (σ : St) (ρ : Rho) (S : Sto) : Prop where
 len : σ.length = ρ.length
 slot : ∀ (i : Nat) x, ρ[i]? = some (some x) → ∃ v, σ[i]? = some (some v) ∧ Xis K j H x v
 jl : j.length = S.length
 inj : ∀ (n m : Nat) a c d, j[n]? = some a → j[m]? = some a → S[n]? = some c → S[m]? = some d → c.fz = false → d.fz = false → n = m
 cel : ∀ (n : Nat) c a, S[n]? = some c → j[n]? = some a → CeIs K j H a c
 ext : Ext F.j0 F.H0 j H
 old : ∀ (n : Nat) c, F.S0[n]? = some c → ∃ c', S[n]? = some c' ∧ (c'.fz = false → c.fz = false) ∧ (c.fz = true → c' = c)
 l0 : F.j0.length = F.S0.length
 keep : ∀ b u, F.H0 b = some u → H b = some u ∨ ∃ (n : Nat) (c : Ce), F.j0[n]? = some b ∧ F.S0[n]? = some c ∧ c.fz = false
 fresh : ∀ (n : Nat) a, F.j0.length ≤ n → j[n]? = some a → F.H0 a = none
 dom : ∀ b, H b = none → F.H0 b = none
section
variable {K : PySem.W.Frag} {F : Fm} {j j' : List Addr} {H H' : Hp} {σ σ' : St} {ρ ρ' : Rho} {S S' : Sto} {v : V} {x : Xv} {a p : Addr} {o : HO} {i n : Nat} {c c' : Ce}
theorem En.heap (E : En K F j H σ ρ S) (Sm : Same H H') : En K F j H' σ ρ S := by
 have X : Ext j H j H' := Ext.same Sm
 refine ⟨E.len, fun i x e => ?_, E.jl, E.inj, fun n c a e1 e2 => ?_, E.ext.trans X, E.old, E.l0, fun b u e => ?_, E.fresh, fun b e => E.dom b ?_⟩
 ·obtain ⟨v, e1, e2⟩ := E.slot i x e
  exact ⟨v, e1, e2.mono X⟩
 ·have h := E.cel n c a e1 e2
  refine h.mono X fun z => ?_
  obtain ⟨o, e, _⟩ := h.mu z
  exact (Sm _ _ e).trans e.symm
 ·rcases E.keep b u e with h | h
  ·exact .inl (Sm _ _ h)
  ·exact .inr h
 ·cases e' : H b with
  | none => rfl
  | some u => rw [Sm b u e'] at e; cases e
theorem En.new (E : En K F j H σ ρ S) (h : H p = none) : En K F j (upd H p o) σ ρ S ∧ Ext j H j (upd H p o) := ⟨E.heap (same_upd h), Ext.same (same_upd h)⟩
theorem En.cell (E : En K F j H σ ρ S) (h : H p = none) (hc : CeIs K (j ++ [p]) (upd H p o) p c) : En K F (j ++ [p]) (upd H p o) σ ρ (S ++ [c]) ∧ Ext j H (j ++ [p]) (upd H p o) := by
 have X : Ext j H (j ++ [p]) (upd H p o) := ⟨fun n a e => by rw [List.getElem?_append_left (List.getElem?_eq_some_iff.1 e).1]; exact e, KeepI.same (same_upd h)⟩
 have jat : ∀ {n : Nat} {a : Addr}, (j ++ [p])[n]? = some a → j[n]? = some a ∨ (n = j.length ∧ a = p) := fun {n a} e => by
  by_cases hn : n < j.length
  ·rw [List.getElem?_append_left hn] at e; exact .inl e
  ·rw [List.getElem?_append_right (by omega)] at e
   cases hm : n - j.length with
   | zero => rw [hm] at e; simp at e; exact .inr ⟨by omega, e.symm⟩
   | succ m => rw [hm] at e; simp at e
 have sat : ∀ {n : Nat} {d : Ce}, (S ++ [c])[n]? = some d → S[n]? = some d ∨ (n = S.length ∧ d = c) := fun {n d} e => by
  by_cases hn : n < S.length
  ·rw [List.getElem?_append_left hn] at e; exact .inl e
  ·rw [List.getElem?_append_right (by omega)] at e
   cases hm : n - S.length with
   | zero => rw [hm] at e; simp at e; exact .inr ⟨by omega, e.symm⟩
   | succ m => rw [hm] at e; simp at e
 have lt : ∀ {n : Nat} {d : Ce}, S[n]? = some d → n < S.length := fun e => (List.getElem?_eq_some_iff.1 e).1
 have mine : ∀ {n : Nat} {a : Addr} {d : Ce}, j[n]? = some a → S[n]? = some d → d.fz = false → a ≠ p := fun {n a d} e1 e2 z q => by
  subst q
  obtain ⟨o', e, _⟩ := (E.cel n d a e2 e1).mu z
  rw [h] at e; cases e
 refine ⟨⟨E.len, fun i x e => ?_, by simp [E.jl], fun n m a c1 c2 e1 e2 e3 e4 z1 z2 => ?_, fun n d a e1 e2 => ?_, E.ext.trans X, fun n d e => ?_, E.l0, fun b u e => ?_, fun n a hn e => ?_, fun b e => ?_⟩, X⟩
 ·obtain ⟨v, e1, e2⟩ := E.slot i x e
  exact ⟨v, e1, e2.mono X⟩
 ·rcases sat e3 with e3 | ⟨e3, _⟩
  ·have h1 : j[n]? = some a := by
    rcases jat e1 with h1 | ⟨h1, _⟩
    ·exact h1
    ·have := lt e3; rw [E.jl] at h1; omega
   rcases sat e4 with e4 | ⟨e4, _⟩
   ·have h2 : j[m]? = some a := by
     rcases jat e2 with h2 | ⟨h2, _⟩
     ·exact h2
     ·have := lt e4; rw [E.jl] at h2; omega
    exact E.inj n m a c1 c2 h1 h2 e3 e4 z1 z2
   ·have : a = p := by
     rcases jat e2 with h2 | ⟨_, h2⟩
     ·have := (List.getElem?_eq_some_iff.1 h2).1; rw [E.jl] at this; omega
     ·exact h2
    exact absurd this (mine h1 e3 z1)
  ·have : a = p := by
    rcases jat e1 with h2 | ⟨_, h2⟩
    ·have := (List.getElem?_eq_some_iff.1 h2).1; rw [E.jl] at this; omega
    ·exact h2
   rcases sat e4 with e4 | ⟨e4, _⟩
   ·have h2 : j[m]? = some a := by
     rcases jat e2 with h2 | ⟨h2, _⟩
     ·exact h2
     ·have := lt e4; rw [E.jl] at h2; omega
    exact absurd this (mine h2 e4 z2)
   ·rw [e3, e4]
 ·rcases sat e1 with e1 | ⟨e1, rfl⟩
  ·have h2 : j[n]? = some a := by
    rcases jat e2 with h2 | ⟨h2, _⟩
    ·exact h2
    ·have := lt e1; rw [E.jl] at h2; omega
   have hh := E.cel n d a e1 h2
   exact hh.mono X fun z => upd_ne (mine h2 e1 z)
  ·have : a = p := by
    rcases jat e2 with h2 | ⟨_, h2⟩
    ·have := (List.getElem?_eq_some_iff.1 h2).1; rw [E.jl] at this; omega
    ·exact h2
   subst this
   exact hc
 ·obtain ⟨d', e1, e2⟩ := E.old n d e
  exact ⟨d', by rw [List.getElem?_append_left (lt e1)]; exact e1, e2⟩
 ·rcases E.keep b u e with h' | h'
  ·exact .inl (same_upd h _ _ h')
  ·exact .inr h'
 ·rcases jat e with e | ⟨_, rfl⟩
  ·exact E.fresh n a hn e
  ·exact E.dom _ h
 ·refine E.dom b ?_
  cases e' : H b with
  | none => rfl
  | some u => rw [same_upd h b u e'] at e; cases e
theorem En.writeF (E : En K F j H σ ρ S) (hs : S[n]? = some c) (z : c.fz = false) (hj : j[n]? = some a) (hc : ∀ X : Ext j H j (upd H a o), CeIs K j (upd H a o) a c') : En K F j (upd H a o) σ ρ (S.set n c') ∧ Ext j H j (upd H a o) := by
 obtain ⟨o0, h0, m0⟩ := (E.cel n c a hs hj).mu z
 have X : Ext j H j (upd H a o) := ⟨fun _ _ e => e, fun b u e m => by
  have : b ≠ a := fun q => by subst q; rw [h0] at e; cases e; rw [m] at m0; cases m0
  rw [upd_ne this]; exact e⟩
 have sat : ∀ {m : Nat} {d : Ce}, (S.set n c')[m]? = some d → (m = n ∧ d = c') ∨ (m ≠ n ∧ S[m]? = some d) := fun {m d} e => by
  rw [List.getElem?_set] at e
  split at e
  ·rename_i q
   split at e
   ·cases e; exact .inl ⟨q.symm, rfl⟩
   ·cases e
  ·rename_i q
   exact .inr ⟨fun r => q r.symm, e⟩
 have fzq : ∀ {m : Nat} {d : Ce}, (S.set n c')[m]? = some d → ∃ d', S[m]? = some d' ∧ (d.fz = false → d'.fz = false) := fun {m d} e => by
  rcases sat e with ⟨rfl, rfl⟩ | ⟨_, e⟩
  ·exact ⟨c, hs, fun _ => z⟩
  ·exact ⟨d, e, fun y => y⟩
 refine ⟨⟨E.len, fun i x e => ?_, by simp [E.jl], fun k m b c1 c2 e1 e2 e3 e4 z1 z2 => ?_, fun m d b e1 e2 => ?_, E.ext.trans X, fun m d e => ?_, E.l0, fun b u e => ?_, E.fresh, fun b e => ?_⟩, X⟩
 ·obtain ⟨v, e1, e2⟩ := E.slot i x e
  exact ⟨v, e1, e2.mono X⟩
 ·obtain ⟨d1, f1, g1⟩ := fzq e3
  obtain ⟨d2, f2, g2⟩ := fzq e4
  exact E.inj k m b d1 d2 e1 e2 f1 f2 (g1 z1) (g2 z2)
 ·rcases sat e1 with ⟨rfl, rfl⟩ | ⟨q, e1⟩
  ·rw [hj] at e2
   cases e2
   exact hc X
  ·refine (E.cel m d b e1 e2).mono X fun zd => upd_ne fun r => ?_
   subst r
   exact q (E.inj m n b d c e2 hj e1 hs zd z)
 ·obtain ⟨d', e1, e2, e3⟩ := E.old m d e
  by_cases q : m = n
  ·subst q
   rw [hs] at e1
   cases e1
   refine ⟨c', by rw [List.getElem?_set, if_pos rfl, if_pos (List.getElem?_eq_some_iff.1 hs).1], fun _ => e2 z, fun y => ?_⟩
   rw [e2 z] at y
   cases y
  ·exact ⟨d', by rw [List.getElem?_set, if_neg (fun r => q r.symm)]; exact e1, e2, e3⟩
 ·by_cases q : b = a
  ·subst q
   by_cases hn : n < F.j0.length
   ·have hj0 : F.j0[n]? = some b := by
     have e1 : F.j0[n]? = some F.j0[n] := List.getElem?_eq_getElem hn
     have e2 := E.ext.pre n _ e1
     rw [hj] at e2
     cases e2
     exact e1
    have hn2 : n < F.S0.length := by rw [← E.l0]; exact hn
    obtain ⟨d', f1, f2, _⟩ := E.old n _ (List.getElem?_eq_getElem hn2)
    rw [hs] at f1
    cases f1
    exact .inr ⟨n, _, hj0, List.getElem?_eq_getElem hn2, f2 z⟩
   ·rw [E.fresh n b (by omega) hj] at e
    cases e
  ·rcases E.keep b u e with h | h
   ·exact .inl (by rw [upd_ne q]; exact h)
   ·exact .inr h
 ·by_cases q : b = a
  ·subst q; rw [upd_same] at e; cases e
  ·rw [upd_ne q] at e; exact E.dom b e
theorem En.write (E : En K F j H σ ρ S) (hs : S[n]? = some c) (z : c.fz = false) (hj : j[n]? = some a) (_ : c'.fz = false) (hc : ∀ X : Ext j H j (upd H a o), CeIs K j (upd H a o) a c') : En K F j (upd H a o) σ ρ (S.set n c') ∧ Ext j H j (upd H a o) := E.writeF hs z hj hc
theorem En.slots (E : En K F j H σ ρ S) (hl : σ'.length = ρ'.length) (h : ∀ (i : Nat) x, ρ'[i]? = some (some x) → ∃ v, σ'[i]? = some (some v) ∧ Xis K j H x v) : En K F j H σ' ρ' S :=
 ⟨hl, h, E.jl, E.inj, E.cel, E.ext, E.old, E.l0, E.keep, E.fresh, E.dom⟩
theorem En.back (E : En K F j H σ ρ S) (X : En K F j' H' σ' ρ' S') (e : Ext j H j' H') : En K F j' H' σ ρ S' := X.slots E.len fun i x h => by
 obtain ⟨v, e1, e2⟩ := E.slot i x h
 exact ⟨v, e1, e2.mono e⟩
theorem En.set (E : En K F j H σ ρ S) (h : Xis K j H x v) : En K F j H (σ.set i (some v)) (ρ.set i (some x)) S := E.slots (by simp [E.len]) fun k y e => by
 rw [List.getElem?_set] at e ⊢
 split at e
 ·rename_i q
  subst q
  split at e
  ·rename_i hl
   cases e
   rw [if_pos rfl, if_pos (by rw [E.len]; exact hl)]
   exact ⟨v, rfl, h⟩
  ·cases e
 ·rename_i q
  rw [if_neg q]
  exact E.slot k y e
theorem En.enter (E : En K F j H σ ρ S) (hl : σ'.length = ρ'.length) (h : ∀ (i : Nat) x, ρ'[i]? = some (some x) → ∃ v, σ'[i]? = some (some v) ∧ Xis K j H x v) : En K ⟨H, j, S⟩ j H σ' ρ' S :=
 ⟨hl, h, E.jl, E.inj, E.cel, Ext.refl, fun n c e => ⟨c, e, fun z => z, fun _ => rfl⟩, E.jl, fun b u e => .inl e, fun n a hn e => by have := (List.getElem?_eq_some_iff.1 e).1; dsimp only at hn; omega, fun b e => e⟩
theorem En.leave (E : En K F j H σ ρ S) (X : En K ⟨H, j, S⟩ j' H' σ' ρ' S') : En K F j' H' σ ρ S' ∧ Ext j H j' H' := by
 have e : Ext j H j' H' := X.ext
 refine ⟨⟨E.len, fun i x h => ?_, X.jl, X.inj, X.cel, E.ext.trans e, fun n c h => ?_, E.l0, fun b u h => ?_, fun n a hn h => ?_, fun b h => E.dom b (X.dom b h)⟩, e⟩
 ·obtain ⟨v, e1, e2⟩ := E.slot i x h
  exact ⟨v, e1, e2.mono e⟩
 ·obtain ⟨c1, e1, e2, e3⟩ := E.old n c h
  obtain ⟨c2, f1, f2, f3⟩ := X.old n c1 e1
  refine ⟨c2, f1, fun z => e2 (f2 z), fun z => ?_⟩
  obtain rfl := e3 z
  exact f3 z
 ·rcases E.keep b u h with h1 | h1
  ·rcases X.keep b u h1 with h2 | ⟨n, c, h2, h3, h4⟩
   ·exact .inl h2
   ·by_cases hn : n < F.j0.length
    ·have e1 : F.j0[n]? = some F.j0[n] := List.getElem?_eq_getElem hn
     have e2 := E.ext.pre n _ e1
     have h2' : j[n]? = some b := h2
     rw [h2'] at e2
     cases e2
     have hn2 : n < F.S0.length := by rw [← E.l0]; exact hn
     obtain ⟨c1, f1, f2, _⟩ := E.old n _ (List.getElem?_eq_getElem hn2)
     have h3' : S[n]? = some c := h3
     rw [h3'] at f1
     cases f1
     exact .inr ⟨n, _, e1, List.getElem?_eq_getElem hn2, f2 h4⟩
    ·have := E.fresh n b (by omega) h2
     rw [this] at h; cases h
  ·exact .inr h1
 ·by_cases hm : n < j.length
  ·have e1 : j[n]? = some j[n] := List.getElem?_eq_getElem hm
   have e2 := e.pre n _ e1
   rw [h] at e2
   cases e2
   exact E.fresh n _ hn e1
  ·exact E.dom a (X.fresh n a (by dsimp only; omega) h)
theorem En.grow {k : Nat} (E : En K F j H σ ρ S) : En K F j H (σ ++ List.replicate k none) (ρ ++ List.replicate k none) S := E.slots (by simp [E.len]) fun i x e => by
 by_cases hi : i < ρ.length
 ·rw [List.getElem?_append_left hi] at e
  rw [List.getElem?_append_left (by rw [E.len]; exact hi)]
  exact E.slot i x e
 ·rw [List.getElem?_append_right (by omega), List.getElem?_replicate] at e
  split at e
  ·cases e
  ·cases e
end
end L2
namespace L2
open PySem
inductive Rs (α : Type) where
 | ok (a : α) (S : Sto)
 | ex (c : Str) (S : Sto)
noncomputable abbrev TwE := Rho → Sto → Option (Rs Xv)
noncomputable abbrev TwT := Rho → Sto → Option (Rs Bool)
noncomputable abbrev TwL := Rho → Sto → Option (Rs (List Xv))
noncomputable abbrev TwO := Rho → Sto → Option (Rs (Option Int))
noncomputable abbrev TwG := Xv → Rho → Sto → Option (Rs Rho)
noncomputable abbrev TwGs := List Xv → Rho → Sto → Option (Rs Rho)
noncomputable abbrev TwI := Rho → Sto → Option (Rs (Sto → Option (List Xv)))
inductive Fl where
 | nx (ρ : Rho) (S : Sto)
 | bk (ρ : Rho) (S : Sto)
 | ct (ρ : Rho) (S : Sto)
 | rt (x : Xv) (S : Sto)
 | ex (c : Str) (S : Sto)
noncomputable abbrev TwS := Rho → Sto → Option Fl
noncomputable def rb {α β : Type} (m : Option (Rs α)) (f : α → Sto → Option (Rs β)) : Option (Rs β) := match m with
 | some (.ok a S) => f a S
 | some (.ex c S) => some (.ex c S)
 | none => none
noncomputable def sb {α : Type} (m : Option (Rs α)) (f : α → Sto → Option Fl) : Option Fl := match m with
 | some (.ok a S) => f a S
 | some (.ex c S) => some (.ex c S)
 | none => none
theorem rb_some {α β : Type} {m : Option (Rs α)} {f : α → Sto → Option (Rs β)} {r : Rs β} (h : rb m f = some r) : (∃ a S, m = some (.ok a S) ∧ f a S = some r) ∨ ∃ c S, m = some (.ex c S) ∧ r = .ex c S := by
 unfold rb at h
 split at h
 ·exact .inl ⟨_, _, rfl, h⟩
 ·cases h; exact .inr ⟨_, _, rfl, rfl⟩
 ·cases h
theorem sb_some {α : Type} {m : Option (Rs α)} {f : α → Sto → Option Fl} {r : Fl} (h : sb m f = some r) : (∃ a S, m = some (.ok a S) ∧ f a S = some r) ∨ ∃ c S, m = some (.ex c S) ∧ r = .ex c S := by
 unfold sb at h
 split at h
 ·exact .inl ⟨_, _, rfl, h⟩
 ·cases h; exact .inr ⟨_, _, rfl, rfl⟩
 ·cases h
noncomputable def PX (K : PySem.W.Frag) (F : Fm) (j : List Addr) (H : Hp) (E : XK) (c : Str) (S' : Sto) : Prop :=
 ∀ j' H' σ' ρ' C, Ext j H j' H' → En K F j' H' σ' ρ' S' → PySem.W.nsIn K mainGlobals c = some (some (.ref C)) → E (.ref C) none H'
theorem PX.mono {K : PySem.W.Frag} {F : Fm} {j j1 : List Addr} {H H1 : Hp} {E : XK} {c : Str} {S' : Sto} (h : PX K F j H E c S') (e : Ext j H j1 H1) : PX K F j1 H1 E c S' := fun j' H' σ' ρ' C x y z => h j' H' σ' ρ' C (e.trans x) y z
noncomputable def Po {α : Type} (K : PySem.W.Frag) (F : Fm) (j : List Addr) (H : Hp) (σ : St) (ρ : Rho) (E : XK) (P : α → List Addr → Hp → Prop) : Rs α → Prop
 | .ok a S' => ∀ j' H', Ext j H j' H' → En K F j' H' σ ρ S' → P a j' H'
 | .ex c S' => PX K F j H E c S'
theorem Po.step {α : Type} {K : PySem.W.Frag} {F : Fm} {j j1 : List Addr} {H H1 : Hp} {σ : St} {ρ : Rho} {E : XK} {P : α → List Addr → Hp → Prop} : ∀ {r : Rs α}, Po K F j H σ ρ E P r → Ext j H j1 H1 → Po K F j1 H1 σ ρ E P r
 | .ok a S', h, e => fun j' H' x y => h j' H' (e.trans x) y
 | .ex c S', h, e => PX.mono h e
noncomputable abbrev PoV (K : PySem.W.Frag) (Q : VK) : Xv → List Addr → Hp → Prop := fun x j' H' => ∀ v, Xis K j' H' x v → Q v H'
noncomputable def RE (K : PySem.W.Frag) (E : XK) (t : TE) (m : TwE) : Prop := ∀ {F : Fm} {j : List Addr} {σ : St} {H : Hp} {ρ : Rho} {S : Sto} {r : Rs Xv} {Q : VK}, En K F j H σ ρ S → m ρ S = some r → Po K F j H σ ρ E (PoV K Q) r → t σ H Q
noncomputable def RT (K : PySem.W.Frag) (E : XK) (t : TT) (m : TwT) : Prop := ∀ {F : Fm} {j : List Addr} {σ : St} {H : Hp} {ρ : Rho} {S : Sto} {r : Rs Bool} {Q : Bool → Hp → Prop}, En K F j H σ ρ S → m ρ S = some r → Po K F j H σ ρ E (fun b _ H' => Q b H') r → t σ H Q
noncomputable def RL (K : PySem.W.Frag) (E : XK) (t : TA) (m : TwL) : Prop := ∀ {F : Fm} {j : List Addr} {σ : St} {H : Hp} {ρ : Rho} {S : Sto} {r : Rs (List Xv)} {Q : List V → Hp → Prop}, En K F j H σ ρ S → m ρ S = some r → Po K F j H σ ρ E (fun xs j' H' => ∀ vs, XisL K j' H' xs vs → Q vs H') r → t σ H Q
noncomputable def RO (K : PySem.W.Frag) (E : XK) (t : TO) (m : TwO) : Prop := ∀ {F : Fm} {j : List Addr} {σ : St} {H : Hp} {ρ : Rho} {S : Sto} {r : Rs (Option Int)} {Q : Option Int → Hp → Prop}, En K F j H σ ρ S → m ρ S = some r → Po K F j H σ ρ E (fun o _ H' => Q o H') r → t σ H Q
noncomputable def PoG (K : PySem.W.Frag) (F : Fm) (j : List Addr) (H : Hp) (E : XK) (R : St → Hp → Prop) : Rs Rho → Prop
 | .ok ρ' S' => ∀ σ' j' H', Ext j H j' H' → En K F j' H' σ' ρ' S' → R σ' H'
 | .ex c S' => PX K F j H E c S'
theorem PoG.step {K : PySem.W.Frag} {F : Fm} {j j1 : List Addr} {H H1 : Hp} {E : XK} {R : St → Hp → Prop} : ∀ {r : Rs Rho}, PoG K F j H E R r → Ext j H j1 H1 → PoG K F j1 H1 E R r
 | .ok a S', h, e => fun σ' j' H' x y => h σ' j' H' (e.trans x) y
 | .ex c S', h, e => PX.mono h e
noncomputable def RG (K : PySem.W.Frag) (E : XK) (t : TG) (g : TwG) : Prop := ∀ {F : Fm} {j : List Addr} {σ : St} {H : Hp} {ρ : Rho} {S : Sto} {r : Rs Rho} {x : Xv} {v : V} {R : St → Hp → Prop}, En K F j H σ ρ S → Xis K j H x v → g x ρ S = some r → PoG K F j H E R r → t v σ H R
noncomputable def RGs (K : PySem.W.Frag) (E : XK) (t : TGs) (g : TwGs) : Prop := ∀ {F : Fm} {j : List Addr} {σ : St} {H : Hp} {ρ : Rho} {S : Sto} {r : Rs Rho} {xs : List Xv} {vs : List V} {R : St → Hp → Prop}, En K F j H σ ρ S → XisL K j H xs vs → g xs ρ S = some r → PoG K F j H E R r → t vs σ H R
noncomputable def Post (K : PySem.W.Frag) (F : Fm) (j : List Addr) (H : Hp) (E : XK) (D' : Ends) : Fl → Prop
 | .nx ρ S => ∀ σ j' H', Ext j H j' H' → En K F j' H' σ ρ S → D'.nx σ H'
 | .bk ρ S => ∀ σ j' H', Ext j H j' H' → En K F j' H' σ ρ S → D'.bk σ H'
 | .ct ρ S => ∀ σ j' H', Ext j H j' H' → En K F j' H' σ ρ S → D'.ct σ H'
 | .rt x S => ∀ v σ ρ j' H', Ext j H j' H' → En K F j' H' σ ρ S → Xis K j' H' x v → D'.rt v H'
 | .ex c S => PX K F j H E c S
theorem Post.step {K : PySem.W.Frag} {F : Fm} {j j1 : List Addr} {H H1 : Hp} {E : XK} {D' : Ends} : ∀ {fl : Fl}, Post K F j H E D' fl → Ext j H j1 H1 → Post K F j1 H1 E D' fl
 | .nx _ _, h, e => fun σ j' H' x y => h σ j' H' (e.trans x) y
 | .bk _ _, h, e => fun σ j' H' x y => h σ j' H' (e.trans x) y
 | .ct _ _, h, e => fun σ j' H' x y => h σ j' H' (e.trans x) y
 | .rt _ _, h, e => fun v σ ρ j' H' x y z => h v σ ρ j' H' (e.trans x) y z
 | .ex _ _, h, e => PX.mono h e
noncomputable def RS (K : PySem.W.Frag) (E : XK) (t : TS) (m : TwS) : Prop := ∀ {F : Fm} {j : List Addr} {D' : Ends} {σ : St} {H : Hp} {ρ : Rho} {S : Sto} {fl : Fl}, En K F j H σ ρ S → m ρ S = some fl → Post K F j H E D' fl → t D' σ H
noncomputable def ItOk (K : PySem.W.Frag) (j : List Addr) (H : Hp) (J : It) (get : Sto → Option (List Xv)) : Prop := ∀ {F : Fm} {j' : List Addr} {H' : Hp} {σ : St} {ρ : Rho} {S : Sto} {xs : List Xv} (i : Nat), Ext j H j' H' → En K F j' H' σ ρ S → get S = some xs →
 (∀ x, xs[i]? = some x → J.go i H' ∧ ∀ v H'', J.yld i H' v H'' → Same H' H'' ∧ Xis K j' H'' x v) ∧ (i = xs.length → J.stop i H')
noncomputable def RI (K : PySem.W.Frag) (E : XK) (t : TI) (m : TwI) : Prop := ∀ {F : Fm} {j : List Addr} {σ : St} {H : Hp} {ρ : Rho} {S : Sto} {r : Rs (Sto → Option (List Xv))} {R : It → Hp → Prop}, En K F j H σ ρ S → m ρ S = some r → Po K F j H σ ρ E (fun get j' H' => ∀ J, ItOk K j' H' J get → R J H') r → t σ H R
noncomputable abbrev Op2 := Xv → Xv → Sto → Option (Xv × Sto)
noncomputable abbrev Opn := List Xv → Sto → Option (Xv × Sto)
noncomputable def R2Ok (K : PySem.W.Frag) (r : R2) (f : Op2) : Prop := ∀ {F : Fm} {j : List Addr} {σ : St} {H : Hp} {ρ : Rho} {S S' : Sto} {x y z : Xv} {u v : V} {Q : VK}, En K F j H σ ρ S → Xis K j H x u → Xis K j H y v → f x y S = some (z, S') → (∀ w j' H', Ext j H j' H' → En K F j' H' σ ρ S' → Xis K j' H' z w → Q w H') → r u v H Q
noncomputable def R1Ok (K : PySem.W.Frag) (r : V → Hp → VK → Prop) (f : Xv → Sto → Option (Xv × Sto)) : Prop := ∀ {F : Fm} {j : List Addr} {σ : St} {H : Hp} {ρ : Rho} {S S' : Sto} {x z : Xv} {u : V} {Q : VK}, En K F j H σ ρ S → Xis K j H x u → f x S = some (z, S') → (∀ w j' H', Ext j H j' H' → En K F j' H' σ ρ S' → Xis K j' H' z w → Q w H') → r u H Q
noncomputable def RcOk (K : PySem.W.Frag) (r : List V → Hp → VK → Prop) (f : Opn) : Prop := ∀ {F : Fm} {j : List Addr} {σ : St} {H : Hp} {ρ : Rho} {S S' : Sto} {xs : List Xv} {z : Xv} {vs : List V} {Q : VK}, En K F j H σ ρ S → XisL K j H xs vs → f xs S = some (z, S') → (∀ w j' H', Ext j H j' H' → En K F j' H' σ ρ S' → Xis K j' H' z w → Q w H') → r vs H Q
noncomputable def eVar (i : Nat) : TwE := fun ρ S => match ρ[i]? with
 | some (some x) => some (.ok x S)
 | _ => none
noncomputable def eC (x : Xv) : TwE := fun _ S => some (.ok x S)
noncomputable def okP (o : Option (Xv × Sto)) : Option (Rs Xv) := o.map fun p => .ok p.1 p.2
theorem okP_some {o : Option (Xv × Sto)} {r : Rs Xv} (h : okP o = some r) : ∃ z S, o = some (z, S) ∧ r = .ok z S := by
 cases o with
 | none => cases h
 | some p => cases h; exact ⟨_, _, rfl, rfl⟩
noncomputable def eOp (f : Op2) (a b : TwE) : TwE := fun ρ S => rb (a ρ S) fun x S1 => rb (b ρ S1) fun y S2 => okP (f x y S2)
noncomputable def eUn (f : Xv → Sto → Option (Xv × Sto)) (a : TwE) : TwE := fun ρ S => rb (a ρ S) fun x S1 => okP (f x S1)
noncomputable def bE (m : TwE) : TwT := fun ρ S => rb (m ρ S) fun x S1 => match x with
 | .bl b => some (.ok b S1)
 | _ => none
noncomputable def eB (m : TwT) : TwE := fun ρ S => rb (m ρ S) fun b S1 => some (.ok (.bl b) S1)
noncomputable def bAnd (a b : TwT) : TwT := fun ρ S => rb (a ρ S) fun x S1 => if x then b ρ S1 else some (.ok false S1)
noncomputable def bOr (a b : TwT) : TwT := fun ρ S => rb (a ρ S) fun x S1 => if x then some (.ok true S1) else b ρ S1
noncomputable def bNot (a : TwT) : TwT := fun ρ S => rb (a ρ S) fun x S1 => some (.ok (!x) S1)
noncomputable def eAnd (a b : TwE) : TwE := fun ρ S => rb (bE a ρ S) fun x S1 => if x then b ρ S1 else some (.ok (.bl false) S1)
noncomputable def eIf (c : TwT) (a b : TwE) : TwE := fun ρ S => rb (c ρ S) fun x S1 => if x then a ρ S1 else b ρ S1
noncomputable def evL : List TwE → TwL
 | [] => fun _ S => some (.ok [] S)
 | m :: r => fun ρ S => rb (m ρ S) fun x S1 => rb (evL r ρ S1) fun xs S2 => some (.ok (x :: xs) S2)
noncomputable def eTup (ms : List TwE) : TwE := fun ρ S => rb (evL ms ρ S) fun xs S1 => some (.ok (.tup xs) S1)
noncomputable def eLst (ms : List TwE) : TwE := fun ρ S => rb (evL ms ρ S) fun xs S1 => some (.ok (.ref S1.length) (S1 ++ [.lst xs]))
noncomputable def eFn (f : Opn) (ms : List TwE) : TwE := fun ρ S => rb (evL ms ρ S) fun xs S1 => okP (f xs S1)
noncomputable def pur2 (f : Xv → Xv → Option Xv) : Op2 := fun x y S => (f x y).map fun z => (z, S)
noncomputable def pur1 (f : Xv → Option Xv) : Xv → Sto → Option (Xv × Sto) := fun x S => (f x).map fun z => (z, S)
theorem pur_some {o : Option Xv} {S S' : Sto} {z : Xv} (h : (o.map fun z => (z, S)) = some (z, S')) : o = some z ∧ S' = S := by
 cases o with
 | none => cases h
 | some p => cases h; exact ⟨rfl, rfl⟩
section
variable {K : PySem.W.Frag} {E : XK} {F : Fm} {j : List Addr} {H : Hp} {σ : St} {ρ : Rho} {S : Sto}
theorem Po.val {Q : VK} {x : Xv} {v : V} (k : Po K F j H σ ρ E (PoV K Q) (.ok x S)) (En0 : En K F j H σ ρ S) (h : Xis K j H x v) : Q v H := k j H Ext.refl En0 v h
theorem re_var (i : Nat) : RE K E (tVar i) (eVar i) := by
 intro F j σ H ρ S r Q En0 e k
 unfold eVar at e
 split at e
 ·rename_i x ex
  cases e
  obtain ⟨v, e1, e2⟩ := En0.slot i _ ex
  exact ⟨v, e1, k.val En0 e2⟩
 ·cases e
theorem re_c {v : V} {x : Xv} (h : ∀ j H, Xis K j H x v) : RE K E (tC v) (eC x) := fun En0 e k => by
 cases e
 exact k.val En0 (h _ _)
theorem re_int (i : Int) : RE K E (tC (.int i)) (eC (.int i)) := re_c fun _ _ => .int i
theorem re_str (x : Str) : RE K E (tC (.str x)) (eC (.str x)) := re_c fun _ _ => .str x
theorem re_bl (b : Bool) : RE K E (tC (.bl b)) (eC (.bl b)) := re_c fun _ _ => .bl b
theorem re_non : RE K E (tC .non) (eC .non) := re_c fun _ _ => .non
theorem re_op {r : R2} {f : Op2} {ta tb : TE} {a b : TwE} (ho : R2Ok K r f) (ha : RE K E ta a) (hb : RE K E tb b) : RE K E (tOp r ta tb) (eOp f a b) := by
 intro F j σ H ρ S r Q En0 e k
 rcases rb_some e with ⟨x, S1, e1, e⟩ | ⟨c, S1, e1, rfl⟩
 ·refine ha En0 e1 fun j1 H1 X1 E1 u hu => ?_
  rcases rb_some e with ⟨y, S2, e2, e⟩ | ⟨c, S2, e2, rfl⟩
  ·obtain ⟨z, S3, e3, rfl⟩ := okP_some e
   exact hb E1 e2 fun j2 H2 X2 E2 v hv => ho E2 (hu.mono X2) hv e3 fun w j3 H3 X3 E3 hw => k _ _ (X1.trans (X2.trans X3)) E3 _ hw
  ·exact hb E1 e2 (PX.mono k X1)
 ·exact ha En0 e1 k
theorem re_un {r : V → Hp → VK → Prop} {f : Xv → Sto → Option (Xv × Sto)} {ta : TE} {a : TwE} (ho : R1Ok K r f) (ha : RE K E ta a) : RE K E (tUn r ta) (eUn f a) := by
 intro F j σ H ρ S r Q En0 e k
 rcases rb_some e with ⟨x, S1, e1, e⟩ | ⟨c, S1, e1, rfl⟩
 ·obtain ⟨z, S3, e3, rfl⟩ := okP_some e
  exact ha En0 e1 fun j1 H1 X1 E1 u hu => ho E1 hu e3 fun w j3 H3 X3 E3 hw => k _ _ (X1.trans X3) E3 _ hw
 ·exact ha En0 e1 k
theorem rt_e {t : TE} {m : TwE} (h : RE K E t m) : RT K E (tB t) (bE m) := by
 intro F j σ H ρ S r Q En0 e k
 rcases rb_some e with ⟨x, S1, e1, e⟩ | ⟨c, S1, e1, rfl⟩
 ·split at e
  ·cases e
   exact h En0 e1 fun j1 H1 X1 E1 u hu => ⟨_, hu.bl_inv, k _ _ X1 E1⟩
  ·cases e
 ·exact h En0 e1 k
theorem rt_test {t : TE} {m : TwE} (h : RE K E t m) : RT K E (tTest t) (bE m) := rt_e h
theorem rt_and {t u : TT} {a b : TwT} (ha : RT K E t a) (hb : RT K E u b) : RT K E (tAnd t u) (bAnd a b) := by
 intro F j σ H ρ S r Q En0 e k
 rcases rb_some e with ⟨x, S1, e1, e⟩ | ⟨c, S1, e1, rfl⟩
 ·refine ha En0 e1 fun j1 H1 X1 E1 => ?_
  cases x with
  | true => exact hb E1 e (k.step X1)
  | false => cases e; exact k _ _ X1 E1
 ·exact ha En0 e1 k
theorem rt_or {t u : TT} {a b : TwT} (ha : RT K E t a) (hb : RT K E u b) : RT K E (tOr t u) (bOr a b) := by
 intro F j σ H ρ S r Q En0 e k
 rcases rb_some e with ⟨x, S1, e1, e⟩ | ⟨c, S1, e1, rfl⟩
 ·refine ha En0 e1 fun j1 H1 X1 E1 => ?_
  cases x with
  | true => cases e; exact k _ _ X1 E1
  | false => exact hb E1 e (k.step X1)
 ·exact ha En0 e1 k
theorem rt_not {t : TT} {a : TwT} (ha : RT K E t a) : RT K E (tNot t) (bNot a) := by
 intro F j σ H ρ S r Q En0 e k
 rcases rb_some e with ⟨x, S1, e1, e⟩ | ⟨c, S1, e1, rfl⟩
 ·cases e
  exact ha En0 e1 fun j1 H1 X1 E1 => k _ _ X1 E1
 ·exact ha En0 e1 k
theorem re_and {ta tb : TE} {a b : TwE} (ha : RE K E ta a) (hb : RE K E tb b) : RE K E (tAndV ta tb) (eAnd a b) := by
 intro F j σ H ρ S r Q En0 e k
 rcases rb_some e with ⟨x, S1, e1, e⟩ | ⟨c, S1, e1, rfl⟩
 ·rcases rb_some e1 with ⟨y, S2, e2, e1⟩ | ⟨c, S2, e2, z⟩
  ·split at e1
   ·cases e1
    refine ha En0 e2 fun j1 H1 X1 E1 u hu => ⟨_, hu.bl_inv, ?_⟩
    cases x with
    | true => exact hb E1 e (k.step X1)
    | false => cases e; exact k _ _ X1 E1 _ (.bl false)
   ·cases e1
  ·cases z
 ·rcases rb_some e1 with ⟨y, S2, e2, e1⟩ | ⟨c, S2, e2, z⟩
  ·split at e1 <;> cases e1
  ·cases z; exact ha En0 e2 k
theorem re_not {ta : TE} {a : TwE} (ha : RE K E ta a) : RE K E (tNotV ta) (eB (bNot (bE a))) := by
 intro F j σ H ρ S r Q En0 e k
 rcases rb_some e with ⟨x, S1, e1, e⟩ | ⟨c, S1, e1, rfl⟩
 ·rcases rb_some e1 with ⟨y, S2, e2, e1⟩ | ⟨c, S2, e2, z⟩
  ·rcases rb_some e2 with ⟨z, S3, e3, e2⟩ | ⟨c, S3, e3, z⟩
   ·split at e2
    ·cases e2; cases e1; cases e
     exact ha En0 e3 fun j1 H1 X1 E1 u hu => ⟨_, hu.bl_inv, k _ _ X1 E1 _ (.bl _)⟩
    ·cases e2
   ·cases z
  ·cases z
 ·rcases rb_some e1 with ⟨y, S2, e2, e1⟩ | ⟨c, S2, e2, z⟩
  ·cases e1
  ·cases z
   rcases rb_some e2 with ⟨z, S3, e3, e2⟩ | ⟨c, S3, e3, z⟩
   ·split at e2 <;> cases e2
   ·cases z; exact ha En0 e3 k
theorem re_if {t : TT} {c : TwT} {ta tb : TE} {a b : TwE} (hc : RT K E t c) (ha : RE K E ta a) (hb : RE K E tb b) : RE K E (tIf t ta tb) (eIf c a b) := by
 intro F j σ H ρ S r Q En0 e k
 rcases rb_some e with ⟨x, S1, e1, e⟩ | ⟨c, S1, e1, rfl⟩
 ·refine hc En0 e1 fun j1 H1 X1 E1 => ?_
  cases x with
  | true => exact ha E1 e (k.step X1)
  | false => exact hb E1 e (k.step X1)
 ·exact hc En0 e1 k
noncomputable def Xv.isNon : Xv → Bool
 | .non => true
 | _ => false
noncomputable def dIsN : Xv → Sto → Option (Xv × Sto) := pur1 fun x => some (.bl x.isNon)
noncomputable def dNotN : Xv → Sto → Option (Xv × Sto) := pur1 fun x => some (.bl (!x.isNon))
theorem xis_non {x : Xv} {v : V} (h : Xis K j H x v) : decide (v = .non) = x.isNon := by cases h <;> simp [Xv.isNon]
theorem re_isN {ta : TE} {a : TwE} (ha : RE K E ta a) : RE K E (tIsN ta) (eUn dIsN a) := by
 intro F j σ H ρ S r Q En0 e k
 rcases rb_some e with ⟨x, S1, e1, e⟩ | ⟨c, S1, e1, rfl⟩
 ·cases e
  exact ha En0 e1 fun j1 H1 X1 E1 u hu => k _ _ X1 E1 _ (by rw [xis_non hu]; exact .bl _)
 ·exact ha En0 e1 k
theorem re_notN {ta : TE} {a : TwE} (ha : RE K E ta a) : RE K E (tNotN ta) (eUn dNotN a) := by
 intro F j σ H ρ S r Q En0 e k
 rcases rb_some e with ⟨x, S1, e1, e⟩ | ⟨c, S1, e1, rfl⟩
 ·cases e
  exact ha En0 e1 fun j1 H1 X1 E1 u hu => k _ _ X1 E1 _ (by rw [xis_non hu]; exact .bl _)
 ·exact ha En0 e1 k
theorem rl_nil : RL K E tNil (evL []) := fun En0 e k => by
 cases e
 exact k _ _ Ext.refl En0 [] .nil
theorem rl_cons {ta : TE} {tr : TA} {m : TwE} {ms : List TwE} (ha : RE K E ta m) (hr : RL K E tr (evL ms)) : RL K E (tCons ta tr) (evL (m :: ms)) := by
 intro F j σ H ρ S r Q En0 e k
 rcases rb_some e with ⟨x, S1, e1, e⟩ | ⟨c, S1, e1, rfl⟩
 ·refine ha En0 e1 fun j1 H1 X1 E1 u hu => ?_
  rcases rb_some e with ⟨xs, S2, e2, e⟩ | ⟨c, S2, e2, rfl⟩
  ·cases e
   exact hr E1 e2 fun j2 H2 X2 E2 vs hv => k _ _ (X1.trans X2) E2 (u :: vs) (.cons (hu.mono X2) hv)
  ·exact hr E1 e2 (PX.mono k X1)
 ·exact ha En0 e1 k
theorem evL_len : ∀ {ms : List TwE} {ρ : Rho} {S S' : Sto} {xs : List Xv}, evL ms ρ S = some (.ok xs S') → xs.length = ms.length
 | [], _, _, _, _, h => by cases h; rfl
 | m :: ms, ρ, S, S', xs, h => by
  rcases rb_some h with ⟨x, S1, e1, h⟩ | ⟨c, S1, e1, z⟩
  ·rcases rb_some h with ⟨ys, S2, e2, h⟩ | ⟨c, S2, e2, z⟩
   ·cases h
    simp [evL_len e2]
   ·cases z
  ·cases z
theorem re_tup {t : TA} {ms : List TwE} (h : RL K E t (evL ms)) (hl : ms.length ≤ 1000 := by simp) : RE K E (tTup t) (eTup ms) := by
 intro F j σ H ρ S r Q En0 e k
 rcases rb_some e with ⟨xs, S1, e1, e⟩ | ⟨c, S1, e1, rfl⟩
 ·cases e
  refine h En0 e1 fun j1 H1 X1 E1 vs hv => ⟨?_, fun p hp => ?_⟩
  ·rw [hv.len, evL_len e1]
   exact Nat.le_trans hl (by decide)
  ·obtain ⟨E2, X2⟩ := E1.new (o := .tup vs) hp
   exact k _ _ (X1.trans X2) E2 _ (.tup upd_same (hv.mono X2))
 ·exact h En0 e1 k
theorem En.lst {xs : List Xv} {vs : List V} {p : Addr} (En0 : En K F j H σ ρ S) (hv : XisL K j H xs vs) (hp : H p = none) : En K F (j ++ [p]) (upd H p (.lst vs)) σ ρ (S ++ [.lst xs]) ∧ Ext j H (j ++ [p]) (upd H p (.lst vs)) ∧ Xis K (j ++ [p]) (upd H p (.lst vs)) (.ref S.length) (.ref p) := by
 have X : Ext j H (j ++ [p]) (upd H p (.lst vs)) := ⟨fun n a e => by rw [List.getElem?_append_left (List.getElem?_eq_some_iff.1 e).1]; exact e, KeepI.same (same_upd hp)⟩
 obtain ⟨E1, _⟩ := En0.cell (o := .lst vs) (c := .lst xs) hp ⟨vs, upd_same, hv.mono X⟩
 exact ⟨E1, X, .ref (by rw [← En0.jl]; simp)⟩
theorem re_lst {t : TA} {ms : List TwE} (h : RL K E t (evL ms)) (hl : ms.length ≤ 1000 := by simp) : RE K E (tLst t) (eLst ms) := by
 intro F j σ H ρ S r Q En0 e k
 rcases rb_some e with ⟨xs, S1, e1, e⟩ | ⟨c, S1, e1, rfl⟩
 ·cases e
  refine h En0 e1 fun j1 H1 X1 E1 vs hv => ⟨?_, fun p hp => ?_⟩
  ·rw [hv.len, evL_len e1]
   exact Nat.le_trans hl (by decide)
  ·obtain ⟨E2, X2, h2⟩ := E1.lst hv hp
   exact k _ _ (X1.trans X2) E2 _ h2
 ·exact h En0 e1 k
theorem re_fn {t : TA} {ms : List TwE} {r : List V → Hp → VK → Prop} {f : Opn} (hr : RcOk K r f) (h : RL K E t (evL ms)) : RE K E (tCB r t) (eFn f ms) := by
 intro F j σ H ρ S r Q En0 e k
 rcases rb_some e with ⟨xs, S1, e1, e⟩ | ⟨c, S1, e1, rfl⟩
 ·obtain ⟨z, S3, e3, rfl⟩ := okP_some e
  exact h En0 e1 fun j1 H1 X1 E1 vs hv => hr E1 hv e3 fun w j3 H3 X3 E3 hw => k _ _ (X1.trans X3) E3 _ hw
 ·exact h En0 e1 k
end
end L2
namespace L2
open PySem
noncomputable def lstAt (S : Sto) : Xv → Option (List Xv)
 | .ref n => match S[n]? with
  | some (.lst xs) => some xs
  | some (.frz xs) => some xs
  | _ => none
 | _ => none
noncomputable def seqAt (S : Sto) (x : Xv) : Option (List Xv) := match x.tupOf with
 | some xs => some xs
 | none => lstAt S x
noncomputable def wlAt (S : Sto) : Xv → Option (Nat × List Xv)
 | .ref n => match S[n]? with
  | some (.lst xs) => some (n, xs)
  | _ => none
 | _ => none
section
variable {K : PySem.W.Frag} {E : XK} {F : Fm} {j : List Addr} {H : Hp} {σ : St} {ρ : Rho} {S : Sto} {x : Xv} {v : V}
theorem En.lstAt {xs : List Xv} (E0 : En K F j H σ ρ S) (hx : Xis K j H x v) (h : L2.lstAt S x = some xs) : ∃ a vs, v = .ref a ∧ SqX K H a vs ∧ XisL K j H xs vs := by
 cases x <;> simp only [L2.lstAt, reduceCtorEq] at h
 obtain ⟨a, rfl, hj⟩ := hx.ref_inv
 split at h
 ·cases h
  obtain ⟨vs, e1, e2⟩ := E0.cel _ _ _ (by assumption) hj
  exact ⟨a, vs, rfl, SqX.of e1, e2⟩
 ·cases h
  obtain ⟨vs, e1, e2⟩ := E0.cel _ _ _ (by assumption) hj
  refine ⟨a, vs, rfl, ?_, e2⟩
  rcases e1 with ⟨o, e1⟩ | e1
  ·exact .inl (.inr ⟨o, e1⟩)
  ·exact e1 H
 ·cases h
theorem En.seqAt {xs : List Xv} (E0 : En K F j H σ ρ S) (hx : Xis K j H x v) (h : L2.seqAt S x = some xs) : ∃ a vs, v = .ref a ∧ (SqX K H a vs ∨ SqT K H a vs) ∧ XisL K j H xs vs := by
 unfold L2.seqAt at h
 split at h
 ·cases h
  obtain ⟨a, vs, e1, e2, e3⟩ := hx.tupO (by assumption)
  exact ⟨a, vs, e1, .inr e2, e3⟩
 ·obtain ⟨a, vs, e1, e2, e3⟩ := E0.lstAt hx h
  exact ⟨a, vs, e1, .inl e2, e3⟩
theorem wlAt_some {n : Nat} {xs : List Xv} (h : wlAt S x = some (n, xs)) : x = .ref n ∧ S[n]? = some (.lst xs) := by
 cases x <;> simp only [wlAt, reduceCtorEq] at h
 split at h
 ·cases h; exact ⟨rfl, by assumption⟩
 ·cases h
theorem En.wl {n : Nat} {xs : List Xv} (E0 : En K F j H σ ρ S) (hx : Xis K j H x v) (h : wlAt S x = some (n, xs)) : ∃ a vs, v = .ref a ∧ j[n]? = some a ∧ H a = some (.lst vs) ∧ XisL K j H xs vs := by
 obtain ⟨rfl, hs⟩ := wlAt_some h
 obtain ⟨a, rfl, hj⟩ := hx.ref_inv
 obtain ⟨vs, e1, e2⟩ := E0.cel _ _ _ hs hj
 exact ⟨a, vs, rfl, hj, e1, e2⟩
theorem En.wr {n : Nat} {xs ys : List Xv} {ws : List V} {a : Addr} (E0 : En K F j H σ ρ S) (h : wlAt S x = some (n, xs)) (hj : j[n]? = some a) (hw : XisL K j H ys ws) : En K F j (upd H a (.lst ws)) σ ρ (S.set n (.lst ys)) ∧ Ext j H j (upd H a (.lst ws)) :=
 E0.write (wlAt_some h).2 rfl hj rfl fun X => ⟨ws, upd_same, hw.mono X⟩
theorem tyL {a : Addr} {vs : List V} (h : SqL K H a vs) : tyV K "list" (.ref a) H := .inl ⟨rfl, vs, h⟩
noncomputable def dIxT : Op2 := fun x y S => match x.tupOf, y with
 | some xs, .int i => (atI xs i).map fun z => (z, S)
 | _, _ => none
noncomputable def dIxL : Op2 := fun x y S => match lstAt S x, y with
 | some xs, .int i => (atI xs i).map fun z => (z, S)
 | _, _ => none
noncomputable def dIxS : Op2 := pur2 fun x y => match x, y with
 | .str z, .int i => if z.length ≤ sizeLine then (atI z.cps.toList i).map fun c => .str ⟨#[c]⟩ else none
 | _, _ => none
theorem r2_ixT : R2Ok K (rIxT K) dIxT := by
 intro F j σ H ρ S S' x y z u v Q E0 hx hy h k
 unfold dIxT at h
 split at h
 ·rename_i xs i ex
  cases e : atI xs i with
  | none => rw [e] at h; cases h
  | some z' =>
   rw [e] at h
   cases h
   obtain ⟨a, vs, rfl, h1, h2⟩ := hx.tupO ex
   obtain ⟨w, e1, e2⟩ := h2.at_ e
   exact ⟨a, vs, _, w, rfl, hy.int_inv, h1, e1, k _ _ _ Ext.refl E0 e2⟩
 ·cases h
theorem r2_ixL : R2Ok K (rIxL K) dIxL := by
 intro F j σ H ρ S S' x y z u v Q E0 hx hy h k
 unfold dIxL at h
 split at h
 ·rename_i xs i ex
  cases e : atI xs i with
  | none => rw [e] at h; cases h
  | some z' =>
   rw [e] at h
   cases h
   obtain ⟨a, vs, rfl, h1, h2⟩ := E0.lstAt hx ex
   obtain ⟨w, e1, e2⟩ := h2.at_ e
   exact ⟨a, vs, _, w, rfl, hy.int_inv, h1.sql, e1, k _ _ _ Ext.refl E0 e2⟩
 ·cases h
theorem r2_ixS : R2Ok K rIxS dIxS := by
 intro F j σ H ρ S S' x y z u v Q E0 hx hy h k
 obtain ⟨h', rfl⟩ := pur_some h
 dsimp only at h'
 split at h'
 ·split at h'
  ·rename_i zz i hz
   cases e : atI zz.cps.toList i with
   | none => rw [e] at h'; cases h'
   | some c =>
    rw [e] at h'
    cases h'
    exact ⟨zz, i, c, hx.str_inv, hy.int_inv, hz, e, k _ _ _ Ext.refl E0 (.str _)⟩
  ·cases h'
 ·cases h'
noncomputable def dIxA : Op2 := fun x y S => match seqAt S x, y with
 | some xs, .int i => (atI xs i).map fun z => (z, S)
 | _, _ => none
theorem r2_ixA : R2Ok K (rIx K) dIxA := by
 intro F j σ H ρ S S' x y z u v Q E0 hx hy h k
 unfold dIxA at h
 split at h
 ·rename_i xs i ex
  cases e : atI xs i with
  | none => rw [e] at h; cases h
  | some z' =>
   rw [e] at h
   cases h
   obtain ⟨a, vs, rfl, h1, h2⟩ := E0.seqAt hx ex
   obtain ⟨w, e1, e2⟩ := h2.at_ e
   rcases h1 with h1 | h1
   ·exact .inl ⟨a, vs, _, w, rfl, hy.int_inv, h1.sql, e1, k _ _ _ Ext.refl E0 e2⟩
   ·exact .inr (.inl ⟨a, vs, _, w, rfl, hy.int_inv, h1, e1, k _ _ _ Ext.refl E0 e2⟩)
 ·cases h
noncomputable def oNo : TwO := fun _ S => some (.ok none S)
noncomputable def oSome (m : TwE) : TwO := fun ρ S => rb (m ρ S) fun x S1 => match x with
 | .int i => some (.ok (some i) S1)
 | _ => none
theorem ro_no : RO K E tNoPart oNo := fun E0 e k => by
 cases e
 exact k _ _ Ext.refl E0
theorem ro_some {t : TE} {m : TwE} (h : RE K E t m) : RO K E (tPart t) (oSome m) := by
 intro F j σ H ρ S r Q En0 e k
 rcases rb_some e with ⟨x, S1, e1, e⟩ | ⟨c, S1, e1, rfl⟩
 ·split at e
  ·cases e
   exact h En0 e1 fun j1 H1 X1 E1 u hu => ⟨_, hu.int_inv, k _ _ X1 E1⟩
  ·cases e
 ·exact h En0 e1 k
noncomputable def cutD {α : Type} (xs : List α) (lo hi : Option Int) : List α := (xs.drop (HT.sIx xs.length 0 lo)).take (HT.sIx xs.length xs.length hi - HT.sIx xs.length 0 lo)
theorem XisL.cut {xs : List Xv} {vs : List V} (h : XisL K j H xs vs) (lo hi : Option Int) : XisL K j H (cutD xs lo hi) (cutV vs lo hi) := by
 unfold cutV cutD
 rw [h.len]
 exact (h.drop _).take _
noncomputable def eSl (f : Xv → Option Int → Option Int → Sto → Option (Xv × Sto)) (m : TwE) (lo hi : TwO) : TwE := fun ρ S => rb (m ρ S) fun x S1 => rb (lo ρ S1) fun y S2 => rb (hi ρ S2) fun z S3 => okP (f x y z S3)
noncomputable def RslOk (K : PySem.W.Frag) (r : V → Option Int → Option Int → Hp → VK → Prop) (f : Xv → Option Int → Option Int → Sto → Option (Xv × Sto)) : Prop := ∀ {F : Fm} {j : List Addr} {σ : St} {H : Hp} {ρ : Rho} {S S' : Sto} {x z : Xv} {lo hi : Option Int} {u : V} {Q : VK}, En K F j H σ ρ S → Xis K j H x u → f x lo hi S = some (z, S') → (∀ w j' H', Ext j H j' H' → En K F j' H' σ ρ S' → Xis K j' H' z w → Q w H') → r u lo hi H Q
theorem re_sl {r : V → Option Int → Option Int → Hp → VK → Prop} {f : Xv → Option Int → Option Int → Sto → Option (Xv × Sto)} {te : TE} {tl th : TO} {m : TwE} {lo hi : TwO} (ho : RslOk K r f) (hm : RE K E te m) (hl : RO K E tl lo) (hh : RO K E th hi) : RE K E (tSl r te tl th) (eSl f m lo hi) := by
 intro F j σ H ρ S r Q En0 e k
 rcases rb_some e with ⟨x, S1, e1, e⟩ | ⟨c, S1, e1, rfl⟩
 ·refine hm En0 e1 fun j1 H1 X1 E1 u hu => ?_
  rcases rb_some e with ⟨y, S2, e2, e⟩ | ⟨c, S2, e2, rfl⟩
  ·refine hl E1 e2 fun j2 H2 X2 E2 => ?_
   rcases rb_some e with ⟨z, S3, e3, e⟩ | ⟨c, S3, e3, rfl⟩
   ·obtain ⟨w, S4, e4, rfl⟩ := okP_some e
    exact hh E2 e3 fun j3 H3 X3 E3 => ho E3 (hu.mono (X2.trans X3)) e4 fun w j4 H4 X4 E4 hw => k _ _ (X1.trans (X2.trans (X3.trans X4))) E4 _ hw
   ·exact hh E2 e3 (PX.mono k (X1.trans X2))
  ·exact hl E1 e2 (PX.mono k X1)
 ·exact hm En0 e1 k
noncomputable def dSlL : Xv → Option Int → Option Int → Sto → Option (Xv × Sto) := fun x lo hi S => (lstAt S x).map fun xs => (.ref S.length, S ++ [.lst (cutD xs lo hi)])
theorem rsl_L : RslOk K (rSlL K) dSlL := by
 intro F j σ H ρ S S' x z lo hi u Q E0 hx h k
 unfold dSlL at h
 cases e : lstAt S x with
 | none => rw [e] at h; cases h
 | some xs =>
  rw [e] at h
  cases h
  obtain ⟨a, vs, rfl, h1, h2⟩ := E0.lstAt hx e
  refine ⟨a, vs, rfl, h1.sql, fun p hp => ?_⟩
  obtain ⟨E1, X1, h3⟩ := E0.lst (h2.cut lo hi) hp
  exact k _ _ _ X1 E1 h3
noncomputable def dSlS : Xv → Option Int → Option Int → Sto → Option (Xv × Sto) := fun x lo hi S => match x with
 | .str z => if z.length ≤ sizeLine then some (.str (Txt.slice z lo hi), S) else none
 | _ => none
theorem rsl_S : RslOk K rSlS dSlS := by
 intro F j σ H ρ S S' x z lo hi u Q E0 hx h k
 unfold dSlS at h
 split at h
 ·split at h
  ·cases h
   exact ⟨_, hx.str_inv, by assumption, k _ _ _ Ext.refl E0 (.str _)⟩
  ·cases h
 ·cases h
noncomputable def dSlT : Xv → Option Int → Option Int → Sto → Option (Xv × Sto) := fun x lo hi S => match x with
 | .tup xs => some (.tup (cutD xs lo hi), S)
 | _ => none
theorem cut_whole {α : Type} {xs : List α} {lo hi : Option Int} (h : HT.sIx xs.length 0 lo = 0 ∧ HT.sIx xs.length xs.length hi = xs.length) : cutD xs lo hi = xs := by
 unfold cutD
 rw [h.1, h.2]
 simp
theorem rsl_T : RslOk K (rSlA K) dSlT := by
 intro F j σ H ρ S S' x z lo hi u Q E0 hx h k
 unfold dSlT at h
 split at h
 ·rename_i xs
  cases h
  obtain ⟨a, vs, rfl, h1, h2⟩ := hx.tup_inv
  refine ⟨a, vs, rfl, SqT.of h1, fun hw => k _ _ _ Ext.refl E0 ?_, fun _ p hp => ?_⟩
  ·rw [h2.len] at hw
   rw [cut_whole hw]
   exact hx
  ·obtain ⟨E1, X1⟩ := E0.new (o := .tup (cutV vs lo hi)) hp
   exact k _ _ _ X1 E1 (.tup upd_same ((h2.cut lo hi).mono X1))
 ·cases h
theorem re_slL {te : TE} {tl th : TO} {m : TwE} {lo hi : TwO} (hm : RE K E te m) (hl : RO K E tl lo) (hh : RO K E th hi) : RE K E (tSl (rSlL K) te tl th) (eSl dSlL m lo hi) := @re_sl K E (rSlL K) dSlL te tl th m lo hi (@rsl_L K) hm hl hh
theorem re_slS {te : TE} {tl th : TO} {m : TwE} {lo hi : TwO} (hm : RE K E te m) (hl : RO K E tl lo) (hh : RO K E th hi) : RE K E (tSl rSlS te tl th) (eSl dSlS m lo hi) := @re_sl K E rSlS dSlS te tl th m lo hi (@rsl_S K) hm hl hh
theorem re_slT {te : TE} {tl th : TO} {m : TwE} {lo hi : TwO} (hm : RE K E te m) (hl : RO K E tl lo) (hh : RO K E th hi) : RE K E (tSl (rSlA K) te tl th) (eSl dSlT m lo hi) := @re_sl K E (rSlA K) dSlT te tl th m lo hi (@rsl_T K) hm hl hh
noncomputable abbrev OpM := Xv → List Xv → Sto → Option (Xv × Sto)
noncomputable def RmOk (K : PySem.W.Frag) (r : V → List V → Hp → VK → Prop) (f : OpM) : Prop := ∀ {F : Fm} {j : List Addr} {σ : St} {H : Hp} {ρ : Rho} {S S' : Sto} {x z : Xv} {ys : List Xv} {u : V} {vs : List V} {Q : VK}, En K F j H σ ρ S → Xis K j H x u → XisL K j H ys vs → f x ys S = some (z, S') → (∀ w j' H', Ext j H j' H' → En K F j' H' σ ρ S' → Xis K j' H' z w → Q w H') → r u vs H Q
noncomputable def eMt (f : OpM) (o : TwE) (ms : List TwE) : TwE := fun ρ S => rb (o ρ S) fun x S1 => (lstAt S1 x).bind fun _ => rb (evL ms ρ S1) fun ys S2 => okP (f x ys S2)
theorem re_mt {r : V → List V → Hp → VK → Prop} {f : OpM} {to : TE} {t : TA} {o : TwE} {ms : List TwE} (hr : RmOk K r f) (ho : RE K E to o) (ht : RL K E t (evL ms)) : RE K E (tBM K "list" r to t) (eMt f o ms) := by
 intro F j σ H ρ S r Q En0 e k
 rcases rb_some e with ⟨x, S1, e1, e⟩ | ⟨c, S1, e1, rfl⟩
 ·refine ho En0 e1 fun j1 H1 X1 E1 u hu => ?_
  cases el : L2.lstAt S1 x with
  | none => rw [el] at e; cases e
  | some l =>
   rw [el] at e
   obtain ⟨a, vs, rfl, h1, _⟩ := E1.lstAt hu el
   refine ⟨tyL h1.sql, ?_⟩
   rcases rb_some e with ⟨ys, S2, e2, e⟩ | ⟨c, S2, e2, rfl⟩
   ·obtain ⟨z, S3, e3, rfl⟩ := okP_some e
    exact ht E1 e2 fun j2 H2 X2 E2 ws hw => hr E2 (hu.mono X2) hw e3 fun w j3 H3 X3 E3 hz => k _ _ (X1.trans (X2.trans X3)) E3 _ hz
   ·exact ht E1 e2 (PX.mono k X1)
 ·exact ho En0 e1 k
theorem re_mt0 {r : V → List V → Hp → VK → Prop} {f : OpM} {to : TE} {o : TwE} (hr : RmOk K r f) (ho : RE K E to o) : RE K E (tBM0 K "list" r to) (eMt f o []) := by
 intro F j σ H ρ S r Q En0 e k
 exact re_mt hr ho rl_nil En0 e k
noncomputable def mAppend : OpM := fun x ys S => match wlAt S x, ys with
 | some (n, xs), [y] => if xs.length < sizeLine then some (.non, S.set n (.lst (xs ++ [y]))) else none
 | _, _ => none
theorem rm_append : RmOk K rAppend mAppend := by
 intro F j σ H ρ S S' x z ys u vs Q E0 hx hy h k
 unfold mAppend at h
 split at h
 ·rename_i n xs y e
  split at h
  ·rename_i hl
   cases h
   obtain ⟨a, ws, rfl, hj, h1, h2⟩ := E0.wl hx e
   obtain ⟨w, rfl, hw⟩ := hy.d1
   obtain ⟨E1, X1⟩ := E0.wr e hj (h2.append (.one hw))
   exact ⟨a, ws, w, rfl, rfl, h1, by rw [h2.len]; exact hl, k _ _ _ X1 E1 .non⟩
  ·cases h
 ·cases h
noncomputable def mPop : OpM := fun x ys S => match wlAt S x, ys with
 | some (n, xs), [] => (xs[xs.length - 1]?).map fun y => (y, S.set n (.lst xs.dropLast))
 | _, _ => none
theorem rm_pop : RmOk K rPop mPop := by
 intro F j σ H ρ S S' x z ys u vs Q E0 hx hy h k
 unfold mPop at h
 split at h
 ·rename_i n xs e
  cases e1 : xs[xs.length - 1]? with
  | none => rw [e1] at h; cases h
  | some y =>
   rw [e1] at h
   cases h
   obtain ⟨a, ws, rfl, hj, h1, h2⟩ := E0.wl hx e
   obtain rfl := hy.nil_inv
   obtain ⟨w, f1, f2⟩ := h2.get e1
   obtain ⟨E1, X1⟩ := E0.wr e hj h2.dropLast
   exact ⟨a, ws, w, rfl, rfl, h1, by rw [h2.len]; exact f1, k _ _ _ X1 E1 (f2.mono X1)⟩
 ·cases h
noncomputable def mExtend : OpM := fun x ys S => match wlAt S x, ys with
 | some (n, xs), [y] => (seqAt S y).bind fun zs => if xs.length + zs.length ≤ sizeLine then some (.non, S.set n (.lst (xs ++ zs))) else none
 | _, _ => none
theorem rm_extend : RmOk K (rExtendR K) mExtend := by
 intro F j σ H ρ S S' x z ys u vs Q E0 hx hy h k
 unfold mExtend at h
 split at h
 ·rename_i n xs y e
  cases e1 : seqAt S y with
  | none => rw [e1] at h; cases h
  | some zs =>
   rw [e1] at h
   dsimp only [Option.bind] at h
   split at h
   ·rename_i hl
    cases h
    obtain ⟨a, ws, rfl, hj, h1, h2⟩ := E0.wl hx e
    obtain ⟨w, rfl, hw⟩ := hy.d1
    obtain ⟨b, ts, rfl, g1, g2⟩ := E0.seqAt hw e1
    obtain ⟨E1, X1⟩ := E0.wr e hj (h2.append g2)
    exact ⟨a, b, ws, ts, rfl, rfl, h1, g1, by rw [h2.len, g2.len]; exact hl, k _ _ _ X1 E1 .non⟩
   ·cases h
 ·cases h
noncomputable def sSeq (a b : TwS) : TwS := fun ρ S => match a ρ S with
 | some (.nx ρ1 S1) => b ρ1 S1
 | r => r
noncomputable def sNext : TwS := fun ρ S => some (.nx ρ S)
noncomputable def sStuck : TwS := fun _ _ => none
noncomputable def sAsg (m : TwE) (g : TwG) : TwS := fun ρ S => sb (m ρ S) fun x S1 => sb (g x ρ S1) fun ρ1 S2 => some (.nx ρ1 S2)
noncomputable def sExpr (m : TwE) : TwS := fun ρ S => sb (m ρ S) fun _ S1 => some (.nx ρ S1)
noncomputable def sRet (m : TwE) : TwS := fun ρ S => sb (m ρ S) fun x S1 => some (.rt x S1)
noncomputable def sIf (c : TwT) (a b : TwS) : TwS := fun ρ S => sb (c ρ S) fun x S1 => if x then a ρ S1 else b ρ S1
noncomputable def turn (r : Option Fl) (go : Rho → Sto → Option Fl) : Option Fl := match r with
 | some (.nx ρ S) => go ρ S
 | some (.ct ρ S) => go ρ S
 | some (.bk ρ S) => some (.nx ρ S)
 | r => r
noncomputable def forTw (get : Sto → Option (List Xv)) (g : TwG) (b : TwS) : Nat → Nat → Rho → Sto → Option Fl
 | 0, _, _, _ => none
 | f + 1, i, ρ, S => (get S).bind fun xs => match xs[i]? with
  | none => if i = xs.length then some (.nx ρ S) else none
  | some x => sb (g x ρ S) fun ρ1 S1 => turn (b ρ1 S1) fun ρ2 S2 => forTw get g b f (i + 1) ρ2 S2
noncomputable def sFor (m : TwI) (g : TwG) (b : TwS) : TwS := fun ρ S => sb (m ρ S) fun get S1 => (get S1).bind fun xs => forTw get g b (xs.length + 1) 0 ρ S1
noncomputable def whTw (c : TwT) (b : TwS) : Nat → Rho → Sto → Option Fl
 | 0, _, _ => none
 | n + 1, ρ, S => sb (c ρ S) fun x S1 => if x then turn (b ρ S1) fun ρ2 S2 => whTw c b n ρ2 S2 else some (.nx ρ S1)
noncomputable def sWh (n : Nat) (c : TwT) (b : TwS) : TwS := fun ρ S => whTw c b n ρ S
noncomputable def gN (i : Nat) : TwG := fun x ρ S => some (.ok (ρ.set i (some x)) S)
noncomputable def gsNil : TwGs := fun xs ρ S => match xs with
 | [] => some (.ok ρ S)
 | _ => none
noncomputable def gsCons (g : TwG) (gs : TwGs) : TwGs := fun xs ρ S => match xs with
 | x :: r => rb (g x ρ S) fun ρ1 S1 => gs r ρ1 S1
 | _ => none
noncomputable def gT (n : Nat) (gs : TwGs) : TwG := fun x ρ S => x.tupOf.bind fun l => if l.length = n then gs l ρ S else none
theorem rg_name {i : Nat} : RG K E (gName i) (gN i) := fun E0 hx e k => by
 cases e
 exact k _ _ _ Ext.refl (E0.set hx)
theorem rgs_nil : RGs K E gNil gsNil := by
 intro F j σ H ρ S r xs vs R E0 hv e k
 unfold gsNil at e
 split at e
 ·cases e
  obtain rfl := hv.nil_inv
  exact ⟨rfl, k _ _ _ Ext.refl E0⟩
 ·cases e
theorem rgs_cons {t : TG} {u : TGs} {g : TwG} {gs : TwGs} (h1 : RG K E t g) (h2 : RGs K E u gs) : RGs K E (gCons t u) (gsCons g gs) := by
 intro F j σ H ρ S r xs vs R E0 hv e k
 unfold gsCons at e
 split at e
 ·obtain ⟨w, ws, rfl, hw, hws⟩ := hv.cons_inv
  rcases rb_some e with ⟨ρ1, S1, e1, e⟩ | ⟨c, S1, e1, rfl⟩
  ·exact ⟨w, ws, rfl, h1 E0 hw e1 fun σ1 j1 H1 X1 E1 => h2 E1 (hws.mono X1) e (k.step X1)⟩
  ·exact ⟨w, ws, rfl, h1 E0 hw e1 k⟩
 ·cases e
theorem rg_tup {n : Nat} {t : TGs} {gs : TwGs} (h : RGs K E t gs) : RG K E (gTup K n t) (gT n gs) := by
 intro F j σ H ρ S r x v R E0 hx e k
 unfold gT at e
 cases ex : x.tupOf with
 | none => rw [ex] at e; cases e
 | some l =>
  rw [ex] at e
  dsimp only [Option.bind] at e
  split at e
  ·rename_i hn
   obtain ⟨a, vs, rfl, h1, h2⟩ := hx.tupO ex
   exact ⟨a, vs, rfl, h1, by rw [h2.len]; exact hn, h E0 h2 e k⟩
  ·cases e
theorem rs_next : RS K E tNext sNext := fun E0 e k => by
 cases e
 exact k _ _ _ Ext.refl E0
theorem rs_stuck {t : TS} : RS K E t sStuck := fun _ e _ => by cases e
theorem rs_seq {t u : TS} {a b : TwS} (ha : RS K E t a) (hb : RS K E u b) : RS K E (tSeq t u) (sSeq a b) := by
 intro F j D' σ H ρ S fl E0 e k
 unfold sSeq at e
 split at e
 ·rename_i ρ1 S1 e1
  exact ha (D' := { D' with nx := u D' }) E0 e1 fun σ1 j1 H1 X1 E1 => hb E1 e (k.step X1)
 ·rename_i hn
  refine ha (D' := { D' with nx := u D' }) E0 e ?_
  cases fl with
  | nx ρ1 S1 => exact absurd e (hn ρ1 S1)
  | bk ρ1 S1 => exact k
  | ct ρ1 S1 => exact k
  | rt x S1 => exact k
  | ex c S1 => exact k
theorem rs_asg {te : TE} {g : TG} {m : TwE} {g' : TwG} (h : RE K E te m) (hg : RG K E g g') : RS K E (tAsg te g) (sAsg m g') := by
 intro F j D' σ H ρ S fl E0 e k
 rcases sb_some e with ⟨x, S1, e1, e⟩ | ⟨c, S1, e1, rfl⟩
 ·refine h E0 e1 fun j1 H1 X1 E1 u hu => ?_
  rcases sb_some e with ⟨ρ1, S2, e2, e⟩ | ⟨c, S2, e2, rfl⟩
  ·cases e
   exact hg E1 hu e2 fun σ2 j2 H2 X2 E2 => k _ _ _ (X1.trans X2) E2
  ·exact hg E1 hu e2 (PX.mono k X1)
 ·exact h E0 e1 k
theorem rs_expr {te : TE} {m : TwE} (h : RE K E te m) : RS K E (tDrop te) (sExpr m) := by
 intro F j D' σ H ρ S fl E0 e k
 rcases sb_some e with ⟨x, S1, e1, e⟩ | ⟨c, S1, e1, rfl⟩
 ·cases e
  exact h E0 e1 fun j1 H1 X1 E1 u hu => k _ _ _ X1 E1
 ·exact h E0 e1 k
theorem rs_ret {te : TE} {m : TwE} (h : RE K E te m) : RS K E (tRet te) (sRet m) := by
 intro F j D' σ H ρ S fl E0 e k
 rcases sb_some e with ⟨x, S1, e1, e⟩ | ⟨c, S1, e1, rfl⟩
 ·cases e
  exact h E0 e1 fun j1 H1 X1 E1 u hu => k _ _ _ _ _ X1 E1 hu
 ·exact h E0 e1 k
theorem rs_if {c : TT} {t u : TS} {m : TwT} {a b : TwS} (hc : RT K E c m) (ha : RS K E t a) (hb : RS K E u b) : RS K E (tIfS c t u) (sIf m a b) := by
 intro F j D' σ H ρ S fl E0 e k
 rcases sb_some e with ⟨x, S1, e1, e⟩ | ⟨c, S1, e1, rfl⟩
 ·refine hc E0 e1 fun j1 H1 X1 E1 => ?_
  cases x with
  | true => exact ha E1 e (k.step X1)
  | false => exact hb E1 e (k.step X1)
 ·exact hc E0 e1 k
theorem turn_some {r : Option Fl} {go : Rho → Sto → Option Fl} {fl : Fl} (h : turn r go = some fl) : ∃ f, r = some f ∧ ((∃ ρ S, (f = .nx ρ S ∨ f = .ct ρ S) ∧ go ρ S = some fl) ∨ (∃ ρ S, f = .bk ρ S ∧ fl = .nx ρ S) ∨ (f = fl ∧ ((∃ x S, fl = .rt x S) ∨ ∃ c S, fl = .ex c S))) := by
 unfold turn at h
 split at h
 ·exact ⟨_, rfl, .inl ⟨_, _, .inl rfl, h⟩⟩
 ·exact ⟨_, rfl, .inl ⟨_, _, .inr rfl, h⟩⟩
 ·cases h; exact ⟨_, rfl, .inr (.inl ⟨_, _, rfl, rfl⟩)⟩
 ·rename_i n1 n2 n3
  refine ⟨fl, h, .inr (.inr ⟨rfl, ?_⟩)⟩
  cases fl with
  | nx ρ S => exact absurd h (n1 ρ S)
  | ct ρ S => exact absurd h (n2 ρ S)
  | bk ρ S => exact absurd h (n3 ρ S)
  | rt x S => exact .inl ⟨x, S, rfl⟩
  | ex c S => exact .inr ⟨c, S, rfl⟩
theorem rs_for {wi : TI} {g : TG} {tb : TS} {m : TwI} {g' : TwG} {b : TwS} (hi : RI K E wi m) (hg : RG K E g g') (hb : RS K E tb b) : RS K E (tFor wi g tb) (sFor m g' b) := by
 intro F j D' σ H ρ S fl E0 e k
 rcases sb_some e with ⟨get, S1, e1, e⟩ | ⟨c, S1, e1, rfl⟩
 ·refine hi E0 e1 fun j1 H1 X1 E1 J ok => ?_
  cases eg : get S1 with
  | none => rw [eg] at e; cases e
  | some xs =>
   rw [eg] at e
   refine ⟨fun i n σ H => ∃ j2 ρ2 S2, Ext j1 H1 j2 H ∧ En K F j2 H σ ρ2 S2 ∧ forTw get g' b n i ρ2 S2 = some fl, ⟨xs.length + 1, j1, ρ, S1, Ext.refl, E1, e⟩, ?_⟩
   rintro i n σ2 H2 ⟨j2, ρ2, S2, X2, E2, e2⟩
   cases n with
   | zero => cases e2
   | succ n =>
    unfold forTw at e2
    cases eg2 : get S2 with
    | none => rw [eg2] at e2; cases e2
    | some ys =>
     rw [eg2] at e2
     dsimp only [Option.bind] at e2
     obtain ⟨go, stop⟩ := ok i X2 E2 eg2
     split at e2
     ·split at e2
      ·rename_i hl
       cases e2
       exact .inl ⟨stop hl, k _ _ _ (X1.trans X2) E2⟩
      ·cases e2
     ·rename_i x ex
      obtain ⟨g1, g2⟩ := go x ex
      refine .inr ⟨g1, fun σ' H' => ∃ j3 ρ3 S3, Ext j1 H1 j3 H' ∧ En K F j3 H' σ' ρ3 S3 ∧ forTw get g' b n (i + 1) ρ3 S3 = some fl, fun _ _ z => ⟨n, Nat.lt_succ_self _, z⟩, fun v H3 hy => ?_⟩
      obtain ⟨Sm, hv⟩ := g2 v H3 hy
      have E3 := E2.heap Sm
      have X3 : Ext j2 H2 j2 H3 := Ext.same Sm
      rcases sb_some e2 with ⟨ρ4, S4, e4, e2⟩ | ⟨c, S4, e4, rfl⟩
      ·refine hg E3 hv e4 fun σ4 j4 H4 X4 E4 => ?_
       obtain ⟨f5, e5, h5⟩ := turn_some e2
       refine hb E4 e5 ?_
       have X14 := X2.trans (X3.trans X4)
       rcases h5 with ⟨ρ6, S6, h6, e6⟩ | ⟨ρ6, S6, rfl, rfl⟩ | ⟨rfl, h6⟩
       ·rcases h6 with rfl | rfl
        ·exact fun σ5 j5 H5 X5 E5 => ⟨j5, ρ6, S6, X14.trans X5, E5, e6⟩
        ·exact fun σ5 j5 H5 X5 E5 => ⟨j5, ρ6, S6, X14.trans X5, E5, e6⟩
       ·exact fun σ5 j5 H5 X5 E5 => k _ _ _ (X1.trans (X14.trans X5)) E5
       ·rcases h6 with ⟨x6, S6, rfl⟩ | ⟨c6, S6, rfl⟩
        ·exact fun v σ5 ρ5 j5 H5 X5 E5 hv => k v σ5 ρ5 _ _ (X1.trans (X14.trans X5)) E5 hv
        ·exact PX.mono k (X1.trans X14)
      ·exact hg E3 hv e4 (PX.mono k (X1.trans (X2.trans X3)))
 ·exact hi E0 e1 k
theorem rs_while {c : TT} {tb : TS} {m : TwT} {b : TwS} {n : Nat} (hc : RT K E c m) (hb : RS K E tb b) : RS K E (tWhile c tb) (sWh n m b) := by
 intro F j D' σ H ρ S fl E0 e k
 refine ⟨fun n σ2 H2 => ∃ j2 ρ2 S2, Ext j H j2 H2 ∧ En K F j2 H2 σ2 ρ2 S2 ∧ whTw m b n ρ2 S2 = some fl, ⟨n, j, ρ, S, Ext.refl, E0, e⟩, ?_⟩
 rintro n σ2 H2 ⟨j2, ρ2, S2, X2, E2, e2⟩
 cases n with
 | zero => cases e2
 | succ n =>
  unfold whTw at e2
  rcases sb_some e2 with ⟨x, S3, e3, e2⟩ | ⟨c, S3, e3, rfl⟩
  ·refine hc E2 e3 fun j3 H3 X3 E3 => ?_
   have X13 := X2.trans X3
   cases x with
   | false => cases e2; exact k _ _ _ X13 E3
   | true =>
    obtain ⟨f5, e5, h5⟩ := turn_some e2
    refine ⟨fun σ' H' => ∃ j3 ρ3 S3, Ext j H j3 H' ∧ En K F j3 H' σ' ρ3 S3 ∧ whTw m b n ρ3 S3 = some fl, fun σ' H' z => ⟨n, Nat.lt_succ_self _, z⟩, hb E3 e5 ?_⟩
    rcases h5 with ⟨ρ6, S6, h6, e6⟩ | ⟨ρ6, S6, rfl, rfl⟩ | ⟨rfl, h6⟩
    ·rcases h6 with rfl | rfl
     ·exact fun σ5 j5 H5 X5 E5 => ⟨j5, ρ6, S6, X13.trans X5, E5, e6⟩
     ·exact fun σ5 j5 H5 X5 E5 => ⟨j5, ρ6, S6, X13.trans X5, E5, e6⟩
    ·exact fun σ5 j5 H5 X5 E5 => k _ _ _ (X13.trans X5) E5
    ·rcases h6 with ⟨x6, S6, rfl⟩ | ⟨c6, S6, rfl⟩
     ·exact fun v σ5 ρ5 j5 H5 X5 E5 hv => k v σ5 ρ5 _ _ (X13.trans X5) E5 hv
     ·exact PX.mono k X13
  ·exact hc E2 e3 (PX.mono k X2)
noncomputable def iL (m : TwE) : TwI := fun ρ S => rb (m ρ S) fun x S1 => (lstAt S1 x).map fun _ => .ok (fun S => lstAt S x) S1
noncomputable def iT (m : TwE) : TwI := fun ρ S => rb (m ρ S) fun x S1 => x.tupOf.map fun l => .ok (fun _ => some l) S1
theorem ri_list {t : TE} {m : TwE} (h : RE K E t m) : RI K E (iList K t) (iL m) := by
 intro F j σ H ρ S r R En0 e k
 rcases rb_some e with ⟨x, S1, e1, e⟩ | ⟨c, S1, e1, rfl⟩
 ·cases el : lstAt S1 x with
  | none => rw [el] at e; cases e
  | some l =>
   rw [el] at e
   cases e
   refine h En0 e1 fun j1 H1 X1 E1 u hu => ?_
   obtain ⟨a, vs, rfl, h1, _⟩ := E1.lstAt hu el
   refine ⟨a, rfl, ⟨vs, h1.sql⟩, k _ _ X1 E1 _ ?_⟩
   intro F2 j2 H2 σ2 ρ2 S2 xs i X2 E2 e2
   obtain ⟨a', ws, ea, g1, g2⟩ := E2.lstAt (hu.mono X2) e2
   cases ea
   refine ⟨fun y ey => ?_, fun hle => ⟨ws, g1.sql, by rw [g2.len]; omega⟩⟩
   obtain ⟨w, f1, f2⟩ := g2.get ey
   refine ⟨⟨ws, w, g1.sql, f1⟩, ?_⟩
   rintro v' H' ⟨rfl, hx⟩
   have := hx ws g1.sql
   rw [f1] at this
   cases this
   exact ⟨Same.refl _, f2⟩
 ·exact h En0 e1 k
theorem ri_tup {t : TE} {m : TwE} (h : RE K E t m) : RI K E (iTup K t) (iT m) := by
 intro F j σ H ρ S r R En0 e k
 rcases rb_some e with ⟨x, S1, e1, e⟩ | ⟨c, S1, e1, rfl⟩
 ·cases el : x.tupOf with
  | none => rw [el] at e; cases e
  | some l =>
   rw [el] at e
   cases e
   refine h En0 e1 fun j1 H1 X1 E1 u hu => ?_
   obtain ⟨a, vs, rfl, h1, _⟩ := hu.tupO el
   refine ⟨a, rfl, ⟨vs, h1⟩, k _ _ X1 E1 _ ?_⟩
   intro F2 j2 H2 σ2 ρ2 S2 xs i X2 E2 e2
   cases e2
   obtain ⟨a', ws, ea, g1, g2⟩ := (hu.mono X2).tupO el
   cases ea
   refine ⟨fun y ey => ?_, fun hle => ⟨ws, g1, by rw [g2.len]; omega⟩⟩
   obtain ⟨w, f1, f2⟩ := g2.get ey
   refine ⟨⟨ws, w, g1, f1⟩, ?_⟩
   rintro v' H' ⟨rfl, hx⟩
   have := hx ws g1
   rw [f1] at this
   cases this
   exact ⟨Same.refl _, f2⟩
 ·exact h En0 e1 k
noncomputable def rangeX (lo : Int) (n : Nat) : List Xv := (List.range n).map fun (k : Nat) => Xv.int (lo + (k : Int))
noncomputable def iR1 (m : TwE) : TwI := fun ρ S => rb (m ρ S) fun x S1 => match x with
 | .int j => if -(2 ^ 62) ≤ j ∧ j < 2 ^ 62 then some (.ok (fun _ => some (rangeX 0 j.toNat)) S1) else none
 | _ => none
theorem it_range {lo : Int} {n : Nat} : ItOk K j H (Itr lo n) (fun _ => some (rangeX lo n)) := by
 intro F2 j2 H2 σ2 ρ2 S2 xs i X2 E2 e2
 cases e2
 refine ⟨fun d hd => ?_, fun hle => ?_⟩
 ·unfold rangeX at hd
  rw [List.getElem?_map] at hd
  have hi : i < n := by
   apply Classical.byContradiction
   intro hn
   rw [List.getElem?_eq_none (by simp; omega)] at hd
   cases hd
  rw [List.getElem?_range hi] at hd
  cases hd
  refine ⟨hi, ?_⟩
  rintro x H' ⟨rfl, rfl⟩
  exact ⟨Same.refl _, .int _⟩
 ·unfold rangeX at hle
  simp at hle
  show n ≤ i
  omega
theorem ri_range1 {t : TE} {m : TwE} (h : RE K E t m) : RI K E (iRng1 (tCons t tNil)) (iR1 m) := by
 intro F j σ H ρ S r R En0 e k
 rcases rb_some e with ⟨x, S1, e1, e⟩ | ⟨c, S1, e1, rfl⟩
 ·split at e
  ·split at e
   ·rename_i hb
    cases e
    exact h En0 e1 fun j1 H1 X1 E1 u hu => ⟨_, by rw [hu.int_inv], hb.1, hb.2, k _ _ X1 E1 _ it_range⟩
   ·cases e
  ·cases e
 ·exact h En0 e1 k
end
end L2
namespace L2
open PySem
noncomputable def rn {α β : Type} (m : Option (Rs α)) (f : α → Sto → Option β) : Option β := match m with
 | some (.ok a S) => f a S
 | _ => none
theorem rn_some {α β : Type} {m : Option (Rs α)} {f : α → Sto → Option β} {r : β} (h : rn m f = some r) : ∃ a S, m = some (.ok a S) ∧ f a S = some r := by
 unfold rn at h
 split at h
 ·exact ⟨_, _, rfl, h⟩
 ·cases h
noncomputable def capR (cap : List (Option Nat)) (ρ : Rho) : Rho := cap.map fun o => o.bind fun i => (ρ[i]?).join
noncomputable def compTw (get : Sto → Option (List Xv)) (g : TwG) (c : TwT) (e : TwE) (ρc : Rho) : Nat → Nat → List Xv → Sto → Option (Rs Xv)
 | 0, _, _, _ => none
 | f + 1, i, es, S => (get S).bind fun xs => match xs[i]? with
  | none => if i = xs.length then some (.ok (.ref S.length) (S ++ [.lst es])) else none
  | some x => rn (g x ρc S) fun ρ1 S1 => rn (c ρ1 S1) fun b S2 => if b then rn (e ρ1 S2) fun y S3 => if es.length < sizeLine then compTw get g c e ρc f (i + 1) (es ++ [y]) S3 else none
    else compTw get g c e ρc f (i + 1) es S2
noncomputable def eComp (cap : List (Option Nat)) (m : TwI) (g : TwG) (c : TwT) (e : TwE) : TwE := fun ρ S => rb (m ρ S) fun get S1 => (get S1).bind fun xs => compTw get g c e (capR cap ρ) (xs.length + 1) 0 [] S1
noncomputable def bTrue : TwT := fun _ S => some (.ok true S)
section
variable {K : PySem.W.Frag} {E : XK} {F : Fm} {j j' : List Addr} {H H' : Hp} {σ σ' : St} {ρ ρ' : Rho} {S S' : Sto} {x : Xv} {v : V} {a : Addr} {o : HO}
theorem rt_true : RT K E (fun _ H Q => Q true H) bTrue := fun E1 e k => by
 cases e
 exact k _ _ Ext.refl E1
noncomputable def NotIn (j : List Addr) (S : Sto) (a : Addr) : Prop := ∀ (n : Nat) c, j[n]? = some a → S[n]? = some c → c.fz = true
theorem En.notIn (E1 : En K F j H σ ρ S) (h : H a = none) : NotIn j S a := fun n c e1 e2 => by
 cases z : c.fz with
 | true => rfl
 | false =>
  obtain ⟨o, e, _⟩ := (E1.cel n c a e2 e1).mu z
  rw [h] at e; cases e
theorem En.outside (E1 : En K F j H σ ρ S) (h : NotIn j S a) {o0 : HO} (h0 : H a = some o0) (m0 : o0.mu = true) (hf : F.H0 a = none) : En K F j (upd H a o) σ ρ S ∧ Ext j H j (upd H a o) := by
 have X : Ext j H j (upd H a o) := ⟨fun _ _ e => e, fun b u e m => by
  have : b ≠ a := fun q => by subst q; rw [h0] at e; cases e; rw [m] at m0; cases m0
  rw [upd_ne this]; exact e⟩
 refine ⟨⟨E1.len, fun i x e => ?_, E1.jl, E1.inj, fun n c b e1 e2 => ?_, E1.ext.trans X, E1.old, E1.l0, fun b u e => ?_, E1.fresh, fun b e => ?_⟩, X⟩
 ·obtain ⟨v, e1, e2⟩ := E1.slot i x e
  exact ⟨v, e1, e2.mono X⟩
 ·refine (E1.cel n c b e1 e2).mono X fun z => upd_ne fun q => ?_
  subst q
  rw [h n c e2 e1] at z; cases z
 ·have hb : b ≠ a := fun q => by subst q; rw [hf] at e; cases e
  rcases E1.keep b u e with h | h
  ·exact .inl (by rw [upd_ne hb]; exact h)
  ·exact .inr h
 ·have hb : b ≠ a := fun q => by subst q; rw [upd_same] at e; cases e
  rw [upd_ne hb] at e
  exact E1.dom b e
theorem En.adopt {c : Ce} (E1 : En K F j H σ ρ S) (h : NotIn j S a) (hf : F.H0 a = none) (hc : CeIs K (j ++ [a]) H a c) : En K F (j ++ [a]) H σ ρ (S ++ [c]) ∧ Ext j H (j ++ [a]) H := by
 have X : Ext j H (j ++ [a]) H := ⟨fun n b e => by rw [List.getElem?_append_left (List.getElem?_eq_some_iff.1 e).1]; exact e, KeepI.refl _⟩
 have lt : ∀ {n : Nat} {d : Ce}, S[n]? = some d → n < S.length := fun e => (List.getElem?_eq_some_iff.1 e).1
 have at_ : ∀ {n : Nat} {b : Addr} {d : Ce}, (j ++ [a])[n]? = some b → (S ++ [c])[n]? = some d → (j[n]? = some b ∧ S[n]? = some d) ∨ (n = S.length ∧ b = a ∧ d = c) := fun {n b d} e1 e2 => by
  by_cases hn : n < S.length
  ·rw [List.getElem?_append_left hn] at e2
   rw [List.getElem?_append_left (by rw [E1.jl]; exact hn)] at e1
   exact .inl ⟨e1, e2⟩
  ·rw [List.getElem?_append_right (by omega)] at e2
   rw [List.getElem?_append_right (by rw [E1.jl]; omega), E1.jl] at e1
   cases hm : n - S.length with
   | zero => rw [hm] at e1 e2; simp at e1 e2; exact .inr ⟨by omega, e1.symm, e2.symm⟩
   | succ m => rw [hm] at e1; simp at e1
 refine ⟨⟨E1.len, fun i x e => ?_, by simp [E1.jl], fun n m b c1 c2 e1 e2 e3 e4 z1 z2 => ?_, fun n d b e1 e2 => ?_, E1.ext.trans X, fun n d e => ?_, E1.l0, E1.keep, fun n b hn e => ?_, E1.dom⟩, X⟩
 ·obtain ⟨v, e1, e2⟩ := E1.slot i x e
  exact ⟨v, e1, e2.mono X⟩
 ·rcases at_ e1 e3 with ⟨f1, f2⟩ | ⟨f1, f2, f3⟩
  ·rcases at_ e2 e4 with ⟨g1, g2⟩ | ⟨g1, g2, g3⟩
   ·exact E1.inj n m b c1 c2 f1 g1 f2 g2 z1 z2
   ·subst g2
    rw [h n c1 f1 f2] at z1; cases z1
  ·rcases at_ e2 e4 with ⟨g1, g2⟩ | ⟨g1, g2, g3⟩
   ·subst f2
    rw [h m c2 g1 g2] at z2; cases z2
   ·rw [f1, g1]
 ·rcases at_ e2 e1 with ⟨f1, f2⟩ | ⟨f1, rfl, rfl⟩
  ·exact (E1.cel n d b f2 f1).mono X fun _ => rfl
  ·exact hc
 ·obtain ⟨d', e1, e2⟩ := E1.old n d e
  exact ⟨d', by rw [List.getElem?_append_left (lt e1)]; exact e1, e2⟩
 ·by_cases hm : n < j.length
  ·rw [List.getElem?_append_left hm] at e
   exact E1.fresh n b hn e
  ·rw [List.getElem?_append_right (by omega)] at e
   cases hk : n - j.length with
   | zero => rw [hk] at e; simp at e; subst e; exact hf
   | succ m => rw [hk] at e; simp at e
theorem cap_slots {cap : List (Option Nat)} (E1 : En K F j H σ ρ S) : (capSt cap σ).length = (capR cap ρ).length ∧ ∀ (i : Nat) x, (capR cap ρ)[i]? = some (some x) → ∃ v, (capSt cap σ)[i]? = some (some v) ∧ Xis K j H x v := by
 refine ⟨by simp [capSt, capR], fun i x h => ?_⟩
 unfold capR at h
 unfold capSt
 rw [List.getElem?_map] at h ⊢
 cases e : cap[i]? with
 | none => rw [e] at h; cases h
 | some o =>
  rw [e] at h
  cases o with
  | none => simp at h
  | some k =>
   simp only [Option.map_some, Option.bind_some, Option.some.injEq] at h ⊢
   cases q : ρ[k]? with
   | none => rw [q] at h; simp at h
   | some z =>
    rw [q] at h
    simp at h
    subst h
    obtain ⟨v, e1, e2⟩ := E1.slot k x q
    exact ⟨v, by rw [e1]; rfl, e2⟩
theorem re_comp {cap : List (Option Nat)} {wi : TI} {g : TG} {tt : TT} {te : TE} {m : TwI} {g' : TwG} {c : TwT} {e : TwE} (hi : RI K E wi m) (hg : RG K E0 g g') (hc : RT K E0 tt c) (he : RE K E0 te e) : RE K E (tComp cap wi g tt te) (eComp cap m g' c e) := by
 intro F j σ H ρ S r Q En0 h k
 rcases rb_some h with ⟨get, S1, e1, h⟩ | ⟨c1, S1, e1, rfl⟩
 ·refine hi En0 e1 fun j1 H1 X1 E1 J ok acc hacc => ?_
  cases eg : get S1 with
  | none => rw [eg] at h; cases h
  | some xs =>
   rw [eg] at h
   have hf : F.H0 acc = none := E1.dom acc hacc
   obtain ⟨Ea, Xa⟩ := E1.new (o := .lst []) hacc
   refine ⟨fun i n ys H2 => ∃ j2 S2 es, Ext j1 H1 j2 H2 ∧ En K F j2 H2 σ ρ S2 ∧ H2 acc = some (.lst ys) ∧ XisL K j2 H2 es ys ∧ NotIn j2 S2 acc ∧ compTw get g' c e (capR cap ρ) n i es S2 = some r,
    ⟨xs.length + 1, j1, S1, [], Xa, Ea, upd_same, .nil, E1.notIn hacc, h⟩, ?_⟩
   rintro i n ys H2 ⟨j2, S2, es, X2, E2, h2, hes, nin, e2⟩
   cases n with
   | zero => cases e2
   | succ n =>
    unfold compTw at e2
    cases eg2 : get S2 with
    | none => rw [eg2] at e2; cases e2
    | some zs =>
     rw [eg2] at e2
     dsimp only [Option.bind] at e2
     obtain ⟨go, stop⟩ := ok i X2 E2 eg2
     split at e2
     ·split at e2
      ·rename_i hl
       cases e2
       obtain ⟨E3, X3⟩ := E2.adopt (c := .lst es) nin hf ⟨ys, h2, hes.mono ⟨fun n b e => by rw [List.getElem?_append_left (List.getElem?_eq_some_iff.1 e).1]; exact e, KeepI.refl _⟩⟩
       exact .inl ⟨stop hl, k _ _ (X1.trans (X2.trans X3)) E3 _ (.ref (by rw [← E2.jl]; simp))⟩
      ·cases e2
     ·rename_i x ex
      obtain ⟨g1, g2⟩ := go x ex
      refine .inr ⟨g1, fun v H3 hy => ?_⟩
      obtain ⟨Sm, hv⟩ := g2 v H3 hy
      have E3 := E2.heap Sm
      have X3 : Ext j2 H2 j2 H3 := Ext.same Sm
      have h3 : H3 acc = some (.lst ys) := Sm _ _ h2
      obtain ⟨cl, cs⟩ := cap_slots (cap := cap) E3
      have I0 := E3.enter cl cs
      obtain ⟨ρ4, S4, e4, e2⟩ := rn_some e2
      obtain ⟨b, S5, e5, e2⟩ := rn_some e2
      have behind : ∀ {j6 : List Addr} {H6 : Hp} {σ6 : St} {ρ6 : Rho} {S6 : Sto}, En K ⟨H3, j2, S2⟩ j6 H6 σ6 ρ6 S6 → En K F j6 H6 σ ρ S6 ∧ Ext j2 H2 j6 H6 ∧ H6 acc = some (.lst ys) ∧ NotIn j6 S6 acc := fun {j6 H6 σ6 ρ6 S6} X => by
       obtain ⟨E6, X6⟩ := E3.leave X
       refine ⟨E6, X3.trans X6, ?_, fun n d q1 q2 => ?_⟩
       ·rcases X.keep acc _ h3 with q | ⟨n, d, q1, q2, q3⟩
        ·exact q
        ·rw [nin n d q1 q2] at q3; cases q3
       ·by_cases hn : n < j2.length
        ·have p1 : j2[n]? = some j2[n] := List.getElem?_eq_getElem hn
         have p2 := X6.pre n _ p1
         rw [q1] at p2
         cases p2
         have hn2 : n < S2.length := by rw [← E2.jl]; exact hn
         obtain ⟨d', f1, _, f3⟩ := X.old n _ (List.getElem?_eq_getElem hn2)
         rw [q2] at f1
         cases f1
         have hz := nin n _ p1 (List.getElem?_eq_getElem hn2)
         rw [f3 hz]
         exact hz
        ·have q := X.fresh n acc (by dsimp only; omega) q1
         have q : H3 acc = none := q
         rw [h3] at q; cases q
      refine hg I0 hv e4 fun σ4 j4 H4 X4 I4 => hc I4 e5 fun j5 H5 X5 I5 => ?_
      cases b with
      | true =>
       rw [if_pos rfl]
       rw [if_pos rfl] at e2
       obtain ⟨y, S6, e6, e2⟩ := rn_some e2
       split at e2
       ·rename_i hsz
        refine he I5 e6 fun j6 H6 X6 I6 w hw => ?_
        obtain ⟨E6, X26, h6, nin6⟩ := behind I6
        obtain ⟨E7, X7⟩ := E6.outside (o := .lst (ys ++ [w])) nin6 h6 rfl hf
        refine ⟨h6, by rw [hes.len]; exact hsz, n, Nat.lt_succ_self _, j6, S6, es ++ [y], X2.trans (X26.trans X7), E7, upd_same, ((hes.mono X26).append (.one hw)).mono X7, nin6, e2⟩
       ·cases e2
      | false =>
       rw [if_neg (by simp)]
       rw [if_neg (by simp)] at e2
       obtain ⟨E6, X26, h6, nin6⟩ := behind I5
       exact ⟨n, Nat.lt_succ_self _, j5, S5, es, X2.trans X26, E6, h6, hes.mono X26, nin6, e2⟩
 ·exact hi En0 e1 k
theorem rs_setComp {i : Nat} {cap : List (Option Nat)} {wi : TI} {g : TG} {tt : TT} {te : TE} {m : TwE} (h : RE K E (tComp cap wi g tt te) m) : RS K E (tSetComp i cap wi g tt te) (sAsg m (gN i)) := by
 intro F j D' σ H ρ S fl E1 e k
 rcases sb_some e with ⟨x, S1, e1, e⟩ | ⟨c, S1, e1, rfl⟩
 ·cases e
  exact h (Q := fun v H2 => D'.nx (σ.set i (some v)) H2) E1 e1 fun j1 H1 X1 E1 u hu => k _ _ _ X1 (E1.set hu)
 ·exact h (Q := fun v H2 => D'.nx (σ.set i (some v)) H2) E1 e1 k
noncomputable abbrev TwF := List Xv → Sto → Option (Rs Xv)
noncomputable def runTw (n k : Nat) (b : TwS) : TwF := fun xs S => if xs.length = n then match b (xs.map some ++ List.replicate k none) S with
  | some (.rt x S') => some (.ok x S')
  | some (.nx _ S') => some (.ok .non S')
  | some (.ex c S') => some (.ex c S')
  | _ => none
 else none
noncomputable def RetOk (K : PySem.W.Frag) (F : Fm) (Q : VK) (E : XK) : Rs Xv → Prop
 | .ok x S' => ∀ v j' H' σ ρ, En K F j' H' σ ρ S' → Xis K j' H' x v → Q v H'
 | .ex c S' => ∀ j' H' σ ρ C, En K F j' H' σ ρ S' → PySem.W.nsIn K mainGlobals c = some (some (.ref C)) → E (.ref C) none H'
noncomputable def sTw (K : PySem.W.Frag) (n : Nat) (tw : TwF) : Sp := fun vs H Q E => vs.length = n ∧ ∃ (j : List Addr) (S : Sto) (xs : List Xv) (r : Rs Xv), En K ⟨H, j, S⟩ j H (vs.map some) (xs.map some) S ∧ tw xs S = some r ∧ RetOk K ⟨H, j, S⟩ Q E r
theorem fn_tw {n k : Nat} {N : List Str} {t : TS} {b : TwS} {vs : List V} {Q : VK} (hN : N.length = n + k) (h : RS K E t b) (hs : sTw K n (runTw n k b) vs H Q E) : t { nx := fun _ H' => Q .non H', rt := Q } (start N vs) H := by
 obtain ⟨hn, j, S, xs, r, E1, e, ret⟩ := hs
 have es : start N vs = vs.map some ++ List.replicate k none := by
  unfold start
  rw [hN, hn, Nat.add_sub_cancel_left]
 rw [es]
 unfold runTw at e
 split at e
 ·split at e
  ·rename_i x S' e1
   cases e
   exact h E1.grow e1 fun v σ ρ j' H' X E' hv => ret _ _ _ _ _ E' hv
  ·rename_i ρ' S' e1
   cases e
   exact h E1.grow e1 fun σ j' H' X E' => ret _ _ _ _ _ E' .non
  ·rename_i c S' e1
   cases e
   exact h E1.grow e1 fun j' H' σ' ρ' C X E' hC => ret _ _ _ _ _ E' hC
  ·cases e
 ·cases e
theorem fn_none {P : Program} {w : World} {mg : Str → Option Value} {base : Heap} {CX : CXT} {k n : Nat} {f : Addr} {fd : FuncData} {ps : List Str} (hl : ps.length = n := by rfl) : FnOk P w K mg base CX k f fd ps (sTw K n fun _ _ => none) :=
 ⟨fun vs H Q E h => h.1.trans hl.symm, fun A outer s H args us vs Q E hr he hb hv hs => by
  obtain ⟨_, _, _, _, _, _, z, _⟩ := hs
  cases z⟩
noncomputable def eCall (tw : TwF) (ms : List TwE) : TwE := fun ρ S => rb (evL ms ρ S) fun xs S1 => tw xs S1
theorem args_slots {xs : List Xv} {vs : List V} (hv : XisL K j H xs vs) : (vs.map some).length = (xs.map some).length ∧ ∀ (i : Nat) x, (xs.map some)[i]? = some (some x) → ∃ v, (vs.map some)[i]? = some (some v) ∧ Xis K j H x v := by
 refine ⟨by simp [hv.len], fun i x h => ?_⟩
 rw [List.getElem?_map] at h ⊢
 cases e : xs[i]? with
 | none => rw [e] at h; cases h
 | some y =>
  rw [e] at h
  simp at h
  subst h
  obtain ⟨v, e1, e2⟩ := hv.get e
  exact ⟨v, by rw [e1]; rfl, e2⟩
theorem call_core {n : Nat} {tw : TwF} {xs : List Xv} {vs : List V} {r : Rs Xv} {Q : VK} {E' : XK} (E1 : En K F j H σ ρ S) (hv : XisL K j H xs vs) (hn : vs.length = n) (et : tw xs S = some r) (k : Po K F j H σ ρ E' (PoV K Q) r) : sTw K n tw vs H Q E' := by
 obtain ⟨l, s⟩ := args_slots hv
 refine ⟨hn, j, S, xs, r, E1.enter l s, et, ?_⟩
 cases r with
 | ok x S' =>
  intro v j' H' σ' ρ' X hx
  obtain ⟨E2, X2⟩ := E1.leave X
  exact k j' H' X2 E2 v hx
 | ex c S' =>
  intro j' H' σ' ρ' C X hC
  obtain ⟨E2, X2⟩ := E1.leave X
  exact k j' H' σ ρ C X2 E2 hC
theorem re_call {n : Nat} {tw : TwF} {ms : List TwE} {t : TA} (h : RL K E t (evL ms)) (hn : ms.length = n := by rfl) : RE K E (tCall (sTw K n tw) [] E t) (eCall tw ms) := by
 intro F j σ H ρ S r Q En0 e k
 rcases rb_some e with ⟨xs, S1, e1, e⟩ | ⟨c, S1, e1, rfl⟩
 ·refine h En0 e1 fun j1 H1 X1 E1 vs hv => ?_
  rw [List.append_nil]
  exact call_core E1 hv (by rw [hv.len, evL_len e1, hn]) e (k.step X1)
 ·exact h En0 e1 k
end
noncomputable def spLawX (K : PySem.W.Frag) : Sp := fun vs H Q _ => ∃ (a : Addr) (ns : List Int), vs = [V.ref a] ∧ Only H ∧ SqX K H a (ns.map V.int) ∧ ns.length ≤ 63 ∧ ∀ H', Q (.bl true) H'
theorem law_tw {P : Program} {w : World} {K : PySem.W.Frag} {mg : Str → Option Value} {base : Heap} {CX : CXT} {k : Nat} {f : Addr} {fd : FuncData} {ps : List Str} {tw : TwF} (Fn : FnOk P w K mg base CX k f fd ps (sTw K 1 tw))
  (h : ∀ ns : List Int, ns.length ≤ 63 → ∃ S, tw [.ref 0] [.frz (ns.map Xv.int)] = some (.ok (.bl true) S)) : FnOk P w K mg base CX k f fd ps (spLawX K) := by
 refine Fn.imp ?_
 rintro vs H Q E ⟨a, ns, rfl, hO, hS, hl, q⟩
 obtain ⟨S', e⟩ := h ns hl
 refine ⟨rfl, [a], [.frz (ns.map Xv.int)], [.ref 0], _, ?_, e, fun v j' H' σ ρ E' hv => ?_⟩
 ·refine ⟨rfl, fun i x e => ?_, rfl, fun n m b c d _ _ e3 _ z _ => ?_, fun n c b e1 e2 => ?_, Ext.refl, fun n c e => ⟨c, e, fun z => z, fun _ => rfl⟩, rfl, fun b u e => .inl e, fun n b hn e => ?_, fun b e => e⟩
  ·cases i with
   | zero => simp at e; subst e; exact ⟨_, rfl, .ref rfl⟩
   | succ i => simp at e
  ·cases n with
   | zero => simp at e3; subst e3; cases z
   | succ n => simp at e3
  ·cases n with
   | zero =>
    simp at e1 e2
    subst e1 e2
    refine ⟨ns.map V.int, ?_, XisL.ints ns⟩
    rcases hS with (hS | ⟨o, hS⟩) | hS
    ·rcases hO a with z | ⟨o, xs, z⟩
     ·rw [z] at hS; cases hS
     ·rw [z] at hS; cases hS
    ·exact .inl ⟨o, hS⟩
    ·exact .inr fun H => .inr hS
   | succ n => simp at e1
  ·dsimp only at hn
   have := (List.getElem?_eq_some_iff.1 e).1
   omega
 ·rw [hv.bl_inv]
  exact q H'
end L2
namespace L2
open PySem PySem.Spec PyProof.Rows
open PySem.Builtin.Int (intBits)
noncomputable def xI (g : Int → Int → Xv) : Op2 := fun x y S => match x, y with
 | .int a, .int b => some (g a b, S)
 | _, _ => none
noncomputable def xIC (c : Int → Int → Bool) (g : Int → Int → Xv) : Op2 := fun x y S => match x, y with
 | .int a, .int b => if c a b then some (g a b, S) else none
 | _, _ => none
noncomputable def dAdd : Op2 := xI fun i j => .int (i + j)
noncomputable def dSub : Op2 := xI fun i j => .int (i - j)
noncomputable def dMulB : Op2 := xIC (fun i j => decide (intBits i + intBits j ≤ 134217728)) fun i j => .int (i * j)
noncomputable def dMod : Op2 := xIC (fun _ j => decide (0 < j)) fun i j => .int (i % j)
noncomputable def dFdivB : Op2 := xIC (fun _ j => decide (j ≠ 0 ∧ intBits j ≤ 9000)) fun i j => .int (i.fdiv j)
noncomputable def dLt : Op2 := xI fun i j => .bl (decide (i < j))
noncomputable def dGt : Op2 := xI fun i j => .bl (decide (j < i))
noncomputable def dEqI : Op2 := xI fun i j => .bl (decide (i = j))
noncomputable def dNeI : Op2 := xI fun i j => .bl (!decide (i = j))
noncomputable def dNeg : Xv → Sto → Option (Xv × Sto) := fun x S => match x with
 | .int i => some (.int (-i), S)
 | _ => none
section
variable {K : PySem.W.Frag} {E : XK} {F : Fm} {j j' : List Addr} {H H' : Hp} {σ σ' : St} {ρ ρ' : Rho} {S S' : Sto} {x : Xv} {v : V} {ta tb : TE} {a b : TwE}
theorem r2_I0 {g : Int → Int → V} {g' : Int → Int → Xv} (hg : ∀ i k j H, Xis K j H (g' i k) (g i k)) : R2Ok K (rI0 g) (xI g') := by
 intro F j σ H ρ S S' x y z u v Q E1 hx hy h k
 unfold xI at h
 split at h
 ·cases h
  exact ⟨_, _, hx.int_inv, hy.int_inv, k _ _ _ Ext.refl E1 (hg _ _ _ _)⟩
 ·cases h
theorem r2_I {C : Int → Int → Prop} {c : Int → Int → Bool} {g : Int → Int → V} {g' : Int → Int → Xv} (hc : ∀ i j, c i j = true → C i j) (hg : ∀ i k j H, Xis K j H (g' i k) (g i k)) : R2Ok K (rI C g) (xIC c g') := by
 intro F j σ H ρ S S' x y z u v Q E1 hx hy h k
 unfold xIC at h
 split at h
 ·split at h
  ·cases h
   exact ⟨_, _, hx.int_inv, hy.int_inv, hc _ _ (by assumption), k _ _ _ Ext.refl E1 (hg _ _ _ _)⟩
  ·cases h
 ·cases h
theorem re_cmp {p : Int → Int → Bool} (ha : RE K E ta a) (hb : RE K E tb b) : RE K E (tCmp p ta tb) (eOp (xI fun i j => .bl (p i j)) a b) :=
 re_op (r := rI0 fun i j => .bl (p i j)) (r2_I0 fun i k _ _ => .bl _) ha hb
theorem r2_add : R2Ok K (rI0 fun i j => .int (i + j)) dAdd := r2_I0 fun _ _ _ _ => .int _
theorem r2_sub : R2Ok K (rI0 fun i j => .int (i - j)) dSub := r2_I0 fun _ _ _ _ => .int _
theorem r2_mulB : R2Ok K (rI CMulB fun i j => .int (i * j)) dMulB := r2_I (fun i j h => ⟨intBits i, intBits j, Nat.le_refl _, Nat.le_refl _, by simpa using h⟩) fun _ _ _ _ => .int _
theorem r2_mod : R2Ok K (rI (fun _ j => 0 < j) fun i j => .int (i % j)) dMod := r2_I (fun i j h => by simpa using h) fun _ _ _ _ => .int _
theorem r2_fdivB : R2Ok K (rI CDivB fun i j => .int (i.fdiv j)) dFdivB := r2_I (fun i j h => by simpa [CDivB] using h) fun _ _ _ _ => .int _
theorem re_lt (ha : RE K E ta a) (hb : RE K E tb b) : RE K E (tLt ta tb) (eOp dLt a b) := re_cmp ha hb
theorem re_gt (ha : RE K E ta a) (hb : RE K E tb b) : RE K E (tGt ta tb) (eOp dGt a b) := re_cmp ha hb
theorem re_eqI (ha : RE K E ta a) (hb : RE K E tb b) : RE K E (tEqI ta tb) (eOp dEqI a b) := re_cmp ha hb
theorem re_neI (ha : RE K E ta a) (hb : RE K E tb b) : RE K E (tNeI ta tb) (eOp dNeI a b) := re_cmp ha hb
theorem r1_neg : R1Ok K (rU fun i => .int (-i)) dNeg := by
 intro F j σ H ρ S S' x z u Q E1 hx h k
 unfold dNeg at h
 split at h
 ·cases h
  exact ⟨_, hx.int_inv, k _ _ _ Ext.refl E1 (.int _)⟩
 ·cases h
noncomputable def dCatT : Op2 := fun x y S => match x, y with
 | .tup a, .tup b => if a.length + b.length ≤ sizeLine then some (.tup (a ++ b), S) else none
 | _, _ => none
theorem r2_catT : R2Ok K (rCatA K) dCatT := by
 intro F j σ H ρ S S' x y z u v Q E1 hx hy h k
 unfold dCatT at h
 split at h
 ·split at h
  ·rename_i hz
   cases h
   obtain ⟨p, xs, rfl, h1, h2⟩ := hx.tup_inv
   obtain ⟨q, ys, rfl, g1, g2⟩ := hy.tup_inv
   refine ⟨p, q, xs, ys, rfl, rfl, SqT.of h1, SqT.of g1, by rw [h2.len, g2.len]; exact hz, fun e => ?_, fun _ e => ?_, fun _ _ l hl => ?_⟩
   ·subst e
    obtain rfl := List.length_eq_zero_iff.1 h2.len.symm
    exact k _ _ _ Ext.refl E1 hy
   ·subst e
    obtain rfl := List.length_eq_zero_iff.1 g2.len.symm
    refine k _ _ _ Ext.refl E1 ?_
    rw [List.append_nil]
    exact hx
   ·obtain ⟨E2, X2⟩ := E1.new (o := .tup (xs ++ ys)) hl
    exact k _ _ _ X2 E2 (.tup upd_same ((h2.append g2).mono X2))
  ·cases h
 ·cases h
noncomputable def xInt1 (g : Int → Xv) : Opn := fun xs S => match xs with
 | [.int i] => some (g i, S)
 | _ => none
theorem rc_int1 {g : Int → V} {g' : Int → Xv} (hg : ∀ i j H, Xis K j H (g' i) (g i)) : RcOk K (fun xs H Q => ∃ i, xs = [V.int i] ∧ Q (g i) H) (xInt1 g') := by
 intro F j σ H ρ S S' xs z vs Q E1 hv h k
 unfold xInt1 at h
 split at h
 ·cases h
  obtain ⟨x, rfl, hx⟩ := hv.d1
  exact ⟨_, by rw [hx.int_inv], k _ _ _ Ext.refl E1 (hg _ _ _)⟩
 ·cases h
noncomputable def dAbs : Opn := xInt1 fun i => .int (if i < 0 then -i else i)
theorem rc_abs : RcOk K (fun xs H Q => ∃ i, xs = [V.int i] ∧ Q (.int (if i < 0 then -i else i)) H) dAbs := rc_int1 fun _ _ _ => .int _
noncomputable def dLen : Opn := fun xs S => match xs with
 | [x] => (seqAt S x).map fun l => (.int l.length, S)
 | _ => none
theorem rc_len : RcOk K (fun xs H Q => ∃ p ys, xs = [V.ref p] ∧ (SqL K H p ys ∨ SqT K H p ys) ∧ Q (.int ys.length) H) dLen := by
 intro F j σ H ρ S S' xs z vs Q E1 hv h k
 unfold dLen at h
 split at h
 ·rename_i x
  cases e : seqAt S x with
  | none => rw [e] at h; cases h
  | some l =>
   rw [e] at h
   cases h
   obtain ⟨w, rfl, hx⟩ := hv.d1
   obtain ⟨a, ws, rfl, h1, h2⟩ := E1.seqAt hx e
   refine ⟨a, ws, rfl, ?_, k _ _ _ Ext.refl E1 (by rw [h2.len]; exact .int _)⟩
   rcases h1 with h1 | h1
   ·exact .inl h1.sql
   ·exact .inr h1
 ·cases h
noncomputable def dTuple : Opn := fun xs S => match xs with
 | [.tup l] => some (.tup l, S)
 | [x] => (lstAt S x).map fun l => (.tup l, S)
 | _ => none
theorem rc_tuple : RcOk K (fun xs H Q => ∃ p ys, xs = [V.ref p] ∧ ((SqL K H p ys ∧ ∀ l, H l = none → Q (.ref l) (upd H l (.tup ys))) ∨ (SqT K H p ys ∧ Q (.ref p) H))) dTuple := by
 intro F j σ H ρ S S' xs z vs Q E1 hv h k
 unfold dTuple at h
 split at h
 ·cases h
  obtain ⟨w, rfl, hx⟩ := hv.d1
  obtain ⟨a, ws, rfl, h1, h2⟩ := hx.tup_inv
  exact ⟨a, ws, rfl, .inr ⟨SqT.of h1, k _ _ _ Ext.refl E1 hx⟩⟩
 ·rename_i x _
  cases e : lstAt S x with
  | none => rw [e] at h; cases h
  | some l =>
   rw [e] at h
   cases h
   obtain ⟨w, rfl, hx⟩ := hv.d1
   obtain ⟨a, ws, rfl, h1, h2⟩ := E1.lstAt hx e
   refine ⟨a, ws, rfl, .inl ⟨h1.sql, fun p hp => ?_⟩⟩
   obtain ⟨E2, X2⟩ := E1.new (o := .tup ws) hp
   exact k _ _ _ X2 E2 (.tup upd_same (h2.mono X2))
 ·cases h
noncomputable def intsX : List Xv → Option (List Int)
 | [] => some []
 | .int i :: r => (intsX r).map (i :: ·)
 | _ :: _ => none
theorem intsX_is : ∀ {xs : List Xv} {ns : List Int} {vs : List V}, intsX xs = some ns → XisL K j H xs vs → vs = ns.map V.int
 | [], ns, vs, e, h => by cases e; exact h.nil_inv
 | x :: r, ns, vs, e, h => by
  obtain ⟨v, ws, rfl, h1, h2⟩ := h.cons_inv
  cases x <;> simp only [intsX, reduceCtorEq] at e
  cases e2 : intsX r with
  | none => rw [e2] at e; cases e
  | some ms =>
   rw [e2] at e
   cases e
   rw [h1.int_inv, intsX_is e2 h2]
   rfl
theorem intsX_map (ns : List Int) : intsX (ns.map Xv.int) = some ns := by
 induction ns with
 | nil => rfl
 | cons n r ih => simp [intsX, ih]
noncomputable def bolsX : List Xv → Option (List Bool)
 | [] => some []
 | .bl i :: r => (bolsX r).map (i :: ·)
 | _ :: _ => none
theorem bolsX_is : ∀ {xs : List Xv} {ns : List Bool} {vs : List V}, bolsX xs = some ns → XisL K j H xs vs → vs = ns.map V.bl
 | [], ns, vs, e, h => by cases e; exact h.nil_inv
 | x :: r, ns, vs, e, h => by
  obtain ⟨v, ws, rfl, h1, h2⟩ := h.cons_inv
  cases x <;> simp only [bolsX, reduceCtorEq] at e
  cases e2 : bolsX r with
  | none => rw [e2] at e; cases e
  | some ms =>
   rw [e2] at e
   cases e
   rw [h1.bl_inv, bolsX_is e2 h2]
   rfl
noncomputable def dSumT : Opn := fun xs S => match xs with
 | [x] => (x.tupOf.bind intsX).map fun ns => (.int ns.sum, S)
 | _ => none
theorem rc_sumT : RcOk K (rSumT K) dSumT := by
 intro F j σ H ρ S S' xs z vs Q E1 hv h k
 unfold dSumT at h
 split at h
 ·rename_i x
  cases e : x.tupOf with
  | none => rw [e] at h; cases h
  | some l =>
   rw [e] at h
   cases e2 : intsX l with
   | none => simp [e2] at h
   | some ns =>
    simp [e2] at h
    obtain ⟨rfl, rfl⟩ := h
    obtain ⟨w, rfl, hx⟩ := hv.d1
    obtain ⟨p, ws, rfl, h1, h2⟩ := hx.tupO e
    refine ⟨p, ns, rfl, ?_, k _ _ _ Ext.refl E1 (.int _)⟩
    rw [← intsX_is e2 h2]
    exact h1
 ·cases h
noncomputable def dAny : Opn := fun xs S => match xs with
 | [x] => ((lstAt S x).bind bolsX).map fun ns => (.bl (ns.any id), S)
 | _ => none
noncomputable def dAll : Opn := fun xs S => match xs with
 | [x] => ((lstAt S x).bind bolsX).map fun ns => (.bl (ns.all id), S)
 | _ => none
theorem rc_any : RcOk K (rAny K) dAny := by
 intro F j σ H ρ S S' xs z vs Q E1 hv h k
 unfold dAny at h
 split at h
 ·rename_i x
  cases e : lstAt S x with
  | none => rw [e] at h; cases h
  | some l =>
   rw [e] at h
   cases e2 : bolsX l with
   | none => simp [e2] at h
   | some ns =>
    simp only [Option.bind_some, e2, Option.map_some, Option.some.injEq, Prod.mk.injEq] at h
    obtain ⟨rfl, rfl⟩ := h
    obtain ⟨w, rfl, hx⟩ := hv.d1
    obtain ⟨p, ws, rfl, h1, h2⟩ := E1.lstAt hx e
    refine ⟨p, ns, rfl, ?_, k _ _ _ Ext.refl E1 (.bl _)⟩
    rw [← bolsX_is e2 h2]
    exact h1.sql
 ·cases h
theorem rc_all : RcOk K (rAll K) dAll := by
 intro F j σ H ρ S S' xs z vs Q E1 hv h k
 unfold dAll at h
 split at h
 ·rename_i x
  cases e : lstAt S x with
  | none => rw [e] at h; cases h
  | some l =>
   rw [e] at h
   cases e2 : bolsX l with
   | none => simp [e2] at h
   | some ns =>
    simp only [Option.bind_some, e2, Option.map_some, Option.some.injEq, Prod.mk.injEq] at h
    obtain ⟨rfl, rfl⟩ := h
    obtain ⟨w, rfl, hx⟩ := hv.d1
    obtain ⟨p, ws, rfl, h1, h2⟩ := E1.lstAt hx e
    refine ⟨p, ns, rfl, ?_, k _ _ _ Ext.refl E1 (.bl _)⟩
    rw [← bolsX_is e2 h2]
    exact h1.sql
 ·cases h
noncomputable def dEqS (neg : Bool) : Op2 := fun x y S => match x, y with
 | .int a, .int b => some (.bl (neg != decide (a = b)), S)
 | .str a, .str b => some (.bl (neg != decide (a = b)), S)
 | .bl a, .bl b => some (.bl (neg != decide (a = b)), S)
 | .non, .non => some (.bl (neg != true), S)
 | .int _, .str _ => some (.bl (neg != false), S)
 | .str _, .int _ => some (.bl (neg != false), S)
 | _, _ => none
theorem r2_eqS : R2Ok K rEq (dEqS false) := by
 intro F j σ H ρ S S' x y z u v Q E1 hx hy h k
 cases hx <;> cases hy <;> simp only [dEqS, reduceCtorEq, Option.some.injEq, Prod.mk.injEq, Bool.false_bne] at h <;> obtain ⟨rfl, rfl⟩ := h <;> refine ⟨rfl, k _ _ _ Ext.refl E1 ?_⟩ <;> simp <;> exact .bl _
noncomputable def flatX : Xv → Bool
 | .non => true
 | .bl _ => true
 | .int _ => true
 | .str _ => true
 | _ => false
noncomputable def eqbX : Xv → Xv → Bool
 | .non, .non => true
 | .bl a, .bl b => a == b
 | .bl a, .int b => (if a then 1 else 0) == b
 | .int a, .bl b => a == (if b then 1 else 0)
 | .int a, .int b => a == b
 | .str a, .str b => a == b
 | _, _ => false
theorem flat_xis {v : V} {x : Xv} (h : Xis K j H x v) : flatV v = flatX x := by cases h <;> rfl
theorem eq_xis {v w : V} {x y : Xv} (h : Xis K j H x v) (g : Xis K j H y w) (fx : flatX x = true) (fy : flatX y = true) : eqV v w = eqbX x y := by cases h <;> cases g <;> first | rfl | cases fx | cases fy
theorem all_xis : ∀ {xs : List Xv} {vs : List V}, XisL K j H xs vs → vs.all flatV = xs.all flatX
 | _, _, .nil => rfl
 | _, _, .cons h l => by rw [List.all_cons, List.all_cons, flat_xis h, all_xis l]
noncomputable def tellL (f : Xv → Option D) : List Xv → Option (List D)
 | [] => some []
 | x :: r => (f x).bind fun d => (tellL f r).map (d :: ·)
noncomputable def tell (S : Sto) : Nat → Xv → Option D
 | 0, x => match x with
  | .non => some .non
  | .bl b => some (.bl b)
  | .int i => some (.int i)
  | .str s => some (.str s)
  | _ => none
 | n + 1, x => match x with
  | .non => some .non
  | .bl b => some (.bl b)
  | .int i => some (.int i)
  | .str s => some (.str s)
  | .tup l => (tellL (tell S n) l).map .tup
  | .ct l => (tellL (tell S n) l).map .tup
  | .ref m => (lstAt S (.ref m)).bind fun l => (tellL (tell S n) l).map .lst
theorem tellL_is {f : Xv → Option D} {n : Nat} (hf : ∀ x v d, Xis K j H x v → f x = some d → Is K H v d ∧ D.depth d ≤ n) : ∀ {xs : List Xv} {vs : List V} {ds : List D}, XisL K j H xs vs → tellL f xs = some ds → IsL K H vs ds ∧ D.depths ds ≤ n
 | _, _, _, .nil, e => by cases e; exact ⟨.nil, by simp [D.depths]⟩
 | x :: r, _, ds, .cons h l, e => by
  unfold tellL at e
  cases e1 : f x with
  | none => rw [e1] at e; cases e
  | some d =>
   rw [e1] at e
   cases e2 : tellL f r with
   | none => simp [e2] at e
   | some es =>
    simp [e2] at e
    subst e
    obtain ⟨a1, a2⟩ := hf _ _ _ h e1
    obtain ⟨b1, b2⟩ := tellL_is hf l e2
    exact ⟨.cons a1 b1, by unfold D.depths; omega⟩
theorem tell_is (E1 : En K F j H σ ρ S) : ∀ (n : Nat) (x : Xv) (v : V) (d : D), Xis K j H x v → tell S n x = some d → Is K H v d ∧ D.depth d ≤ n
 | 0, x, v, d, h, e => by
  cases h <;> simp only [tell, Option.some.injEq, reduceCtorEq] at e <;> subst e <;> refine ⟨by constructor, by simp [D.depth]⟩
 | n + 1, x, v, d, h, e => by
  have ih := tell_is E1 n
  cases h with
  | non => simp only [tell, Option.some.injEq] at e; subst e; exact ⟨.non, by simp [D.depth]⟩
  | bl b => simp only [tell, Option.some.injEq] at e; subst e; exact ⟨.bl b, by simp [D.depth]⟩
  | int b => simp only [tell, Option.some.injEq] at e; subst e; exact ⟨.int b, by simp [D.depth]⟩
  | str b => simp only [tell, Option.some.injEq] at e; subst e; exact ⟨.str b, by simp [D.depth]⟩
  | @tup a vs l h1 h2 =>
   simp only [tell] at e
   cases e2 : tellL (tell S n) l with
   | none => rw [e2] at e; cases e
   | some ds =>
    rw [e2] at e
    cases e
    obtain ⟨a1, a2⟩ := tellL_is ih h2 e2
    exact ⟨.tup (SqT.of h1) a1, by unfold D.depth; omega⟩
  | @ct a vs l h1 h2 =>
   simp only [tell] at e
   cases e2 : tellL (tell S n) l with
   | none => rw [e2] at e; cases e
   | some ds =>
    rw [e2] at e
    cases e
    obtain ⟨a1, a2⟩ := tellL_is ih h2 e2
    exact ⟨.tup (h1 H) a1, by unfold D.depth; omega⟩
  | @ref m a h1 =>
   simp only [tell] at e
   cases e1 : lstAt S (.ref m) with
   | none => rw [e1] at e; cases e
   | some l =>
    rw [e1] at e
    cases e2 : tellL (tell S n) l with
    | none => simp [e2] at e
    | some ds =>
     simp [e2] at e
     subst e
     obtain ⟨a', vs, ea, g1, g2⟩ := E1.lstAt (.ref h1) e1
     cases ea
     obtain ⟨a1, a2⟩ := tellL_is ih g2 e2
     exact ⟨.lst g1.sql a1, by unfold D.depth; omega⟩
noncomputable def D.many : D → Bool
 | .tup _ => true
 | .lst _ => true
 | _ => false
noncomputable def isiX (c : String) (S : Sto) : Xv → Option Bool
 | .non => some false
 | .int _ => some (c == "int")
 | .bl _ => some (c == "bool" || c == "int")
 | .str _ => some (c == "str")
 | .tup _ => some (c == "tuple")
 | .ct _ => some (c == "tuple")
 | .ref n => (lstAt S (.ref n)).map fun _ => c == "list"
structure IsiOk (c : String) : Prop where
 non : ∀ K, PySem.W.kitOne K (.type "NoneType") (.type c) = some false
 bl : ∀ K, PySem.W.kitOne K (.type "bool") (.type c) = some (c == "bool" || c == "int")
 int : ∀ K, PySem.W.kitOne K (.type "int") (.type c) = some (c == "int")
 str : ∀ K, PySem.W.kitOne K (.type "str") (.type c) = some (c == "str")
 tup : ∀ K, PySem.W.kitOne K (.type "tuple") (.type c) = some (c == "tuple")
 lst : ∀ K, PySem.W.kitOne K (.type "list") (.type c) = some (c == "list")
theorem kitN (a b : String) (K : PySem.W.Frag) (h1 : (Value.type a == Value.type b) = false) (h : (fastBuiltinMro a).map (·.contains (.type b)) = some false) (hm : PySem.W.kitMeta b = true) : PySem.W.kitOne K (.type a) (.type b) = some false := kit_no h1 h hm rfl
theorem isi_int : IsiOk "int" := ⟨fun K => kitN _ _ K (by decide) (by decide +kernel) (by decide +kernel), fun K => kit_bool_int, fun K => kit_same, fun K => kitN _ _ K (by decide) (by decide +kernel) (by decide +kernel), fun K => kitN _ _ K (by decide) (by decide +kernel) (by decide +kernel), fun K => kitN _ _ K (by decide) (by decide +kernel) (by decide +kernel)⟩
theorem isi_bool : IsiOk "bool" := ⟨fun K => kitN _ _ K (by decide) (by decide +kernel) (by decide +kernel), fun K => kit_same, fun K => kit_int_bool, fun K => kitN _ _ K (by decide) (by decide +kernel) (by decide +kernel), fun K => kitN _ _ K (by decide) (by decide +kernel) (by decide +kernel), fun K => kitN _ _ K (by decide) (by decide +kernel) (by decide +kernel)⟩
theorem isi_str : IsiOk "str" := ⟨fun K => kitN _ _ K (by decide) (by decide +kernel) (by decide +kernel), fun K => kitN _ _ K (by decide) (by decide +kernel) (by decide +kernel), fun K => kitN _ _ K (by decide) (by decide +kernel) (by decide +kernel), fun K => kit_same, fun K => kitN _ _ K (by decide) (by decide +kernel) (by decide +kernel), fun K => kitN _ _ K (by decide) (by decide +kernel) (by decide +kernel)⟩
theorem isi_tuple : IsiOk "tuple" := ⟨fun K => kitN _ _ K (by decide) (by decide +kernel) (by decide +kernel), fun K => kitN _ _ K (by decide) (by decide +kernel) (by decide +kernel), fun K => kitN _ _ K (by decide) (by decide +kernel) (by decide +kernel), fun K => kitN _ _ K (by decide) (by decide +kernel) (by decide +kernel), fun K => kit_same, fun K => kitN _ _ K (by decide) (by decide +kernel) (by decide +kernel)⟩
theorem isi_list : IsiOk "list" := ⟨fun K => kitN _ _ K (by decide) (by decide +kernel) (by decide +kernel), fun K => kitN _ _ K (by decide) (by decide +kernel) (by decide +kernel), fun K => kitN _ _ K (by decide) (by decide +kernel) (by decide +kernel), fun K => kitN _ _ K (by decide) (by decide +kernel) (by decide +kernel), fun K => kitN _ _ K (by decide) (by decide +kernel) (by decide +kernel), fun K => kit_same⟩
noncomputable def dIsi (c : String) : Xv → Sto → Option (Xv × Sto) := fun x S => (isiX c S x).map fun b => (.bl b, S)
theorem isi_xis {c : String} (ok : IsiOk c) (E1 : En K F j H σ ρ S) {b : Bool} {Q : VK} (h : Xis K j H x v) (e : isiX c S x = some b) (k : Q (.bl b) H) : rIsi K [v, .ty c] H Q := by
 cases h with
 | non => cases e; exact ⟨_, _, _, _, _, rfl, rfl, .of .non, ok.non K, k⟩
 | bl b => cases e; exact ⟨_, _, _, _, _, rfl, rfl, .of (.bl b), ok.bl K, k⟩
 | int i => cases e; exact ⟨_, _, _, _, _, rfl, rfl, .of (.int i), ok.int K, k⟩
 | str z => cases e; exact ⟨_, _, _, _, _, rfl, rfl, .of (.str z), ok.str K, k⟩
 | tup h l => cases e; exact ⟨_, _, _, _, _, rfl, rfl, .sqt (SqT.of h), ok.tup K, k⟩
 | ct h l => cases e; exact ⟨_, _, _, _, _, rfl, rfl, .sqt (h H), ok.tup K, k⟩
 | @ref n a h =>
  simp only [isiX] at e
  cases e1 : lstAt S (.ref n) with
  | none => rw [e1] at e; cases e
  | some l =>
   rw [e1] at e
   cases e
   obtain ⟨a', vs, ea, g1, g2⟩ := E1.lstAt (.ref h) e1
   cases ea
   exact ⟨_, _, _, _, _, rfl, rfl, .sql g1.sql, ok.lst K, k⟩
theorem re_isi {c : String} {t : TE} {m : TwE} (ok : IsiOk c) (h : RE K E t m) : RE K E (tCB (rIsi K) (tCons t (tCons (tC (.ty c)) tNil))) (eUn (dIsi c) m) := by
 intro F j σ H ρ S r Q En0 e k
 rcases rb_some e with ⟨x, S1, e1, e⟩ | ⟨c, S1, e1, rfl⟩
 ·obtain ⟨z, S3, e3, rfl⟩ := okP_some e
  unfold dIsi at e3
  cases e4 : isiX c S1 x with
  | none => rw [e4] at e3; cases e3
  | some b =>
   rw [e4] at e3
   cases e3
   exact h En0 e1 fun j1 H1 X1 E1 u hu => isi_xis ok E1 hu e4 (k _ _ X1 E1 _ (.bl _))
 ·exact h En0 e1 k
noncomputable def dListRev : Xv → Sto → Option (Xv × Sto) := fun x S => (lstAt S x).map fun l => (.ref S.length, S ++ [.lst l.reverse])
theorem re_listRev {t : TE} {m : TwE} (h : RE K E t m) : RE K E (tListRev K t) (eUn dListRev m) := by
 intro F j σ H ρ S r Q En0 e k
 rcases rb_some e with ⟨x, S1, e1, e⟩ | ⟨c, S1, e1, rfl⟩
 ·obtain ⟨z, S3, e3, rfl⟩ := okP_some e
  unfold dListRev at e3
  cases e4 : lstAt S1 x with
  | none => rw [e4] at e3; cases e3
  | some l =>
   rw [e4] at e3
   cases e3
   refine h En0 e1 fun j1 H1 X1 E1 u hu => ?_
   obtain ⟨p, ys, rfl, h1, h2⟩ := E1.lstAt hu e4
   refine ⟨p, ys, rfl, h1, fun l hl => ?_⟩
   obtain ⟨E2, X2, h3⟩ := E1.lst h2.reverse hl
   exact k _ _ (X1.trans X2) E2 _ h3
 ·exact h En0 e1 k
noncomputable def enumX (xs : List Xv) : List Xv := xs.zipIdx.map fun p => .tup [.int (p.2 : Int), p.1]
theorem enumX_at {xs : List Xv} {i : Nat} {y : Xv} (h : (enumX xs)[i]? = some y) : ∃ x, xs[i]? = some x ∧ y = .tup [.int (i : Int), x] := by
 unfold enumX at h
 rw [List.getElem?_map, List.getElem?_zipIdx] at h
 cases e : xs[i]? with
 | none => rw [e] at h; cases h
 | some x =>
  rw [e] at h
  simp at h
  exact ⟨x, rfl, h.symm⟩
theorem enumX_len (xs : List Xv) : (enumX xs).length = xs.length := by simp [enumX]
theorem tup2 {p : Addr} {H' : Hp} {i : Int} {y : Xv} {w : V} (Sm : Same H H') (hp : H' p = some (.tup [.int i, w])) (h : Xis K j H y w) : Xis K j H' (.tup [.int i, y]) (.ref p) :=
 .tup hp (.cons (.int i) (.one (h.mono (Ext.same Sm))))
noncomputable def iEnT (m : TwE) : TwI := fun ρ S => rb (m ρ S) fun x S1 => x.tupOf.map fun l => .ok (fun _ => some (enumX l)) S1
theorem ri_enumT {t : TE} {m : TwE} (h : RE K E t m) : RI K E (iEnumT K (tCons t tNil)) (iEnT m) := by
 intro F j σ H ρ S r R En0 e k
 rcases rb_some e with ⟨x, S1, e1, e⟩ | ⟨c, S1, e1, rfl⟩
 ·cases el : x.tupOf with
  | none => rw [el] at e; cases e
  | some l =>
   rw [el] at e
   cases e
   refine h En0 e1 fun j1 H1 X1 E1 u hu => ?_
   obtain ⟨a, vs, rfl, h1, _⟩ := hu.tupO el
   refine ⟨a, rfl, ⟨vs, h1⟩, k _ _ X1 E1 _ ?_⟩
   intro F2 j2 H2 σ2 ρ2 S2 xs i X2 E2 e2
   cases e2
   obtain ⟨a', ws, ea, g1, g2⟩ := (hu.mono X2).tupO el
   cases ea
   refine ⟨fun y ey => ?_, fun hle => ⟨ws, g1, by rw [g2.len]; rw [enumX_len] at hle; omega⟩⟩
   obtain ⟨y', ey', rfl⟩ := enumX_at ey
   obtain ⟨w, f1, f2⟩ := g2.get ey'
   refine ⟨⟨ws, w, g1, f1⟩, ?_⟩
   rintro v' H' ⟨p, w', rfl, hp, rfl, hx⟩
   have := hx ws g1
   rw [f1] at this
   cases this
   exact ⟨same_upd hp, tup2 (same_upd hp) upd_same f2⟩
 ·exact h En0 e1 k
end
end L2
namespace L2
open PySem PySem.Spec PyProof.Rows
section
variable {K : PySem.W.Frag} {E : XK} {F : Fm} {j : List Addr} {H : Hp} {σ : St} {ρ : Rho} {S : Sto} {x : Xv} {v : V} {κ : Type}
end
end L2
namespace L2
open PySem PySem.Spec PyProof.Rows
open PySem.Builtin.Int (intBits)
noncomputable def W {α : Type} (r : Option (Rs α)) (P : α → Sto → Prop) : Prop := ∃ a S, r = some (.ok a S) ∧ P a S
noncomputable def WO (r : Option (Xv × Sto)) (P : Xv → Sto → Prop) : Prop := ∃ a S, r = some (a, S) ∧ P a S
noncomputable def WS (r : Option Fl) (N : Rho → Sto → Prop) (R : Xv → Sto → Prop) : Prop := (∃ ρ S, r = some (.nx ρ S) ∧ N ρ S) ∨ ∃ x S, r = some (.rt x S) ∧ R x S
section
variable {ρ : Rho} {S S' : Sto} {d x y : Xv} {a b m o : TwE} {c : TwT} {s t : TwS} {i k : Nat} {P : Xv → Sto → Prop} {PB : Bool → Sto → Prop} {PL : List Xv → Sto → Prop} {PO : Option Int → Sto → Prop} {N : Rho → Sto → Prop} {R : Xv → Sto → Prop}
theorem W.of {α : Type} {r : Option (Rs α)} {a : α} {P : α → Sto → Prop} (e : r = some (.ok a S)) (h : P a S) : W r P := ⟨a, S, e, h⟩
theorem WO.of {r : Option (Xv × Sto)} (e : r = some (x, S)) (h : P x S) : WO r P := ⟨x, S, e, h⟩
theorem W.imp {α : Type} {r : Option (Rs α)} {P Q : α → Sto → Prop} (h : W r P) (k : ∀ a S, P a S → Q a S) : W r Q := by
 obtain ⟨a, S, e, h⟩ := h
 exact ⟨a, S, e, k _ _ h⟩
theorem WS.nx {r : Option Fl} (e : r = some (.nx ρ S)) (h : N ρ S) : WS r N R := .inl ⟨ρ, S, e, h⟩
theorem WS.rt {r : Option Fl} (e : r = some (.rt x S)) (h : R x S) : WS r N R := .inr ⟨x, S, e, h⟩
theorem W.bind {α β : Type} {r : Option (Rs α)} {f : α → Sto → Option (Rs β)} {P : β → Sto → Prop} (h : W r fun a S => W (f a S) P) : W (rb r f) P := by
 obtain ⟨a, S, rfl, h⟩ := h
 exact h
theorem WS.bind {α : Type} {r : Option (Rs α)} {f : α → Sto → Option Fl} (h : W r fun a S => WS (f a S) N R) : WS (sb r f) N R := by
 obtain ⟨a, S, rfl, h⟩ := h
 exact h
theorem W.okP {r : Option (Xv × Sto)} (h : WO r P) : W (okP r) P := by
 obtain ⟨a, S, rfl, h⟩ := h
 exact ⟨a, S, rfl, h⟩
theorem wx_var (h : ρ[i]? = some (some d)) (k : P d S) : W (eVar i ρ S) P := .of (by unfold eVar; rw [h]) k
theorem wx_c (k : P d S) : W (eC d ρ S) P := .of rfl k
theorem wx_op {f : Op2} (h : W (a ρ S) fun x S1 => W (b ρ S1) fun y S2 => WO (f x y S2) P) : W (eOp f a b ρ S) P := W.bind (h.imp fun _ _ h => W.bind (h.imp fun _ _ h => W.okP h))
theorem wx_un {f : Xv → Sto → Option (Xv × Sto)} (h : W (a ρ S) fun x S1 => WO (f x S1) P) : W (eUn f a ρ S) P := W.bind (h.imp fun _ _ h => W.okP h)
theorem wx_bE (h : W (a ρ S) fun x S1 => ∃ v, x = .bl v ∧ PB v S1) : W (bE a ρ S) PB := W.bind (h.imp fun x S1 h => by obtain ⟨v, rfl, k⟩ := h; exact .of rfl k)
theorem wx_eB (h : W (c ρ S) fun v S1 => P (.bl v) S1) : W (eB c ρ S) P := W.bind (h.imp fun _ _ k => .of rfl k)
theorem wx_not (h : W (c ρ S) fun v S1 => PB (!v) S1) : W (bNot c ρ S) PB := W.bind (h.imp fun _ _ k => .of rfl k)
theorem wx_and {c2 : TwT} (h : W (c ρ S) fun v S1 => (v = true → W (c2 ρ S1) PB) ∧ (v = false → PB false S1)) : W (bAnd c c2 ρ S) PB := W.bind (h.imp fun v S1 k => by
 cases v with
 | true => rw [if_pos rfl]; exact k.1 rfl
 | false => exact .of rfl (k.2 rfl))
theorem wx_or {c2 : TwT} (h : W (c ρ S) fun v S1 => (v = true → PB true S1) ∧ (v = false → W (c2 ρ S1) PB)) : W (bOr c c2 ρ S) PB := W.bind (h.imp fun v S1 k => by
 cases v with
 | true => exact .of rfl (k.1 rfl)
 | false => rw [if_neg (by simp)]; exact k.2 rfl)
theorem wx_eAnd (h : W (a ρ S) fun x S1 => ∃ v, x = .bl v ∧ (v = true → W (b ρ S1) P) ∧ (v = false → P (.bl false) S1)) : W (eAnd a b ρ S) P := W.bind ((wx_bE h).imp fun v S1 k => by
 cases v with
 | true => rw [if_pos rfl]; exact k.1 rfl
 | false => exact .of rfl (k.2 rfl))
theorem wx_nil (k : PL [] S) : W (evL [] ρ S) PL := .of rfl k
theorem wx_cons {ms : List TwE} (h : W (m ρ S) fun d S1 => W (evL ms ρ S1) fun ds S2 => PL (d :: ds) S2) : W (evL (m :: ms) ρ S) PL := W.bind (h.imp fun _ _ h => W.bind (h.imp fun _ _ k => .of rfl k))
theorem wx_tup {ms : List TwE} (h : W (evL ms ρ S) fun ds S1 => P (.tup ds) S1) : W (eTup ms ρ S) P := W.bind (h.imp fun _ _ k => .of rfl k)
theorem wx_lst {ms : List TwE} (h : W (evL ms ρ S) fun ds S1 => P (.ref S1.length) (S1 ++ [.lst ds])) : W (eLst ms ρ S) P := W.bind (h.imp fun _ _ k => .of rfl k)
theorem wx_fn {f : Opn} {ms : List TwE} (h : W (evL ms ρ S) fun ds S1 => WO (f ds S1) P) : W (eFn f ms ρ S) P := W.bind (h.imp fun _ _ h => W.okP h)
theorem wx_call {tw : TwF} {ms : List TwE} (h : W (evL ms ρ S) fun ds S1 => W (tw ds S1) P) : W (eCall tw ms ρ S) P := W.bind h
theorem wx_oNo (k : PO none S) : W (oNo ρ S) PO := .of rfl k
theorem wx_oSome (h : W (m ρ S) fun x S1 => ∃ k, x = .int k ∧ PO (some k) S1) : W (oSome m ρ S) PO := W.bind (h.imp fun x S1 h => by obtain ⟨v, rfl, k⟩ := h; exact .of rfl k)
theorem wx_sl {f : Xv → Option Int → Option Int → Sto → Option (Xv × Sto)} {lo hi : TwO} (h : W (m ρ S) fun x S1 => W (lo ρ S1) fun u S2 => W (hi ρ S2) fun v S3 => WO (f x u v S3) P) : W (eSl f m lo hi ρ S) P :=
 W.bind (h.imp fun _ _ h => W.bind (h.imp fun _ _ h => W.bind (h.imp fun _ _ h => W.okP h)))
theorem wx_mt {f : OpM} {ms : List TwE} (h : W (o ρ S) fun x S1 => (∃ l, lstAt S1 x = some l) ∧ W (evL ms ρ S1) fun ys S2 => WO (f x ys S2) P) : W (eMt f o ms ρ S) P := W.bind (h.imp fun x S1 h => by
 obtain ⟨⟨l, e⟩, h⟩ := h
 rw [e, Option.bind_some]
 exact W.bind (h.imp fun _ _ h => W.okP h))
theorem wx_seq (h : WS (s ρ S) (fun ρ1 S1 => WS (t ρ1 S1) N R) R) : WS (sSeq s t ρ S) N R := by
 unfold sSeq
 rcases h with ⟨ρ1, S1, e, h⟩ | ⟨x, S1, e, h⟩
 ·rw [e]; exact h
 ·rw [e]; exact .rt rfl h
theorem wx_next (h : N ρ S) : WS (sNext ρ S) N R := .nx rfl h
theorem wx_asg {g : TwG} (h : W (m ρ S) fun d S1 => W (g d ρ S1) N) : WS (sAsg m g ρ S) N R := WS.bind (h.imp fun _ _ h => WS.bind (h.imp fun _ _ k => .nx rfl k))
theorem wx_set (h : W (m ρ S) fun d S1 => N (ρ.set i (some d)) S1) : WS (sAsg m (gN i) ρ S) N R := WS.bind (h.imp fun _ _ k => .nx rfl k)
theorem wx_expr (h : W (m ρ S) fun _ S1 => N ρ S1) : WS (sExpr m ρ S) N R := WS.bind (h.imp fun _ _ k => .nx rfl k)
theorem wx_ret (h : W (m ρ S) fun d S1 => R d S1) : WS (sRet m ρ S) N R := WS.bind (h.imp fun _ _ k => .rt rfl k)
theorem wx_if (h : W (c ρ S) fun v S1 => (v = true → WS (s ρ S1) N R) ∧ (v = false → WS (t ρ S1) N R)) : WS (sIf c s t ρ S) N R := WS.bind (h.imp fun v S1 k => by
 cases v with
 | true => rw [if_pos rfl]; exact k.1 rfl
 | false => rw [if_neg (by simp)]; exact k.2 rfl)
theorem wx_cut {r : Option Fl} (I : Rho → Sto → Prop) (h : WS r I R) (k : ∀ ρ S, I ρ S → N ρ S) : WS r N R := by
 rcases h with ⟨ρ, S, e, h⟩ | h
 ·exact .inl ⟨ρ, S, e, k ρ S h⟩
 ·exact .inr h
theorem wx_wh {n : Nat} (h : WS (whTw c s n ρ S) N R) : WS (sWh n c s ρ S) N R := h
theorem wx_turn {n : Nat} (h : W (c ρ S) fun v S1 => (v = true → WS (s ρ S1) (fun ρ2 S2 => WS (whTw c s n ρ2 S2) N R) R) ∧ (v = false → N ρ S1)) : WS (whTw c s (n + 1) ρ S) N R := by
 unfold whTw
 refine WS.bind (h.imp fun v S1 k => ?_)
 cases v with
 | true =>
  rw [if_pos rfl]
  rcases k.1 rfl with ⟨ρ2, S2, e2, h⟩ | ⟨x, S2, e2, h⟩
  ·rw [e2]; exact h
  ·rw [e2]; exact .rt rfl h
 | false => exact .nx rfl (k.2 rfl)
theorem wx_for {n : TwI} {g : TwG} (h : W (n ρ S) fun get S1 => ∃ xs, get S1 = some xs ∧ WS (forTw get g s (xs.length + 1) 0 ρ S1) N R) : WS (sFor n g s ρ S) N R := WS.bind (h.imp fun get S1 h => by
 obtain ⟨xs, e, h⟩ := h
 rw [e, Option.bind_some]
 exact h)
theorem wx_forI {get : Sto → Option (List Xv)} {g : TwG} {xs : List Xv} (J : Nat → Rho → Sto → Prop) (hg : ∀ i ρ S, i ≤ xs.length → J i ρ S → get S = some xs)
  (h : ∀ (i : Nat) (x : Xv) ρ S, xs[i]? = some x → J i ρ S → W (g x ρ S) fun ρ1 S1 => WS (s ρ1 S1) (fun ρ2 S2 => J (i + 1) ρ2 S2) R) (h0 : J 0 ρ S) (k : ∀ ρ S, J xs.length ρ S → N ρ S) : WS (forTw get g s (xs.length + 1) 0 ρ S) N R := by
 have aux : ∀ (n i : Nat) (ρ : Rho) (S : Sto), i + n = xs.length → J i ρ S → WS (forTw get g s (n + 1) i ρ S) N R := by
  intro n
  induction n with
  | zero =>
   intro i ρ S e hj
   unfold forTw
   rw [hg i ρ S (by omega) hj, Option.bind_some, List.getElem?_eq_none (by omega)]
   dsimp only
   rw [if_pos (by omega)]
   exact .nx rfl (k ρ S (by rw [show xs.length = i by omega]; exact hj))
  | succ n ih =>
   intro i ρ S e hj
   unfold forTw
   have hi : i < xs.length := by omega
   rw [hg i ρ S (by omega) hj, Option.bind_some, List.getElem?_eq_getElem hi]
   refine WS.bind ((h i _ ρ S (List.getElem?_eq_getElem hi) hj).imp fun ρ1 S1 h1 => ?_)
   rcases h1 with ⟨ρ2, S2, e2, h2⟩ | ⟨x, S2, e2, h2⟩
   ·rw [e2]; exact ih (i + 1) ρ2 S2 (by omega) h2
   ·rw [e2]; exact .rt rfl h2
 exact aux xs.length 0 ρ S (by omega) h0
theorem wx_iL (h : W (m ρ S) fun x S1 => ∃ l, lstAt S1 x = some l ∧ Q' (fun S => lstAt S x) S1) : W (iL m ρ S) Q' := W.bind (h.imp fun x S1 h => by
 obtain ⟨l, e, k⟩ := h
 rw [e]
 exact .of rfl k)
theorem wx_iT {Q' : (Sto → Option (List Xv)) → Sto → Prop} (h : W (m ρ S) fun x S1 => ∃ l, x.tupOf = some l ∧ Q' (fun _ => some l) S1) : W (iT m ρ S) Q' := W.bind (h.imp fun x S1 h => by
 obtain ⟨l, e, k⟩ := h
 rw [e]
 exact .of rfl k)
theorem wx_iR1 {Q' : (Sto → Option (List Xv)) → Sto → Prop} (h : W (m ρ S) fun x S1 => ∃ k : Int, x = .int k ∧ (-(2 ^ 62) ≤ k ∧ k < 2 ^ 62) ∧ Q' (fun _ => some (rangeX 0 k.toNat)) S1) : W (iR1 m ρ S) Q' := W.bind (h.imp fun x S1 h => by
 obtain ⟨k, rfl, hk, q⟩ := h
 dsimp only
 rw [if_pos hk]
 exact .of rfl q)
theorem rangeX_at {lo : Int} {n i : Nat} {x : Xv} (h : (rangeX lo n)[i]? = some x) : i < n ∧ x = .int (lo + i) := by
 unfold rangeX at h
 rw [List.getElem?_map] at h
 have hi : i < n := by
  apply Classical.byContradiction
  intro hn
  rw [List.getElem?_eq_none (by simp; omega)] at h
  cases h
 rw [List.getElem?_range hi] at h
 cases h
 exact ⟨hi, rfl⟩
theorem rangeX_len {lo : Int} {n : Nat} : (rangeX lo n).length = n := by simp [rangeX]
theorem wx_comp {cap : List (Option Nat)} {n : TwI} {g : TwG} (h : W (n ρ S) fun get S1 => ∃ xs, get S1 = some xs ∧ W (compTw get g c m (capR cap ρ) (xs.length + 1) 0 [] S1) P) : W (eComp cap n g c m ρ S) P := W.bind (h.imp fun get S1 h => by
 obtain ⟨xs, e, h⟩ := h
 rw [e, Option.bind_some]
 exact h)
theorem wx_compI {get : Sto → Option (List Xv)} {g : TwG} {ρc : Rho} {xs : List Xv} (hl : xs.length ≤ sizeLine) (J : Nat → List Xv → Sto → Prop) (hg : ∀ i es S, i ≤ xs.length → J i es S → get S = some xs)
  (h : ∀ (i : Nat) (x : Xv) es S, xs[i]? = some x → es.length = i → J i es S → W (g x ρc S) fun ρ1 S1 => W (c ρ1 S1) fun b S2 => b = true ∧ W (m ρ1 S2) fun y S3 => J (i + 1) (es ++ [y]) S3) (h0 : J 0 [] S)
  (k : ∀ es S, es.length = xs.length → J xs.length es S → P (.ref S.length) (S ++ [.lst es])) : W (compTw get g c m ρc (xs.length + 1) 0 [] S) P := by
 have aux : ∀ (n i : Nat) (es : List Xv) (S : Sto), i + n = xs.length → es.length = i → J i es S → W (compTw get g c m ρc (n + 1) i es S) P := by
  intro n
  induction n with
  | zero =>
   intro i es S e el hj
   unfold compTw
   rw [hg i es S (by omega) hj, Option.bind_some, List.getElem?_eq_none (by omega)]
   dsimp only
   rw [if_pos (by omega)]
   exact .of rfl (k es S (by omega) (by rw [show xs.length = i by omega]; exact hj))
  | succ n ih =>
   intro i es S e el hj
   unfold compTw
   have hi : i < xs.length := by omega
   rw [hg i es S (by omega) hj, Option.bind_some, List.getElem?_eq_getElem hi]
   obtain ⟨ρ1, S1, e1, b, S2, e2, rfl, y, S3, e3, q⟩ := h i _ es S (List.getElem?_eq_getElem hi) el hj
   dsimp only [rn]
   rw [e1]
   dsimp only [rn]
   rw [e2]
   dsimp only [rn]
   rw [if_pos rfl, e3]
   dsimp only [rn]
   rw [if_pos (by omega)]
   exact ih (i + 1) (es ++ [y]) S3 (by omega) (by simp [el]) q
 exact aux xs.length 0 [] S (by omega) rfl h0
theorem wx_true (k : PB true S) : W (bTrue ρ S) PB := .of rfl k
theorem wx_run {n k : Nat} {xs : List Xv} {ρ0 : Rho} (hn : xs.length = n) (h0 : xs.map some ++ List.replicate k none = ρ0) (h : WS (s ρ0 S) (fun _ S1 => P .non S1) P) : W (runTw n k s xs S) P := by
 unfold runTw
 rw [if_pos hn, h0]
 rcases h with ⟨ρ, S1, e, h⟩ | ⟨x, S1, e, h⟩
 ·rw [e]; exact .of rfl h
 ·rw [e]; exact .of rfl h
variable {p q : Int}
theorem ox_add (k : P (.int (p + q)) S) : WO (dAdd (.int p) (.int q) S) P := .of rfl k
theorem ox_lt (k : P (.bl (decide (p < q))) S) : WO (dLt (.int p) (.int q) S) P := .of rfl k
theorem ox_gt (k : P (.bl (decide (q < p))) S) : WO (dGt (.int p) (.int q) S) P := .of rfl k
theorem ox_eqI (k : P (.bl (decide (p = q))) S) : WO (dEqI (.int p) (.int q) S) P := .of rfl k
theorem ox_neI (k : P (.bl (!decide (p = q))) S) : WO (dNeI (.int p) (.int q) S) P := .of rfl k
theorem ox_mod (h : 0 < q) (k : P (.int (p % q)) S) : WO (dMod (.int p) (.int q) S) P := .of (by unfold dMod xIC; exact if_pos (by simpa using h)) k
theorem ox_fdivB (h : q ≠ 0 ∧ intBits q ≤ 9000) (k : P (.int (p.fdiv q)) S) : WO (dFdivB (.int p) (.int q) S) P := .of (by unfold dFdivB xIC; exact if_pos (decide_eq_true h)) k
theorem ox_len {l : List Xv} (h : lstAt S x = some l) (k : P (.int l.length) S) : WO (dLen [x] S) P := .of (by
 unfold dLen seqAt
 dsimp only
 have : x.tupOf = none := by cases x <;> first | rfl | cases h
 rw [this]
 dsimp only
 rw [h]
 rfl) k
theorem ox_ixL {l : List Xv} {z : Xv} (h : lstAt S x = some l) (e : atI l p = some z) (k : P z S) : WO (dIxL x (.int p) S) P := .of (by unfold dIxL; rw [h]; dsimp only; rw [e]; rfl) k
theorem ox_ixT {l : List Xv} {z : Xv} (h : x.tupOf = some l) (e : atI l p = some z) (k : P z S) : WO (dIxT x (.int p) S) P := .of (by unfold dIxT; rw [h]; dsimp only; rw [e]; rfl) k
theorem atI_0 {β : Type} {x : β} {l : List β} : atI (x :: l) 0 = some x := by
 unfold atI ixN
 rw [if_pos (show (0 : Int) ≤ 0 by decide), if_pos (by simp only [List.length_cons]; omega)]
 rfl
theorem atI_1 {β : Type} {x y : β} {l : List β} : atI (x :: y :: l) 1 = some y := by
 unfold atI ixN
 rw [if_pos (show (0 : Int) ≤ 1 by decide), if_pos (by simp only [List.length_cons]; omega)]
 rfl
theorem ox_ix0 {l : List Xv} (k : P x S) : WO (dIxT (.tup (x :: l)) (.int 0) S) P := ox_ixT rfl atI_0 k
theorem ox_ix1 {l : List Xv} (k : P y S) : WO (dIxT (.tup (x :: y :: l)) (.int 1) S) P := ox_ixT rfl atI_1 k
theorem atI_nn {β : Type} {l : List β} {k : Int} {z : β} (h0 : 0 ≤ k) (h : l[k.toNat]? = some z) : atI l k = some z := by
 have hk := (List.getElem?_eq_some_iff.1 h).1
 unfold atI ixN
 rw [if_pos h0, if_pos (by omega)]
 exact h
theorem ox_append {n : Nat} {l : List Xv} (h : wlAt S x = some (n, l)) (hz : l.length < sizeLine) (k : P .non (S.set n (.lst (l ++ [y])))) : WO (mAppend x [y] S) P := .of (by unfold mAppend; rw [h]; dsimp only; rw [if_pos hz]) k
theorem ox_slL {l : List Xv} {lo hi : Option Int} (h : lstAt S x = some l) (k : P (.ref S.length) (S ++ [.lst (cutD l lo hi)])) : WO (dSlL x lo hi S) P := .of (by unfold dSlL; rw [h]; rfl) k
theorem ox_isi {c : String} {v : Bool} (h : isiX c S x = some v) (k : P (.bl v) S) : WO (dIsi c x S) P := .of (by unfold dIsi; rw [h]; rfl) k
end
theorem lstAt_new {S : Sto} {l : List Xv} : lstAt (S ++ [.lst l]) (.ref S.length) = some l := by simp [lstAt]
theorem wlAt_of {S : Sto} {n : Nat} {l : List Xv} (h : S[n]? = some (.lst l)) : wlAt S (.ref n) = some (n, l) := by simp [wlAt, h]
theorem lstAt_of {S : Sto} {n : Nat} {l : List Xv} (h : S[n]? = some (.lst l)) : lstAt S (.ref n) = some l := by simp [lstAt, h]
end L2
namespace L2
open PySem PySem.Spec PyProof.Rows PySem.Calls
section
variable {X : Cx}
end
section
variable {K : PySem.W.Frag} {E : XK}
end
end L2
namespace L2
open PySem PySem.Spec PyProof.Rows PySem.Calls
section
variable {K : PySem.W.Frag} {E : XK}
end
end L2
namespace L2
open PySem PySem.Spec PyProof.Rows PySem.Calls
noncomputable def allZ (f : D → D → Option Bool) : List D → List D → Option Bool
 | a :: l, b :: m => (f a b).bind fun x => (allZ f l m).map (x && ·)
 | _, _ => some true
theorem allZ_at {f : D → D → Option Bool} : ∀ {l m : List D} {b : Bool}, allZ f l m = some b → ∃ e : Nat → Bool, (∀ (j : Nat) a c, l[j]? = some a → m[j]? = some c → f a c = some (e j)) ∧ b = (List.range (min l.length m.length)).all e
 | [], m, b, h => by
  unfold allZ at h
  cases h
  exact ⟨fun _ => true, fun j a c ha => by simp at ha, by simp⟩
 | a :: l, [], b, h => by
  unfold allZ at h
  cases h
  exact ⟨fun _ => true, fun j a c ha hc => by simp at hc, by simp⟩
 | a :: l, c :: m, b, h => by
  unfold allZ at h
  cases e1 : f a c with
  | none => rw [e1] at h; cases h
  | some x =>
   rw [e1, Option.bind_some] at h
   cases e2 : allZ f l m with
   | none => rw [e2] at h; cases h
   | some y =>
    rw [e2] at h
    cases h
    obtain ⟨e, k, rfl⟩ := allZ_at e2
    refine ⟨fun j => match j with
     | 0 => x
     | j + 1 => e j, fun j p q hp hq => ?_, ?_⟩
    ·cases j with
     | zero => simp at hp hq; subst hp hq; exact e1
     | succ j => exact k j p q (by simpa using hp) (by simpa using hq)
    ·rw [List.length_cons, List.length_cons, Nat.succ_min_succ, List.range_succ_eq_map, List.all_cons, List.all_map]
     rfl
noncomputable def eqG : Nat → D → D → Option Bool
 | 0, d, e => match d, e with
  | .non, .non => some true
  | .bl a, .bl b => some (a == b)
  | .int a, .int b => some (a == b)
  | .str a, .str b => some (a == b)
  | _, _ => none
 | n + 1, d, e => match d, e with
  | .non, .non => some true
  | .bl a, .bl b => some (a == b)
  | .int a, .int b => some (a == b)
  | .str a, .str b => some (a == b)
  | .tup l, .tup m => (allZ (eqG n) l m).map (· && (l.length == m.length))
  | .lst l, .lst m => if l.length = m.length then allZ (eqG n) l m else some false
  | _, _ => none
section
variable {X : Cx} {pins : List (Addr × Obj)} {σ : St} {H : Hp} {s : Shared}
theorem all_range {n : Nat} {e : Nat → Bool} (h : ∀ j, j < n → e j = true) : (List.range n).all e = true := List.all_eq_true.2 fun j hj => h j (List.mem_range.1 hj)
theorem eqG_self (I : Inv X pins σ H s) : ∀ (n : Nat) {d e : D} {x : V} {b : Bool}, eqG n d e = some b → Is X.K H x d → Is X.K H x e → b = true := by
 intro n
 induction n with
 | zero =>
  intro d e x b h hx hy
  unfold eqG at h
  split at h
  ·cases h; rfl
  ·rw [hx.bl_inv] at hy; cases hy; cases h; simp
  ·rw [hx.int_inv] at hy; cases hy; cases h; simp
  ·rw [hx.str_inv] at hy; cases hy; cases h; simp
  ·cases h
 | succ n ih =>
  intro d e x b h hx hy
  unfold eqG at h
  have items : ∀ {xs : List V} {l m : List D} {b : Bool}, allZ (eqG n) l m = some b → IsL X.K H xs l → IsL X.K H xs m → b = true := fun {xs l m b} ha hl hm => by
   obtain ⟨e, k, rfl⟩ := allZ_at ha
   refine all_range fun j hj => ?_
   have h1 : j < l.length := by omega
   have h2 : j < m.length := by omega
   obtain ⟨x, hx1, hx2⟩ := hl.get (List.getElem?_eq_getElem h1)
   obtain ⟨y, hy1, hy2⟩ := hm.get (List.getElem?_eq_getElem h2)
   rw [hx1] at hy1
   cases hy1
   exact ih (k j _ _ (List.getElem?_eq_getElem h1) (List.getElem?_eq_getElem h2)) hx2 hy2
  split at h
  ·cases h; rfl
  ·rw [hx.bl_inv] at hy; cases hy; cases h; simp
  ·rw [hx.int_inv] at hy; cases hy; cases h; simp
  ·rw [hx.str_inv] at hy; cases hy; cases h; simp
  ·rename_i l m
   cases ha : allZ (eqG n) l m with
   | none => rw [ha] at h; cases h
   | some b' =>
    rw [ha] at h
    cases h
    obtain ⟨a, xs, rfl, h1, h2⟩ := hx.tup_inv
    obtain ⟨a', ys, e, g1, g2⟩ := hy.tup_inv
    cases e
    obtain rfl := I.tuple_inj h1 g1
    rw [items ha h2 g2]
    have e3 := h2.len; have e4 := g2.len
    simp; omega
  ·rename_i l m
   obtain ⟨a, xs, rfl, h1, h2⟩ := hx.lst_inv
   obtain ⟨a', ys, e, g1, g2⟩ := hy.lst_inv
   cases e
   obtain rfl := I.list_inj h1 g1
   have e3 := h2.len; have e4 := g2.len
   rw [if_pos (by omega)] at h
   exact items h h2 g2
  ·cases h
theorem eq_itemsG {A : Around} {xs ys : List V} {its its2 : List Value} {l m : List D} {e : Nat → Bool} (rx : Vals xs its) (ry : Vals ys its2) (hx : IsL X.K H xs l) (hy : IsL X.K H ys m)
  (k : ∀ {x y : V} {u v : Value} {d d' : D} {j : Nat}, l[j]? = some d → m[j]? = some d' → Is X.K H x d → Is X.K H y d' → RelV x u → RelV y v → SeqAt.EqAt A.in1 s u v (e j)) :
  ∀ j (h1 : j < its.toArray.size) (h2 : j < its2.toArray.size), SeqAt.EqAt A.in1 s its.toArray[j] its2.toArray[j] (e j) := by
 intro j h1 h2
 have e1 : j < xs.length := by rw [rx.length]; simpa using h1
 have e2 : j < ys.length := by rw [ry.length]; simpa using h2
 have el : j < l.length := by rw [← hx.len]; exact e1
 have em : j < m.length := by rw [← hy.len]; exact e2
 obtain ⟨x, hx1, hx2⟩ := hx.get (i := j) (d := l[j]) (List.getElem?_eq_getElem el)
 obtain ⟨y, hy1, hy2⟩ := hy.get (i := j) (d := m[j]) (List.getElem?_eq_getElem em)
 obtain ⟨u, hu, ru⟩ := rx.get hx1
 obtain ⟨v, hv, rv⟩ := ry.get hy1
 have g1 : its.toArray[j] = u := by
  have : its[j]? = some its[j] := List.getElem?_eq_getElem (by simpa using h1)
  rw [hu] at this
  simpa using (Option.some.inj this).symm
 have g2 : its2.toArray[j] = v := by
  have : its2[j]? = some its2[j] := List.getElem?_eq_getElem (by simpa using h2)
  rw [hv] at this
  simpa using (Option.some.inj this).symm
 rw [g1, g2]
 exact k (List.getElem?_eq_getElem el) (List.getElem?_eq_getElem em) hx2 hy2 ru rv
theorem eqAt_gen (I : Inv X pins σ H s) : ∀ (n : Nat) {A : Around} {d d' : D} {x y : V} {u v : Value} {b : Bool}, eqG n d d' = some b → A.units + n < cLine → Is X.K H x d → Is X.K H y d' → RelV x u → RelV y v → SeqAt.EqAt A s u v b := by
 intro n
 induction n with
 | zero =>
  intro A d d' x y u v b h hu hx hy ru rv
  unfold eqG at h
  split at h
  ·cases h; rw [hx.non_inv] at ru; rw [hy.non_inv] at rv; cases ru; cases rv; exact SeqAt.EqAt.same _
  ·cases h; rw [hx.bl_inv] at ru; rw [hy.bl_inv] at rv; cases ru; cases rv; exact SeqAt.EqAt.bool_bool _ _
  ·cases h; rw [hx.int_inv] at ru; rw [hy.int_inv] at rv; obtain ⟨t, rfl⟩ := ru; obtain ⟨t', rfl⟩ := rv; exact SeqAt.EqAt.int_int _ _ _ _
  ·cases h; rw [hx.str_inv] at ru; rw [hy.str_inv] at rv; obtain ⟨t, rfl⟩ := ru; obtain ⟨t', rfl⟩ := rv; exact SeqAt.EqAt.str_str _ _ _ _
  ·cases h
 | succ n ih =>
  intro A d d' x y u v b h hu hx hy ru rv
  have hself := fun (e : x = y) => eqG_self I (n + 1) h hx (e ▸ hy)
  unfold eqG at h
  split at h
  ·cases h; rw [hx.non_inv] at ru; rw [hy.non_inv] at rv; cases ru; cases rv; exact SeqAt.EqAt.same _
  ·cases h; rw [hx.bl_inv] at ru; rw [hy.bl_inv] at rv; cases ru; cases rv; exact SeqAt.EqAt.bool_bool _ _
  ·cases h; rw [hx.int_inv] at ru; rw [hy.int_inv] at rv; obtain ⟨t, rfl⟩ := ru; obtain ⟨t', rfl⟩ := rv; exact SeqAt.EqAt.int_int _ _ _ _
  ·cases h; rw [hx.str_inv] at ru; rw [hy.str_inv] at rv; obtain ⟨t, rfl⟩ := ru; obtain ⟨t', rfl⟩ := rv; exact SeqAt.EqAt.str_str _ _ _ _
  ·rename_i l m
   cases ha : allZ (eqG n) l m with
   | none => rw [ha] at h; cases h
   | some b' =>
    rw [ha] at h
    cases h
    obtain ⟨e, k, rfl⟩ := allZ_at ha
    obtain ⟨a, xs, rfl, h1, h2⟩ := hx.tup_inv
    obtain ⟨a', ys, rfl, g1, g2⟩ := hy.tup_inv
    cases ru; cases rv
    by_cases hab : a = a'
    ·subst hab; rw [hself rfl]; exact SeqAt.EqAt.same _
    ·obtain ⟨its, r1, p1, _⟩ := I.tuple h1
     obtain ⟨its2, r2, p2, _⟩ := I.tuple g1
     refine SeqAt.EqAt.of_refs hab ?_
     have := SeqAt.RcAt.tuples (A := A) (e := e) p1 p2 (by omega) (eq_itemsG r1 r2 h2 g2 fun hi hj hx hy ru rv => ih (A := A.in1) (k _ _ _ hi hj) (by show A.units + 1 + n < cLine; omega) hx hy ru rv)
     have s1 : its.toArray.size = l.length := by have e1 := r1.length; have e3 := h2.len; simp; omega
     have s2 : its2.toArray.size = m.length := by have e1 := r2.length; have e3 := g2.len; simp; omega
     rwa [s1, s2] at this
  ·rename_i l m
   obtain ⟨a, xs, rfl, h1, h2⟩ := hx.lst_inv
   obtain ⟨a', ys, rfl, g1, g2⟩ := hy.lst_inv
   cases ru; cases rv
   by_cases hab : a = a'
   ·subst hab; rw [hself rfl]; exact SeqAt.EqAt.same _
   ·obtain ⟨its, r1, p1, _⟩ := I.list h1
    obtain ⟨its2, r2, p2, _⟩ := I.list g1
    have s1 : its.toArray.size = l.length := by have e1 := r1.length; have e3 := h2.len; simp; omega
    have s2 : its2.toArray.size = m.length := by have e1 := r2.length; have e3 := g2.len; simp; omega
    refine SeqAt.EqAt.of_refs hab ?_
    split at h
    ·rename_i hlm
     obtain ⟨e, k, rfl⟩ := allZ_at h
     have := SeqAt.RcAt.lists (A := A) (e := e) p1.isList p2.isList (by omega) (by omega) (eq_itemsG r1 r2 h2 g2 fun hi hj hx hy ru rv => ih (A := A.in1) (k _ _ _ hi hj) (by show A.units + 1 + n < cLine; omega) hx hy ru rv)
     rw [s1] at this
     rwa [show min l.length m.length = l.length by omega]
    ·rename_i hlm
     cases h
     exact SeqAt.RcAt.lists_lengths p1.isList p2.isList (by rw [s1, s2]; simpa using hlm) (by omega)
  ·cases h
noncomputable def rEqG (K : PySem.W.Frag) (neg : Bool) : R2 := fun x y H Q => ∃ (d e : D) (b : Bool), (∃ l m, (d = .tup l ∧ e = .tup m) ∨ (d = .lst l ∧ e = .lst m)) ∧ Is K H x d ∧ Is K H y e ∧ eqG 40 d e = some b ∧ Q (.bl (neg != b)) H
theorem op_eqG {k : Nat} {K : PySem.W.Frag} (hr : Room k X.A) (hK : X.K = K := by rfl) : OpR X (compareOp .Eq) (rEqG K false) := by
 subst hK
 intro pins s σ H x y v u Q I rx ry h
 obtain ⟨d, e, b, ⟨l, m, hd⟩, hx, hy, hb, q⟩ := h
 have hu : X.A.units + 41 < cLine := Nat.lt_of_le_of_lt (by omega) hr.units
 rw [show (false != b) = b by cases b <;> rfl] at q
 unfold eqG at hb
 rcases hd with ⟨rfl, rfl⟩ | ⟨rfl, rfl⟩
 ·dsimp only at hb
  cases ha : allZ (eqG 39) l m with
  | none => rw [ha] at hb; cases hb
  | some b' =>
   rw [ha] at hb
   cases hb
   obtain ⟨e, k, rfl⟩ := allZ_at ha
   obtain ⟨a, xs, rfl, h1, h2⟩ := hx.tup_inv
   obtain ⟨a', ys, rfl, g1, g2⟩ := hy.tup_inv
   cases rx; cases ry
   obtain ⟨its, r1, p1, _⟩ := I.tuple h1
   obtain ⟨its2, r2, p2, _⟩ := I.tuple g1
   have s1 : its.toArray.size = l.length := by have e1 := r1.length; have e3 := h2.len; simp; omega
   have s2 : its2.toArray.size = m.length := by have e1 := r2.length; have e3 := g2.len; simp; omega
   refine SeqAt.eq_tupleAt (e := e) p1 p2 (by omega) (eq_itemsG r1 r2 h2 g2 fun hi hj hx hy ru rv => eqAt_gen I 39 (A := X.A.in1) (k _ _ _ hi hj) (by show X.A.units + 1 + 39 < cLine; omega) hx hy ru rv) ?_
   rw [s1, s2]
   exact ⟨.bl _, H, I, rfl, q⟩
 ·dsimp only at hb
  obtain ⟨a, xs, rfl, h1, h2⟩ := hx.lst_inv
  obtain ⟨a', ys, rfl, g1, g2⟩ := hy.lst_inv
  cases rx; cases ry
  obtain ⟨its, r1, p1, _⟩ := I.list h1
  obtain ⟨its2, r2, p2, _⟩ := I.list g1
  have s1 : its.toArray.size = l.length := by have e1 := r1.length; have e3 := h2.len; simp; omega
  have s2 : its2.toArray.size = m.length := by have e1 := r2.length; have e3 := g2.len; simp; omega
  split at hb
  ·rename_i hlm
   obtain ⟨e, k, rfl⟩ := allZ_at hb
   refine SeqAt.eq_listAt (e := e) p1.isList p2.isList (by omega) (by omega) (eq_itemsG r1 r2 h2 g2 fun hi hj hx hy ru rv => eqAt_gen I 39 (A := X.A.in1) (k _ _ _ hi hj) (by show X.A.units + 1 + 39 < cLine; omega) hx hy ru rv) ?_
   rw [show min l.length m.length = l.length by omega] at q
   rw [s1]
   exact ⟨.bl _, H, I, rfl, q⟩
  ·rename_i hlm
   cases hb
   refine SeqAt.eq_list_lengthsAt p1.isList p2.isList (by rw [s1, s2]; simpa using hlm) (by omega) ?_
   exact ⟨.bl false, H, I, rfl, q⟩
theorem op_neG {k : Nat} {K : PySem.W.Frag} (hr : Room k X.A) (hK : X.K = K := by rfl) : OpR X (compareOp .NotEq) (rEqG K true) := by
 subst hK
 intro pins s σ H x y v u Q I rx ry h
 obtain ⟨d, e, b, ⟨l, m, hd⟩, hx, hy, hb, q⟩ := h
 have hu : X.A.units + 41 < cLine := Nat.lt_of_le_of_lt (by omega) hr.units
 rw [show (true != b) = !b by cases b <;> rfl] at q
 unfold eqG at hb
 rcases hd with ⟨rfl, rfl⟩ | ⟨rfl, rfl⟩
 ·dsimp only at hb
  cases ha : allZ (eqG 39) l m with
  | none => rw [ha] at hb; cases hb
  | some b' =>
   rw [ha] at hb
   cases hb
   obtain ⟨e, k, rfl⟩ := allZ_at ha
   obtain ⟨a, xs, rfl, h1, h2⟩ := hx.tup_inv
   obtain ⟨a', ys, rfl, g1, g2⟩ := hy.tup_inv
   cases rx; cases ry
   obtain ⟨its, r1, p1, _⟩ := I.tuple h1
   obtain ⟨its2, r2, p2, _⟩ := I.tuple g1
   have s1 : its.toArray.size = l.length := by have e1 := r1.length; have e3 := h2.len; simp; omega
   have s2 : its2.toArray.size = m.length := by have e1 := r2.length; have e3 := g2.len; simp; omega
   refine SeqAt.RcNeAt.tuples (e := e) p1 p2 (by omega) (eq_itemsG r1 r2 h2 g2 fun hi hj hx hy ru rv => eqAt_gen I 39 (A := X.A.in1) (k _ _ _ hi hj) (by show X.A.units + 1 + 39 < cLine; omega) hx hy ru rv) _ _ _ _ ?_
   rw [s1, s2]
   exact ⟨.bl _, H, I, rfl, q⟩
 ·dsimp only at hb
  obtain ⟨a, xs, rfl, h1, h2⟩ := hx.lst_inv
  obtain ⟨a', ys, rfl, g1, g2⟩ := hy.lst_inv
  cases rx; cases ry
  obtain ⟨its, r1, p1, _⟩ := I.list h1
  obtain ⟨its2, r2, p2, _⟩ := I.list g1
  have s1 : its.toArray.size = l.length := by have e1 := r1.length; have e3 := h2.len; simp; omega
  have s2 : its2.toArray.size = m.length := by have e1 := r2.length; have e3 := g2.len; simp; omega
  split at hb
  ·rename_i hlm
   obtain ⟨e, k, rfl⟩ := allZ_at hb
   refine SeqAt.RcNeAt.lists (e := e) p1.isList p2.isList (by omega) (by omega) (eq_itemsG r1 r2 h2 g2 fun hi hj hx hy ru rv => eqAt_gen I 39 (A := X.A.in1) (k _ _ _ hi hj) (by show X.A.units + 1 + 39 < cLine; omega) hx hy ru rv) _ _ _ _ ?_
   rw [show min l.length m.length = l.length by omega] at q
   rw [s1]
   exact ⟨.bl _, H, I, rfl, q⟩
  ·rename_i hlm
   cases hb
   refine SeqAt.RcNeAt.lists_lengths p1.isList p2.isList (by rw [s1, s2]; simpa using hlm) (by omega) _ _ _ _ ?_
   exact ⟨.bl true, H, I, rfl, q⟩
end
end L2
namespace L2
open PySem PySem.Spec PyProof.Rows PySem.Calls PySem.W
section
variable {cmp : Nat → Nat → (Bool → Shared → Prop) → Shared → Prop} {r : Nat → Int} {n : Nat} {s : Shared}
end
end L2
namespace L2
open PySem PySem.Spec PyProof.Rows PySem.Calls PySem.W
section
variable {prog : Program} {w : World} {A : Around} {E : Value → Shared → Prop} {s : Shared}
end
end L2
namespace L2
open PySem PySem.Spec PyProof.Rows PySem.Calls PySem.W
open PySem.AutoSeq1 (wpAny_loadPart')
open PySem.MeetsSeq PySem.MeetsSeq2 PySem.MeetsSeq3
section
variable {prog : Program} {w : World} {A : Around} {E : Value → Shared → Prop} {s : Shared}
end
section
variable {X : Cx}
end
end L2
namespace L2
open PySem PySem.Spec PyProof.Rows PySem.Calls PySem.W
section
variable {X : Cx} {pins : List (Addr × Obj)} {σ : St} {H : Hp} {s : Shared} {a : Addr} {d : V} {u r : Value} {A : Around} {E : Value → Shared → Prop} {kvs : List (Key × V)} {k : Key}
end
section
variable {X : Cx} {o e f : Expr} {apos cpos : Pos} {td ty tx : TE}
end
end L2
namespace L2
open PySem PySem.Spec PyProof.Rows PySem.Calls PySem.W
open PySem.AutoSeq1 (wpAny_loadPart')
section
variable {prog : Program} {w : World} {A : Around} {E : Value → Shared → Prop} {s : Shared}
end
section
variable {X : Cx}
end
end L2
namespace L2
open PySem PySem.Spec PyProof.Rows PySem.Calls PySem.W
section
variable {prog : Program} {w : World} {A : Around} {E : Value → Shared → Prop} {s : Shared}
end
section
variable {X : Cx}
end
end L2
namespace L2
open PySem PySem.Spec PyProof.Rows PySem.Calls PySem.W
open PySem.AutoSeq1 (wpAny_loadPart')
section
variable {prog : Program} {w : World} {A : Around} {E : Value → Shared → Prop} {s : Shared}
end
section
variable {X : Cx}
end
end L2
namespace L2
open PySem PySem.Spec PyProof.Rows PySem.Calls
mutual
inductive IsNK (h : Heap) : NK → Value → Prop where
 | int (i : Int) (t : Tok) : IsNK h (.int i) (.int i t)
 | str (x : Str) (t : Tok) : IsNK h (.str x) (.str x t)
 | tup {a : Addr} {o : Obj} {items : Array Value} {n : Nat} {l : List NK} : h.get? a = some o → o.cls = .type "tuple" → o.data = .seq items n → IsNKL h l items.toList → IsNK h (.tup l) (.ref a)
inductive IsNKL (h : Heap) : List NK → List Value → Prop where
 | nil : IsNKL h [] []
 | cons {k : NK} {v : Value} {ks : List NK} {vs : List Value} : IsNK h k v → IsNKL h ks vs → IsNKL h (k :: ks) (v :: vs)
end
section
variable {h h' : Heap}
end
section
variable {prog : Program} {w : World} {E : Value → Shared → Prop}
end
end L2
namespace L2
open PySem PySem.Spec PyProof.Rows PySem.Calls
mutual
inductive NIs (K : PySem.W.Frag) (H : Hp) : V → NK → Prop where
 | int (i : Int) : NIs K H (.int i) (.int i)
 | str (x : Str) : NIs K H (.str x) (.str x)
 | tup {a : Addr} {vs : List V} {l : List NK} : SqT K H a vs → NIsL K H vs l → NIs K H (.ref a) (.tup l)
inductive NIsL (K : PySem.W.Frag) (H : Hp) : List V → List NK → Prop where
 | nil : NIsL K H [] []
 | cons {v : V} {k : NK} {vs : List V} {ks : List NK} : NIs K H v k → NIsL K H vs ks → NIsL K H (v :: vs) (k :: ks)
end
section
variable {X : Cx} {pins : List (Addr × Obj)} {σ : St} {H : Hp} {s : Shared}
end
noncomputable abbrev PN : List (NK × Addr × V) → List (NK × Addr × Value) → Prop := Paired fun (p : NK × Addr × V) (q : NK × Addr × Value) => p.1 = q.1 ∧ p.2.1 = q.2.1 ∧ RelV p.2.2 q.2.2
section
variable {X : Cx} {pins : List (Addr × Obj)} {σ : St} {H : Hp} {s : Shared} {a : Addr}
end
section
variable {X : Cx} {pins : List (Addr × Obj)} {σ : St} {H : Hp} {s : Shared} {a : Addr} {y v d : V} {u r : Value} {o : Option V} {A : Around} {E : Value → Shared → Prop}
end
section
variable {X : Cx} {o i e f value : Expr} {pos pos' tpos apos cpos : Pos} {td ty tv tx : TE} {K : PySem.W.Frag} {r : Nat}
end
end L2
namespace L2
open PySem PySem.Spec PyProof.Rows PySem.Calls PySem.W
section
variable {prog : Program} {w : World} {A : Around} {E : Value → Shared → Prop} {s : Shared} {d it : Addr} {es : Array DictEntry} {ep i : Nat}
end
end L2
namespace L2
open PySem PySem.Spec PyProof.Rows PySem.Calls PySem.W
section
variable {prog : Program} {w : World} {A : Around} {E : Value → Shared → Prop} {s : Shared}
end
end L2
namespace L2
open PySem PySem.Spec PyProof.Rows PySem.Calls PySem.W
section
variable {prog : Program} {w : World} {A : Around} {E : Value → Shared → Prop} {s : Shared} {T : String} {r d : Addr} {n : Nat} {P : Nat → Value → Prop} {OK : Heap → Prop} {Q : Value → Shared → Prop}
end
section
variable {X : Cx}
end
end L2
namespace L2
open PySem PySem.Spec PyProof.Rows PySem.Calls
open AutoSeq1 (wpAny_loadPart')
section
variable {prog : Program} {w : World} {A : Around} {E : Value → Shared → Prop} {s : Shared} {it t : Addr} {its : Array Value}
end
section
variable {X : Cx}
end
end L2
namespace L2
open PySem PySem.Spec PyProof.Rows
section
variable {X : Cx}
end
end L2
namespace L2
open PySem PySem.Spec PyProof.Rows PySem.Calls
section
variable {K : PySem.W.Frag} {E : XK}
noncomputable def bothSeq : D → D → Bool
 | .tup _, .tup _ => true
 | .lst _, .lst _ => true
 | _, _ => false
noncomputable def dEqG (neg : Bool) : Op2 := fun x y S => match tell S 40 x, tell S 40 y with
 | some d, some e => if bothSeq d e then (eqG 40 d e).map fun b => (.bl (neg != b), S) else none
 | _, _ => none
theorem bothSeq_of {d e : D} (h : bothSeq d e = true) : ∃ l m, (d = .tup l ∧ e = .tup m) ∨ (d = .lst l ∧ e = .lst m) := by
 unfold bothSeq at h
 split at h
 ·exact ⟨_, _, .inl ⟨rfl, rfl⟩⟩
 ·exact ⟨_, _, .inr ⟨rfl, rfl⟩⟩
 ·cases h
theorem r2_eqG {neg : Bool} : R2Ok K (rEqG K neg) (dEqG neg) := by
 intro F j σ H ρ S S' x y z u v Q E1 hx hy h k
 unfold dEqG at h
 split at h
 ·rename_i d e e1 e2
  split at h
  ·rename_i hb
   cases hg : eqG 40 d e with
   | none => rw [hg] at h; cases h
   | some b =>
    rw [hg] at h
    cases h
    exact ⟨d, e, b, bothSeq_of hb, (tell_is E1 40 _ _ _ hx e1).1, (tell_is E1 40 _ _ _ hy e2).1, hg, k _ _ _ Ext.refl E1 (.bl _)⟩
  ·cases h
 ·cases h
end
section
variable {S : Sto} {x y : Xv} {P : Xv → Sto → Prop} {p q : Int}
theorem ox_eqG {neg b : Bool} {d e : D} (h1 : tell S 40 x = some d) (h2 : tell S 40 y = some e) (hs : bothSeq d e = true) (hb : eqG 40 d e = some b) (k : P (.bl (neg != b)) S) : WO (dEqG neg x y S) P := .of (by unfold dEqG; rw [h1, h2]; dsimp only; rw [if_pos hs, hb]; rfl) k
end
end L2
namespace L2
open PySem PySem.Spec PyProof.Rows PySem.Calls
section
variable {K : PySem.W.Frag} {E : XK}
end
end L2
namespace L2
open PySem PySem.Spec PyProof.Rows PySem.Calls
section
variable {K : PySem.W.Frag} {E : XK}
end
end L2
namespace L2
open PySem PySem.Spec PyProof.Rows PySem.Calls
section
variable {K : PySem.W.Frag} {E : XK}
end
end L2
namespace L2
open PySem PySem.Spec PyProof.Rows PySem.Calls
end L2
namespace L2
open PySem PySem.Spec PyProof.Rows PySem.Calls
section
variable {K : PySem.W.Frag} {E : XK} {F : Fm} {j : List Addr} {H : Hp} {σ : St} {ρ : Rho} {S : Sto} {x y z : Xv} {u v w : V}
end
end L2
namespace L2
open PySem PySem.Spec PyProof.Rows PySem.Calls
section
variable {K : PySem.W.Frag} {j : List Addr} {H : Hp}
end
section
variable {ρ : Rho} {S : Sto} {P : Xv → Sto → Prop} {N : Rho → Sto → Prop} {R : Xv → Sto → Prop} {a b m z : TwE} {x y : Xv}
end
end L2
namespace L2
open PySem PySem.Spec PyProof.Rows PySem.Calls
noncomputable def insS (S : Sto) (x : Xv) (nm : Str) : Option (Nat × List (Str × Xv)) := match x with
 | .ref n => match S[n]? with
  | some (.ins nm' fs) => if nm' = nm then some (n, fs) else none
  | _ => none
 | _ => none
theorem insS_some {S : Sto} {x : Xv} {nm : Str} {n : Nat} {fs : List (Str × Xv)} (h : insS S x nm = some (n, fs)) : x = .ref n ∧ S[n]? = some (.ins nm fs) := by
 unfold insS at h
 split at h
 ·split at h
  ·split at h
   ·rename_i e1 e2
    cases h
    subst e2
    exact ⟨rfl, e1⟩
   ·cases h
  ·cases h
 ·cases h
theorem insS_of {S : Sto} {nm : Str} {n : Nat} {fs : List (Str × Xv)} (h : S[n]? = some (.ins nm fs)) : insS S (.ref n) nm = some (n, fs) := by
 unfold insS
 dsimp only
 rw [h]
 dsimp only
 rw [if_pos rfl]
noncomputable def putS (f : Str) (v : Xv) : List (Str × Xv) → List (Str × Xv)
 | [] => [(f, v)]
 | (g, x) :: r => if g = f then (g, v) :: r else (g, x) :: putS f v r
section
variable {K : PySem.W.Frag} {E : XK} {F : Fm} {j : List Addr} {H : Hp} {σ : St} {ρ : Rho} {S : Sto} {x : Xv} {v : V} {nm f m : Str} {C : Addr}
theorem KX.look : ∀ {fs : List (Str × Xv)} {vs : List (Str × V)}, KX K j H fs vs → (∀ y, fs.lookup f = some y → ∃ w, vs.lookup f = some w ∧ Xis K j H y w) ∧ (fs.lookup f = none → vs.lookup f = none)
 | _, _, .nil => ⟨(fun _ e => by cases e), fun _ => rfl⟩
 | (g, y1) :: r, (_, w1) :: rs, .cons h l => by
  obtain ⟨i1, i2⟩ := KX.look l
  rw [List.lookup_cons, List.lookup_cons]
  cases hb : (f == g) with
  | true => exact ⟨(fun y e => by cases e; exact ⟨w1, rfl, h⟩), (fun e => by cases e)⟩
  | false => exact ⟨i1, i2⟩
theorem KX.putF (hx : Xis K j H x v) : ∀ {fs : List (Str × Xv)} {vs : List (Str × V)}, KX K j H fs vs → KX K j H (putS f x fs) (putF f v vs)
 | _, _, .nil => .cons hx .nil
 | (g, y1) :: r, (_, w1) :: rs, .cons h l => by
  unfold putS L2.putF
  by_cases e : g = f
  ·rw [if_pos e, if_pos e]; exact .cons hx l
  ·rw [if_neg e, if_neg e]; exact .cons h (KX.putF hx l)
theorem En.ins {n : Nat} {fs : List (Str × Xv)} (hns : PySem.W.nsIn K mainGlobals nm = some (some (.ref C))) (E1 : En K F j H σ ρ S) (hx : Xis K j H x v) (h : insS S x nm = some (n, fs)) : ∃ a dx vs, v = .ref a ∧ j[n]? = some a ∧ H a = some (.ins C dx vs) ∧ KX K j H fs vs := by
 obtain ⟨rfl, hs⟩ := insS_some h
 obtain ⟨a, rfl, hj⟩ := hx.ref_inv
 obtain ⟨C', dx, vs, e0, e1, e2⟩ := E1.cel _ _ _ hs hj
 rw [hns] at e0
 cases e0
 exact ⟨a, dx, vs, rfl, hj, e1, e2⟩
noncomputable def eFldS (nm f : Str) (o : TwE) : TwE := fun ρ S => rb (o ρ S) fun x S1 => (insS S1 x nm).bind fun p => (p.2.lookup f).map fun y => .ok y S1
theorem re_fldS {to : TE} {o : TwE} (hns : PySem.W.nsIn K mainGlobals nm = some (some (.ref C))) (hc : Cls K C) (hn : NoAttr K C f) (h : RE K E to o) : RE K E (tFld K to f) (eFldS nm f o) := by
 intro F j σ H ρ S r Q En0 e k
 rcases rb_some e with ⟨x, S1, e1, e⟩ | ⟨c, S1, e1, rfl⟩
 ·refine h En0 e1 fun j1 H1 X1 E1 u hu => ?_
  rw [Option.bind_eq_some_iff] at e
  obtain ⟨⟨n, fs⟩, e2, e⟩ := e
  rw [Option.map_eq_some_iff] at e
  obtain ⟨y, e3, rfl⟩ := e
  obtain ⟨a, dx, vs, rfl, hj, f1, f2⟩ := E1.ins hns hu e2
  obtain ⟨w, g1, g2⟩ := f2.look.1 y e3
  exact ⟨a, C, dx, vs, w, rfl, f1, hc, hn, g1, k _ _ X1 E1 _ g2⟩
 ·exact h En0 e1 k
noncomputable def sPutS (nm f : Str) (o m : TwE) : TwS := fun ρ S => sb (m ρ S) fun y S1 => sb (o ρ S1) fun x S2 => (insS S2 x nm).bind fun p => if p.2.length < 1000 then some (.nx ρ (S2.set p.1 (.ins nm (putS f y p.2)))) else none
theorem KX.len2 : ∀ {fs : List (Str × Xv)} {vs : List (Str × V)}, KX K j H fs vs → vs.length = fs.length
 | _, _, .nil => rfl
 | _, _, .cons _ l => by simp [l.len2]
theorem rs_putS {to tv : TE} {o m : TwE} (hns : PySem.W.nsIn K mainGlobals nm = some (some (.ref C))) (hc : Cls K C) (hn : NoAttr K C f) (ho : RE K E to o) (hv : RE K E tv m) : RS K E (sFld K to tv f) (sPutS nm f o m) := by
 intro F j D' σ H ρ S fl E0 e kk
 rcases sb_some e with ⟨y, S1, e1, e⟩ | ⟨c, S1, e1, rfl⟩
 ·refine hv E0 e1 fun j1 H1 X1 E1 wy hwy => ?_
  rcases sb_some e with ⟨x, S2, e2, e⟩ | ⟨c, S2, e2, rfl⟩
  ·refine ho E1 e2 fun j2 H2 X2 E2 u hu => ?_
   rw [Option.bind_eq_some_iff] at e
   obtain ⟨⟨n, fs⟩, e3, e⟩ := e
   dsimp only at e
   split at e
   ·rename_i hl
    cases e
    obtain ⟨a, dx, vs, rfl, hj, f1, f2⟩ := E2.ins hns hu e3
    obtain ⟨E4, X4⟩ := E2.write (o := .ins C dx (L2.putF f wy vs)) (c' := .ins nm (putS f y fs)) (insS_some e3).2 rfl hj rfl fun X => ⟨C, dx, _, hns, upd_same, (KX.putF (hwy.mono X2) f2).mono X⟩
    exact ⟨a, C, dx, vs, rfl, f1, hc, hn, by rw [f2.len2]; exact hl, kk _ _ _ (X1.trans (X2.trans X4)) E4⟩
   ·cases e
  ·exact ho E1 e2 (PX.mono kk X1)
 ·exact hv E0 e1 kk
noncomputable def eMethS (nm m : Str) (tw : TwF) (o : TwE) (ms : List TwE) : TwE := fun ρ S => rb (o ρ S) fun x S1 => (insS S1 x nm).bind fun p => if p.2.lookup m = none then rb (evL ms ρ S1) fun xs S2 => tw (x :: xs) S2 else none
theorem re_methS {n : Nat} {tw : TwF} {o : TwE} {to : TE} {ms : List TwE} {t : TA} (hns : PySem.W.nsIn K mainGlobals nm = some (some (.ref C))) (ho : RE K E to o) (h : RL K E t (evL ms)) (hn : ms.length + 1 = n := by rfl) : RE K E (tMeth C m (sTw K n tw) [] E to t) (eMethS nm m tw o ms) := by
 intro F j σ H ρ S r Q En0 e k
 rcases rb_some e with ⟨x, S1, e1, e⟩ | ⟨c, S1, e1, rfl⟩
 ·refine ho En0 e1 fun j1 H1 X1 E1 u hu => ?_
  rw [Option.bind_eq_some_iff] at e
  obtain ⟨⟨q, fs⟩, e2, e⟩ := e
  dsimp only at e
  split at e
  ·rename_i hlk
   obtain ⟨a, dx, vs0, rfl, hj, f1, f2⟩ := E1.ins hns hu e2
   refine ⟨a, dx, vs0, rfl, f1, f2.look.2 hlk, ?_⟩
   rcases rb_some e with ⟨xs, S2, e3, e⟩ | ⟨c, S2, e3, rfl⟩
   ·refine h E1 e3 fun j2 H2 X2 E2 vs hv => ?_
    rw [List.append_nil]
    exact call_core E2 (.cons (hu.mono X2) hv) (by rw [List.length_cons, hv.len, evL_len e3, hn]) e (k.step (X1.trans X2))
   ·exact h E1 e3 (k.step X1)
  ·cases e
 ·exact ho En0 e1 k
noncomputable def eMakeS (nm : Str) (tw : TwF) (ms : List TwE) : TwE := fun ρ S => rb (evL ms ρ S) fun xs S1 => match tw (.ref S1.length :: xs) (S1 ++ [.ins nm []]) with
 | some (.ok .non S2) => some (.ok (.ref S1.length) S2)
 | _ => none
theorem re_makeS {n : Nat} {tw : TwF} {ms : List TwE} {t : TA} (hns : PySem.W.nsIn K mainGlobals nm = some (some (.ref C))) (h : RL K E t (evL ms)) (hn : ms.length + 1 = n := by rfl) : RE K E (tMake C (sTw K n tw) [] E t) (eMakeS nm tw ms) := by
 intro F j σ H ρ S r Q En0 e k
 rcases rb_some e with ⟨xs, S1, e1, e⟩ | ⟨c, S1, e1, rfl⟩
 ·refine h En0 e1 fun j1 H1 X1 E1 vs hv => ?_
  intro x dx hx hdx hne
  rw [List.append_nil]
  split at e
  ·rename_i S2 e2
   cases e
   have hx' : upd H1 dx (.own x) x = none := by rw [upd_ne (fun z => hne z.symm)]; exact hx
   obtain ⟨E2, X2⟩ := E1.new (p := dx) (o := .own x) hdx
   obtain ⟨E3, X3⟩ := E2.cell (p := x) (o := .ins C dx []) (c := .ins nm []) hx' ⟨C, dx, [], hns, upd_same, .nil⟩
   have X23 := X2.trans X3
   have hr : Xis K (j1 ++ [x]) (upd (upd H1 dx (.own x)) x (.ins C dx [])) (.ref S1.length) (.ref x) := .ref (by rw [← E1.jl]; simp)
   refine call_core E3 (.cons hr (hv.mono X23)) (by rw [List.length_cons, hv.len, evL_len e1, hn]) e2 fun j' H' X E4 v hw => ?_
   exact ⟨hw.non_inv, k _ _ (X1.trans (X23.trans X)) E4 _ (hr.mono X)⟩
  ·cases e
 ·exact h En0 e1 k
end
section
variable {ρ : Rho} {S : Sto} {P : Xv → Sto → Prop} {N : Rho → Sto → Prop} {R : Xv → Sto → Prop} {o m : TwE} {ms : List TwE} {nm f : Str}
theorem wx_fld (h : W (o ρ S) fun x S1 => ∃ n fs y, x = .ref n ∧ S1[n]? = some (.ins nm fs) ∧ fs.lookup f = some y ∧ P y S1) : W (eFldS nm f o ρ S) P :=
 W.bind (h.imp fun _ _ h => by obtain ⟨n, fs, y, rfl, e1, e2, q⟩ := h; rw [insS_of e1, Option.bind_some, e2]; exact .of rfl q)
theorem wx_putS (h : W (m ρ S) fun y S1 => W (o ρ S1) fun x S2 => ∃ n fs, x = .ref n ∧ S2[n]? = some (.ins nm fs) ∧ fs.length < 1000 ∧ N ρ (S2.set n (.ins nm (putS f y fs)))) : WS (sPutS nm f o m ρ S) N R :=
 WS.bind (h.imp fun _ _ h => WS.bind (h.imp fun _ _ h => by obtain ⟨n, fs, rfl, e1, e2, q⟩ := h; rw [insS_of e1, Option.bind_some, if_pos e2]; exact .nx rfl q))
theorem wx_make {tw : TwF} (h : W (evL ms ρ S) fun xs S1 => W (tw (.ref S1.length :: xs) (S1 ++ [.ins nm []])) fun v S2 => v = .non ∧ P (.ref S1.length) S2) : W (eMakeS nm tw ms ρ S) P :=
 W.bind (h.imp fun xs S1 h => by
  obtain ⟨v, S2, e, rfl, q⟩ := h
  rw [e]
  exact .of rfl q)
end
end L2
namespace L2
open PySem PySem.Spec PyProof.Rows PySem.Calls
theorem ix_seqK {K : PySem.W.Frag} {X : Cx} (h : X.K = K := by rfl) : IxR X (rIx K) := h ▸ ix_seq
section
variable {K : PySem.W.Frag} {E : XK} {j : List Addr} {H : Hp}
end
end L2
namespace L2
open PySem PySem.Spec PyProof.Rows PySem.Calls
noncomputable def sRaise (c : Str) (ms : List TwE) : TwS := fun ρ S => sb (evL ms ρ S) fun _ S1 => some (.ex c S1)
section
variable {K : PySem.W.Frag} {E : XK} {F : Fm} {j : List Addr} {H : Hp} {σ : St} {ρ : Rho} {S : Sto} {x : Xv} {v : V} {c : Str} {C : Addr}
theorem rs_raise {ms : List TwE} {t : TA} (hns : PySem.W.nsIn K mainGlobals c = some (some (.ref C))) (h : RL K E t (evL ms)) (hl : ms.length ≤ 10 := by decide) : RS K E (tRaise C E t) (sRaise c ms) := by
 intro F j D' σ H ρ S fl E0 e kk
 rcases sb_some e with ⟨xs, S1, e1, e⟩ | ⟨c', S1, e1, rfl⟩
 ·cases e
  refine h E0 e1 fun j1 H1 X1 E1 vs hv => ⟨?_, kk _ _ _ _ C X1 E1 hns⟩
  rw [hv.len, evL_len e1]
  exact Nat.le_trans hl (by decide)
 ·exact h E0 e1 kk
noncomputable def RLx (K : PySem.W.Frag) (t : TAx) (is : List Nat) : Prop := ∀ {F : Fm} {j : List Addr} {σ : St} {H : Hp} {ρ : Rho} {S : Sto} {xs : List Xv} {Q : List V → Hp → Prop} {EX : Value → Hp → Prop}, En K F j H σ ρ S → is.mapM (fun i => ρ[i]?.join) = some xs → (∀ vs, XisL K j H xs vs → Q vs H) → t σ H Q EX
theorem rlx_nil : RLx K xNil [] := fun _ e k => by
 cases e
 exact k _ .nil
theorem rlx_var {t : TAx} {is : List Nat} (i : Nat) (h : RLx K t is) : RLx K (xCons (xE (tVar i)) t) (i :: is) := by
 intro F j σ H ρ S xs Q EX E0 e k
 rw [List.mapM_cons] at e
 cases e1 : ρ[i]? with
 | none => rw [e1] at e; cases e
 | some o =>
  cases o with
  | none => rw [e1] at e; cases e
  | some x =>
   rw [e1] at e
   cases e2 : is.mapM (fun i => ρ[i]?.join) with
   | none => rw [e2] at e; cases e
   | some ys =>
    rw [e2] at e
    cases e
    obtain ⟨v, e3, hv⟩ := E0.slot i x e1
    exact ⟨v, e3, h E0 e2 fun vs hvs => k _ (.cons hv hvs)⟩
noncomputable def sTry (i : Nat) (k : Option Nat) (tw : TwF) (is : List Nat) (ok : List Str) (h : TwS) : TwS := fun ρ S => (is.mapM (fun i => ρ[i]?.join)).bind fun xs => match tw xs S with
 | some (.ok v S2) => some (.nx (match k with | some k => ρ.set k (some v) | none => ρ) S2)
 | some (.ex c S2) => if c ∈ ok then match h (ρ.set i (some (.ref S2.length))) (S2 ++ [.exc c]) with
  | some (.nx ρ' S') => some (.nx (ρ'.set i none) S')
  | _ => none
  else none
 | none => none
noncomputable def HitOk (K : PySem.W.Frag) (D : Value) (ok : List Str) : Prop := ∀ c ∈ ok, ∀ C, PySem.W.nsIn K mainGlobals c = some (some (.ref C)) → PySem.W.exmOne K (.ref C) D = some true
theorem mapM_len {ρ : Rho} : ∀ {is : List Nat} {xs : List Xv}, is.mapM (fun i => ρ[i]?.join) = some xs → xs.length = is.length
 | [], _, e => by cases e; rfl
 | i :: is, xs, e => by
  rw [List.mapM_cons] at e
  cases e1 : ρ[i]?.join with
  | none => rw [e1] at e; cases e
  | some x =>
   rw [e1] at e
   cases e2 : is.mapM (fun i => ρ[i]?.join) with
   | none => rw [e2] at e; cases e
   | some ys =>
    rw [e2] at e
    cases e
    simp [mapM_len e2]
theorem En.unset (E0 : En K F j H σ ρ S) (i : Nat) : En K F j H (σ.set i none) (ρ.set i none) S := E0.slots (by simp [E0.len]) fun n y e => by
 rw [List.getElem?_set] at e ⊢
 split at e
 ·split at e <;> cases e
 ·rename_i q
  rw [if_neg q]
  exact E0.slot n y e
theorem rs_try {i n : Nat} {k : Option Nat} {tw : TwF} {is : List Nat} {ok : List Str} {D : Value} {t : TAx} {tb : TEx → TSx} {th : TS} {h : TwS} (hit : HitOk K D ok) (ht : RLx K t is)
  (hk : (∃ m, k = some m ∧ tb = fun te => xSet m te) ∨ (k = none ∧ tb = fun te => xDrop te)) (hh : RS K E th h) (hn : is.length = n := by rfl) :
  RS K E (tTryAs i (fun cls => PySem.W.exmOne K cls D = some true) (tb (xCall (sTw K n tw) [] t)) th) (sTry i k tw is ok h) := by
 intro F j D' σ H ρ S fl E0 e kk
 unfold sTry at e
 rw [Option.bind_eq_some_iff] at e
 obtain ⟨xs, ex, e⟩ := e
 have go : ∀ {Q : V → Hp → Prop}, (∀ (v : Xv) S2, tw xs S = some (.ok v S2) → ∀ j' H', Ext j H j' H' → En K F j' H' σ ρ S2 → ∀ w, Xis K j' H' v w → Q w H') → xCall (sTw K n tw) [] t σ H Q (fun cls H' => PySem.W.exmOne K cls D = some true ∧ ∀ e, H' e = none →
   th { nx := fun σ' H' => D'.nx (σ'.set i none) H', rt := D'.rt, bk := fun σ' H' => D'.bk (σ'.set i none) H', ct := fun σ' H' => D'.ct (σ'.set i none) H' } (σ.set i (some (.ref e))) (upd H' e (excO e cls))) := by
  intro Q hq
  unfold xCall
  refine ht E0 ex fun vs hvs => ?_
  rw [List.append_nil]
  cases er : tw xs S with
  | none => rw [er] at e; cases e
  | some r =>
   refine call_core E0 hvs (by rw [hvs.len, mapM_len ex, hn]) er ?_
   cases r with
   | ok v S2 => exact fun j' H' X E1 w hw => hq v S2 er j' H' X E1 w hw
   | ex c S2 =>
    rw [er] at e
    dsimp only at e
    split at e
    ·rename_i hc
     intro j' H' σ' ρ' C X E1 hC
     refine ⟨hit c hc C hC, fun a ha => ?_⟩
     split at e
     ·rename_i ρ3 S3 e3
      cases e
      have E2 := E0.back E1 X
      obtain ⟨E4, X4⟩ := E2.cell (p := a) (o := excO a (.ref C)) (c := .exc c) ha ⟨C, hC, upd_same⟩
      have hr : Xis K (j' ++ [a]) (upd H' a (excO a (.ref C))) (.ref S2.length) (.ref a) := .ref (by rw [← E1.jl]; simp)
      have E5 := E4.set (i := i) hr
      refine hh E5 e3 ?_
      intro σ6 j6 H6 X6 E6
      exact kk _ _ _ (X.trans (X4.trans X6)) (E6.unset i)
     ·cases e
    ·cases e
 unfold tTryAs
 rcases hk with ⟨m, rfl, rfl⟩ | ⟨rfl, rfl⟩
 ·unfold xSet
  refine go fun v S2 er j' H' X E1 w hw => ?_
  rw [er] at e
  cases e
  exact kk _ _ _ X (E1.set hw)
 ·unfold xDrop
  refine go fun v S2 er j' H' X E1 w hw => ?_
  rw [er] at e
  cases e
  exact kk _ _ _ X E1
noncomputable def dIsE (tbl : Str → Option Bool) : Xv → Sto → Option (Xv × Sto) := fun x S => match x with
 | .ref n => match S[n]? with
  | some (.exc c) => (tbl c).map fun b => (.bl b, S)
  | _ => none
 | _ => none
noncomputable def IseOk (K : PySem.W.Frag) (D : Value) (tbl : Str → Option Bool) : Prop := ∀ c C b, PySem.W.nsIn K mainGlobals c = some (some (.ref C)) → tbl c = some b → ExcIs K C ∧ PySem.W.kitOne K (.ref C) D = some b
noncomputable def IseOkT (K : PySem.W.Frag) (Ds : List Value) (tbl : Str → Option Bool) : Prop := ∀ c C b, PySem.W.nsIn K mainGlobals c = some (some (.ref C)) → tbl c = some b → ExcIs K C ∧ PySem.W.kitAny K (.ref C) Ds = some b
theorem dIsE_some {tbl : Str → Option Bool} {z : Xv} {S' : Sto} (h : dIsE tbl x S = some (z, S')) : ∃ n c b, x = .ref n ∧ S[n]? = some (.exc c) ∧ tbl c = some b ∧ z = .bl b ∧ S' = S := by
 unfold dIsE at h
 split at h
 ·split at h
  ·rename_i n _ c e
   rw [Option.map_eq_some_iff] at h
   obtain ⟨b, e1, e2⟩ := h
   cases e2
   exact ⟨n, c, b, rfl, e, e1, rfl, rfl⟩
  ·cases h
 ·cases h
theorem re_ise {tbl : Str → Option Bool} {t : TE} {m : TwE} {c : V} {D : Value} (hc : clsV c = some D) (ok : IseOk K D tbl) (h : RE K E t m) : RE K E (tCB (rIsi K) (tCons t (tCons (tC c) tNil))) (eUn (dIsE tbl) m) := by
 intro F j σ H ρ S r Q En0 e k
 rcases rb_some e with ⟨x, S1, e1, e⟩ | ⟨c, S1, e1, rfl⟩
 ·obtain ⟨z, S3, e3, rfl⟩ := okP_some e
  obtain ⟨n, cn, b, rfl, hs, ht, rfl, rfl⟩ := dIsE_some e3
  refine h En0 e1 fun j1 H1 X1 E1 u hu => ?_
  obtain ⟨a, rfl, hj⟩ := hu.ref_inv
  obtain ⟨C, hC, hH⟩ := E1.cel _ _ _ hs hj
  obtain ⟨f1, f2⟩ := ok cn C b hC ht
  exact ⟨.ref a, c, D, .ref C, b, rfl, hc, .exc hH f1, f2, k _ _ X1 E1 _ (.bl _)⟩
 ·exact h En0 e1 k
noncomputable def TAC (t : TA) (cs : List V) : Prop := ∀ σ H (Q : List V → Hp → Prop), Q cs H → t σ H Q
theorem tac_nil : TAC tNil [] := fun _ _ _ q => q
theorem tac_cons {t : TA} {cs : List V} (c : V) (h : TAC t cs) : TAC (tCons (tC c) t) (c :: cs) := fun σ H Q q => h σ H _ q
theorem re_iseT {tbl : Str → Option Bool} {t : TE} {m : TwE} {ta : TA} {cs : List V} {Ds : List Value} (hta : TAC ta cs) (hc : cs.map clsV = Ds.map some) (hl : cs.length ≤ 100) (ok : IseOkT K Ds tbl) (h : RE K E t m) : RE K E (tCB (rIsiT K) (tCons t (tCons (tTup ta) tNil))) (eUn (dIsE tbl) m) := by
 intro F j σ H ρ S r Q En0 e k
 rcases rb_some e with ⟨x, S1, e1, e⟩ | ⟨c, S1, e1, rfl⟩
 ·obtain ⟨z, S3, e3, rfl⟩ := okP_some e
  obtain ⟨n, cn, b, rfl, hs, ht, rfl, rfl⟩ := dIsE_some e3
  refine h En0 e1 fun j1 H1 X1 E1 u hu => ?_
  obtain ⟨a, rfl, hj⟩ := hu.ref_inv
  refine hta _ _ _ ⟨Nat.le_trans hl (by decide), fun p hp => ?_⟩
  obtain ⟨E2, X2⟩ := E1.new (p := p) (o := .tup cs) hp
  obtain ⟨C, hC, hH⟩ := E2.cel _ _ _ hs hj
  obtain ⟨f1, f2⟩ := ok cn C b hC ht
  exact ⟨.ref a, p, cs, Ds, .ref C, b, rfl, upd_same, hc, .exc hH f1, f2, k _ _ (X1.trans X2) E2 _ (.bl _)⟩
 ·exact h En0 e1 k
theorem apart {C D : Addr} (h1 : PySem.W.mroIn K C (.ref C) = some true) (h2 : PySem.W.mroIn K C (.ref D) = some false) : C = D → false = true := by
 rintro rfl
 rw [h1] at h2
 exact absurd h2 (by decide)
theorem kit_val {C : Addr} (h : PySem.W.mroIn K C (.type "ValueError") = some true) : PySem.W.kitOne K (.ref C) (.type "ValueError") = some true := by
 have hm : PySem.W.kitMeta "ValueError" = true := by decide +kernel
 unfold PySem.W.kitOne
 rw [if_neg (by simp)]
 unfold PySem.W.kitCls
 show (if PySem.W.kitMeta "ValueError" = true then PySem.W.subIn K (.ref C) (.type "ValueError") else none) = some true
 rw [if_pos hm]
 exact h
theorem kitAny_nil {t : Value} : PySem.W.kitAny K t [] = some false := rfl
theorem kitAny_f {t c : Value} {l : List Value} {b : Bool} (h : PySem.W.kitOne K t c = some false) (r : PySem.W.kitAny K t l = some b) : PySem.W.kitAny K t (c :: l) = some b := by
 unfold PySem.W.kitAny
 rw [h]
 exact r
noncomputable def tblOf (l : List (Str × Bool)) : Str → Option Bool := fun c => l.lookup c
theorem lookup_cons {c d : Str} {b : Bool} {l : List (Str × Bool)} {v : Bool} (h : tblOf ((d, b) :: l) c = some v) : (c = d ∧ v = b) ∨ tblOf l c = some v := by
 unfold tblOf at h ⊢
 rw [List.lookup_cons] at h
 split at h
 ·rename_i e
  cases h
  exact .inl ⟨by simpa using e, rfl⟩
 ·exact .inr h
theorem IseOk.nil {D : Value} : IseOk K D (tblOf []) := fun c C b _ h => by cases h
theorem IseOk.cons {D : Value} {d : Str} {b : Bool} {l : List (Str × Bool)} (hns : PySem.W.nsIn K mainGlobals d = some (some (.ref C))) (e : ExcIs K C) (k : PySem.W.kitOne K (.ref C) D = some b) (h : IseOk K D (tblOf l)) : IseOk K D (tblOf ((d, b) :: l)) := fun c C' v hC hv => by
 rcases lookup_cons hv with ⟨rfl, rfl⟩ | hv
 ·rw [hns] at hC
  cases hC
  exact ⟨e, k⟩
 ·exact h c C' v hC hv
theorem IseOkT.nil {D : List Value} : IseOkT K D (tblOf []) := fun c C b _ h => by cases h
theorem IseOkT.cons {D : List Value} {d : Str} {b : Bool} {l : List (Str × Bool)} (hns : PySem.W.nsIn K mainGlobals d = some (some (.ref C))) (e : ExcIs K C) (k : PySem.W.kitAny K (.ref C) D = some b) (h : IseOkT K D (tblOf l)) : IseOkT K D (tblOf ((d, b) :: l)) := fun c C' v hC hv => by
 rcases lookup_cons hv with ⟨rfl, rfl⟩ | hv
 ·rw [hns] at hC
  cases hC
  exact ⟨e, k⟩
 ·exact h c C' v hC hv
theorem HitOk.nil {D : Value} : HitOk K D [] := fun c h => by cases h
theorem HitOk.cons {D : Value} {d : Str} {l : List Str} (hns : PySem.W.nsIn K mainGlobals d = some (some (.ref C))) (k : PySem.W.exmOne K (.ref C) D = some true) (h : HitOk K D l) : HitOk K D (d :: l) := fun c hc C' hC => by
 rcases List.mem_cons.1 hc with rfl | hc
 ·rw [hns] at hC
  cases hC
  exact k
 ·exact h c hc C' hC
end
end L2
namespace L2
open PySem
noncomputable def WE {α : Type} (r : Option (Rs α)) (P : α → Sto → Prop) (X : Str → Sto → Prop) : Prop := (∃ a S, r = some (.ok a S) ∧ P a S) ∨ ∃ c S, r = some (.ex c S) ∧ X c S
noncomputable def WSE (r : Option Fl) (N : Rho → Sto → Prop) (R : Xv → Sto → Prop) (X : Str → Sto → Prop) : Prop := (∃ ρ S, r = some (.nx ρ S) ∧ N ρ S) ∨ (∃ x S, r = some (.rt x S) ∧ R x S) ∨ ∃ c S, r = some (.ex c S) ∧ X c S
section
variable {ρ : Rho} {S S' : Sto} {x y : Xv} {a b m o : TwE} {c : TwT} {s t : TwS} {i k : Nat} {P : Xv → Sto → Prop} {PL : List Xv → Sto → Prop} {N : Rho → Sto → Prop} {R : Xv → Sto → Prop} {X : Str → Sto → Prop}
theorem WE.w {α : Type} {r : Option (Rs α)} {P : α → Sto → Prop} (h : W r P) : WE r P X := .inl h
theorem WE.imp {α : Type} {r : Option (Rs α)} {P Q : α → Sto → Prop} {Y : Str → Sto → Prop} (h : WE r P Y) (k : ∀ a S, P a S → Q a S) (k2 : ∀ c S, Y c S → X c S) : WE r Q X := by
 rcases h with ⟨a, S, e, h⟩ | ⟨c, S, e, h⟩
 ·exact .inl ⟨a, S, e, k _ _ h⟩
 ·exact .inr ⟨c, S, e, k2 _ _ h⟩
theorem WSE.ws {r : Option Fl} (h : WS r N R) : WSE r N R X := by
 rcases h with h | h
 ·exact .inl h
 ·exact .inr (.inl h)
theorem WE.bind {α β : Type} {r : Option (Rs α)} {f : α → Sto → Option (Rs β)} {P : β → Sto → Prop} (h : WE r (fun a S => WE (f a S) P X) X) : WE (rb r f) P X := by
 rcases h with ⟨a, S, rfl, h⟩ | ⟨c, S, rfl, h⟩
 ·exact h
 ·exact .inr ⟨c, S, rfl, h⟩
theorem WSE.bind {α : Type} {r : Option (Rs α)} {f : α → Sto → Option Fl} (h : WE r (fun a S => WSE (f a S) N R X) X) : WSE (sb r f) N R X := by
 rcases h with ⟨a, S, rfl, h⟩ | ⟨c, S, rfl, h⟩
 ·exact h
 ·exact .inr (.inr ⟨c, S, rfl, h⟩)
theorem we_nil (k : PL [] S) : WE (evL [] ρ S) PL X := .inl ⟨_, _, rfl, k⟩
theorem we_cons {ms : List TwE} (h : WE (m ρ S) (fun d S1 => WE (evL ms ρ S1) (fun ds S2 => PL (d :: ds) S2) X) X) : WE (evL (m :: ms) ρ S) PL X := WE.bind (h.imp (fun _ _ h => WE.bind (h.imp (fun _ _ k => .inl ⟨_, _, rfl, k⟩) fun _ _ h => h)) fun _ _ h => h)
theorem we_tup {ms : List TwE} (h : WE (evL ms ρ S) (fun ds S1 => P (.tup ds) S1) X) : WE (eTup ms ρ S) P X := WE.bind (h.imp (fun _ _ k => .inl ⟨_, _, rfl, k⟩) fun _ _ h => h)
theorem we_mt {f : OpM} {ms : List TwE} (h : WE (o ρ S) (fun x S1 => (∃ l, lstAt S1 x = some l) ∧ WE (evL ms ρ S1) (fun ys S2 => WO (f x ys S2) P) X) X) : WE (eMt f o ms ρ S) P X := WE.bind (h.imp (fun x S1 h => by
 obtain ⟨⟨l, e⟩, h⟩ := h
 rw [e]
 exact WE.bind (h.imp (fun _ _ h => .w (W.okP h)) fun _ _ h => h)) fun _ _ h => h)
theorem we_meth {tw : TwF} {nm f : Str} {ms : List TwE} (h : WE (o ρ S) (fun x S1 => ∃ n fs, x = .ref n ∧ S1[n]? = some (.ins nm fs) ∧ fs.lookup f = none ∧ WE (evL ms ρ S1) (fun xs S2 => WE (tw (x :: xs) S2) P X) X) X) : WE (eMethS nm f tw o ms ρ S) P X :=
 WE.bind (h.imp (fun _ _ h => by obtain ⟨n, fs, rfl, e1, e2, q⟩ := h; rw [insS_of e1, Option.bind_some, if_pos e2]; exact WE.bind (q.imp (fun _ _ h => h) fun _ _ h => h)) fun _ _ h => h)
theorem wse_seq (h : WSE (s ρ S) (fun ρ1 S1 => WSE (t ρ1 S1) N R X) R X) : WSE (sSeq s t ρ S) N R X := by
 unfold sSeq
 rcases h with ⟨ρ1, S1, e, h⟩ | ⟨x, S1, e, h⟩ | ⟨x, S1, e, h⟩
 ·rw [e]; exact h
 ·rw [e]; exact .inr (.inl ⟨_, _, rfl, h⟩)
 ·rw [e]; exact .inr (.inr ⟨_, _, rfl, h⟩)
theorem wse_next (h : N ρ S) : WSE (sNext ρ S) N R X := .inl ⟨_, _, rfl, h⟩
theorem wse_expr (h : WE (m ρ S) (fun _ S1 => N ρ S1) X) : WSE (sExpr m ρ S) N R X := WSE.bind (h.imp (fun _ _ k => .inl ⟨_, _, rfl, k⟩) fun _ _ h => h)
theorem wse_ret (h : WE (m ρ S) (fun d S1 => R d S1) X) : WSE (sRet m ρ S) N R X := WSE.bind (h.imp (fun _ _ k => .inr (.inl ⟨_, _, rfl, k⟩)) fun _ _ h => h)
theorem wse_raise {cl : Str} {ms : List TwE} (h : W (evL ms ρ S) fun _ S1 => X cl S1) : WSE (sRaise cl ms ρ S) N R X := WSE.bind (WE.w (h.imp fun _ _ k => .inr (.inr ⟨_, _, rfl, k⟩)))
theorem wse_if (h : W (c ρ S) fun v S1 => (v = true → WSE (s ρ S1) N R X) ∧ (v = false → WSE (t ρ S1) N R X)) : WSE (sIf c s t ρ S) N R X := WSE.bind (WE.w (h.imp fun v S1 k => by
 cases v with
 | true => exact k.1 rfl
 | false => exact k.2 rfl))
theorem wse_cut {r : Option Fl} (I : Rho → Sto → Prop) (h : WSE r I R X) (k : ∀ ρ S, I ρ S → N ρ S) : WSE r N R X := by
 rcases h with ⟨ρ1, S1, e, h⟩ | h
 ·exact .inl ⟨ρ1, S1, e, k _ _ h⟩
 ·exact .inr h
theorem wse_turn {n : Nat} (h : W (c ρ S) fun v S1 => (v = true → WSE (s ρ S1) (fun ρ2 S2 => WSE (whTw c s n ρ2 S2) N R X) R X) ∧ (v = false → N ρ S1)) : WSE (whTw c s (n + 1) ρ S) N R X := by
 unfold whTw
 refine WSE.bind (WE.w (h.imp fun v S1 k => ?_))
 cases v with
 | true =>
  rw [if_pos rfl]
  rcases k.1 rfl with ⟨ρ2, S2, e2, h⟩ | ⟨x, S2, e2, h⟩ | ⟨x, S2, e2, h⟩
  ·rw [e2]; exact h
  ·rw [e2]; exact .inr (.inl ⟨_, _, rfl, h⟩)
  ·rw [e2]; exact .inr (.inr ⟨_, _, rfl, h⟩)
 | false => exact .inl ⟨_, _, rfl, k.2 rfl⟩
theorem wse_for {n : TwI} {g : TwG} (h : W (n ρ S) fun get S1 => ∃ xs, get S1 = some xs ∧ WSE (forTw get g s (xs.length + 1) 0 ρ S1) N R X) : WSE (sFor n g s ρ S) N R X := WSE.bind (WE.w (h.imp fun get S1 h => by
 obtain ⟨xs, e, h⟩ := h
 rw [e, Option.bind_some]
 exact h))
theorem wse_forI {get : Sto → Option (List Xv)} {g : TwG} {xs : List Xv} (J : Nat → Rho → Sto → Prop) (hg : ∀ i ρ S, i ≤ xs.length → J i ρ S → get S = some xs)
  (h : ∀ (i : Nat) (x : Xv) ρ S, xs[i]? = some x → J i ρ S → W (g x ρ S) fun ρ1 S1 => WSE (s ρ1 S1) (fun ρ2 S2 => J (i + 1) ρ2 S2) R X) (h0 : J 0 ρ S) (k : ∀ ρ S, J xs.length ρ S → N ρ S) : WSE (forTw get g s (xs.length + 1) 0 ρ S) N R X := by
 have aux : ∀ (n i : Nat) (ρ : Rho) (S : Sto), i + n = xs.length → J i ρ S → WSE (forTw get g s (n + 1) i ρ S) N R X := by
  intro n
  induction n with
  | zero =>
   intro i ρ S e hj
   unfold forTw
   rw [hg i ρ S (by omega) hj, Option.bind_some, List.getElem?_eq_none (by omega)]
   dsimp only
   rw [if_pos (by omega)]
   exact .inl ⟨_, _, rfl, k ρ S (by rw [show xs.length = i by omega]; exact hj)⟩
  | succ n ih =>
   intro i ρ S e hj
   unfold forTw
   have hi : i < xs.length := by omega
   rw [hg i ρ S (by omega) hj, Option.bind_some, List.getElem?_eq_getElem hi]
   refine WSE.bind (WE.w ((h i _ ρ S (List.getElem?_eq_getElem hi) hj).imp fun ρ1 S1 h1 => ?_))
   rcases h1 with ⟨ρ2, S2, e2, h2⟩ | ⟨x, S2, e2, h2⟩ | ⟨x, S2, e2, h2⟩
   ·rw [e2]; exact ih (i + 1) ρ2 S2 (by omega) h2
   ·rw [e2]; exact .inr (.inl ⟨_, _, rfl, h2⟩)
   ·rw [e2]; exact .inr (.inr ⟨_, _, rfl, h2⟩)
 exact aux xs.length 0 ρ S (by omega) h0
theorem we_run {n k : Nat} {xs : List Xv} {ρ0 : Rho} (hn : xs.length = n) (h0 : xs.map some ++ List.replicate k none = ρ0) (h : WSE (s ρ0 S) (fun _ S1 => P .non S1) P X) : WE (runTw n k s xs S) P X := by
 unfold runTw
 rw [if_pos hn, h0]
 rcases h with ⟨ρ, S1, e, h⟩ | ⟨x, S1, e, h⟩ | ⟨x, S1, e, h⟩
 ·rw [e]; exact .inl ⟨_, _, rfl, h⟩
 ·rw [e]; exact .inl ⟨_, _, rfl, h⟩
 ·rw [e]; exact .inr ⟨_, _, rfl, h⟩
theorem wx_try {i : Nat} {k : Option Nat} {tw : TwF} {is : List Nat} {ok : List Str} {h : TwS} {xs : List Xv} (hx : is.mapM (fun i => ρ[i]?.join) = some xs)
  (hh : WE (tw xs S) (fun v S2 => N (match k with | some k => ρ.set k (some v) | none => ρ) S2) fun c S2 => c ∈ ok ∧ ∃ ρ' S', h (ρ.set i (some (.ref S2.length))) (S2 ++ [.exc c]) = some (.nx ρ' S') ∧ N (ρ'.set i none) S') : WS (sTry i k tw is ok h ρ S) N R := by
 unfold sTry
 rw [hx, Option.bind_some]
 rcases hh with ⟨v, S2, e, hn⟩ | ⟨c, S2, e, hc, ρ', S', e2, hn⟩
 ·rw [e]; exact .nx rfl hn
 ·rw [e]
  dsimp only
  rw [if_pos hc, e2]
  exact .nx rfl hn
theorem ox_isE {tbl : Str → Option Bool} {n : Nat} {cl : Str} {v : Bool} (h : S[n]? = some (.exc cl)) (ht : tbl cl = some v) (k : P (.bl v) S) : WO (dIsE tbl (.ref n) S) P := .of (by unfold dIsE; dsimp only; rw [h]; dsimp only; rw [ht]; rfl) k
end
end L2
namespace L2
open PySem PySem.Spec PyProof.Rows PySem.Calls
section
variable {K : PySem.W.Frag} {E : XK} {F : Fm} {j : List Addr} {H : Hp} {σ : St} {ρ : Rho} {S : Sto} {x : Xv} {v : V} {nm f : Str} {C : Addr}
noncomputable def mIndex : OpM := fun x ys S => match wlAt S x, ys with
 | some (_, l), [y] => if flatX y && l.all flatX then (l.findIdx? fun z => eqbX z y).map fun (k : Nat) => (Xv.int (k : Int), S) else none
 | _, _ => none
theorem rm_index : RmOk K rIndex mIndex := by
 intro F j σ H ρ S S' x z ys u vs Q E0 hx hy h k
 unfold mIndex at h
 split at h
 ·rename_i n l y e
  split at h
  ·rename_i hf
   have hf := Bool.and_eq_true_iff.1 hf
   rw [Option.map_eq_some_iff] at h
   obtain ⟨q, e3, h⟩ := h
   cases h
   obtain ⟨a, ws, rfl, hj, h1, h2⟩ := E0.wl hx e
   obtain ⟨w0, rfl, hw⟩ := hy.d1
   obtain ⟨hlt, hj1, hj2⟩ := List.findIdx?_eq_some_iff_getElem.1 e3
   obtain ⟨w, w1, w2⟩ := h2.get (List.getElem?_eq_getElem hlt)
   have fl : ∀ (m : Nat) (hm : m < l.length), flatX l[m] = true := fun m hm => List.all_eq_true.1 hf.2 _ (List.getElem_mem hm)
   refine ⟨a, ws, w0, q, rfl, rfl, h1, ?_, ?_, ⟨w, w1, ?_⟩, fun m z hm hz => ?_, k _ _ _ Ext.refl E0 (.int _)⟩
   ·rw [flat_xis hw]; exact hf.1
   ·rw [all_xis h2]; exact hf.2
   ·rw [eq_xis w2 hw (fl _ hlt) hf.1]; exact hj1
   ·have hml : m < l.length := by omega
    obtain ⟨y', y1, y2⟩ := h2.get (List.getElem?_eq_getElem hml)
    rw [hz] at y1
    cases y1
    rw [eq_xis y2 hw (fl _ hml) hf.1]
    have := hj2 m hm
    simpa using this
  ·cases h
 ·cases h
theorem ox_index {P : Xv → Sto → Prop} {n k : Nat} {l : List Xv} {y : Xv} (h : wlAt S x = some (n, l)) (hf : (flatX y && l.all flatX) = true) (e : (l.findIdx? fun z => eqbX z y) = some k) (q : P (.int (k : Int)) S) : WO (mIndex x [y] S) P := .of (by unfold mIndex; rw [h]; dsimp only; rw [if_pos hf, e]; rfl) q
noncomputable def iRvt (m : TwE) : TwI := fun ρ S => rb (m ρ S) fun x S1 => x.tupOf.map fun l => .ok (fun _ => some l.reverse) S1
theorem ri_revT {t : TE} {m : TwE} (h : RE K E t m) : RI K E (iRvT K (tCons t tNil)) (iRvt m) := by
 intro F j σ H ρ S r R En0 e k
 rcases rb_some e with ⟨x, S1, e1, e⟩ | ⟨c, S1, e1, rfl⟩
 ·cases el : x.tupOf with
  | none => rw [el] at e; cases e
  | some l =>
   rw [el] at e
   cases e
   refine h En0 e1 fun j1 H1 X1 E1 u hu => ?_
   obtain ⟨a, vs, rfl, h1, hvs⟩ := hu.tupO el
   refine ⟨a, vs, rfl, h1, k _ _ X1 E1 _ ?_⟩
   intro F2 j2 H2 σ2 ρ2 S2 xs i X2 E2 e2
   cases e2
   obtain ⟨a', ws, ea, g1, g2⟩ := (hu.mono X2).tupO el
   cases ea
   have n1 := hvs.len
   have n2 := g2.len
   refine ⟨fun y ey => ?_, fun hle => ?_⟩
   ·have hi : i < l.length := by
     have := (List.getElem?_eq_some_iff.1 ey).1
     simpa using this
    rw [List.getElem?_reverse hi] at ey
    obtain ⟨w, f1, f2⟩ := g2.get ey
    refine ⟨⟨by omega, ws, g1, by omega⟩, ?_⟩
    rintro v' H' ⟨rfl, hx⟩
    have := hx ws g1
    rw [show vs.length - 1 - i = l.length - 1 - i by omega, f1] at this
    cases this
    exact ⟨Same.refl _, f2⟩
   ·show i = vs.length
    simp at hle
    omega
 ·exact h En0 e1 k
theorem wx_iRvt {Q' : (Sto → Option (List Xv)) → Sto → Prop} {m : TwE} (h : W (m ρ S) fun x S1 => ∃ l, x.tupOf = some l ∧ Q' (fun _ => some l.reverse) S1) : W (iRvt m ρ S) Q' := W.bind (h.imp fun x S1 h => by
 obtain ⟨l, e, k⟩ := h
 rw [e]
 exact .of rfl k)
noncomputable def sAugS (nm f : Str) (o m : TwE) : TwS := fun ρ S => sb (o ρ S) fun x S1 => (insS S1 x nm).bind fun p => match p.2.lookup f with
 | some (.int u) => sb (m ρ S1) fun y S2 => match y with
  | .int w => (insS S2 x nm).bind fun q => if q.2.length < 1000 then some (.nx ρ (S2.set q.1 (.ins nm (putS f (.int (u + w)) q.2)))) else none
  | _ => none
 | _ => none
theorem rs_augS {to tv : TE} {o m : TwE} (hns : PySem.W.nsIn K mainGlobals nm = some (some (.ref C))) (hc : Cls K C) (hn : NoAttr K C f) (ho : RE K E to o) (hv : RE K E tv m) : RS K E (sFldAug K to tv rAdd f) (sAugS nm f o m) := by
 intro F j D' σ H ρ S fl E0 e kk
 rcases sb_some e with ⟨x, S1, e1, e⟩ | ⟨c, S1, e1, rfl⟩
 ·refine ho E0 e1 fun j1 H1 X1 E1 u hu => ?_
  rw [Option.bind_eq_some_iff] at e
  obtain ⟨⟨n, fs⟩, e2, e⟩ := e
  dsimp only at e
  split at e
  ·rename_i iu el
   obtain ⟨a, dx, vs, rfl, hj, f1, f2⟩ := E1.ins hns hu e2
   obtain ⟨w, g1, g2⟩ := f2.look.1 _ el
   have ew := g2.int_inv
   subst ew
   refine ⟨a, C, dx, vs, _, rfl, f1, hc, hn, g1, ?_⟩
   rcases sb_some e with ⟨y, S2, e3, e⟩ | ⟨c, S2, e3, rfl⟩
   ·refine hv E1 e3 fun j2 H2 X2 E2 wy hwy => ?_
    split at e
    ·rename_i iw
     have := hwy.int_inv
     subst this
     rw [Option.bind_eq_some_iff] at e
     obtain ⟨⟨n2, fs2⟩, e4, e⟩ := e
     dsimp only at e
     split at e
     ·rename_i hl
      cases e
      refine ⟨iu, iw, rfl, rfl, ?_⟩
      obtain ⟨a', dx', vs', ea, hj', h1, h2⟩ := E2.ins hns (hu.mono X2) e4
      cases ea
      obtain ⟨E4, X4⟩ := E2.write (o := .ins C dx' (L2.putF f (.int (iu + iw)) vs')) (c' := .ins nm (putS f (.int (iu + iw)) fs2)) (insS_some e4).2 rfl hj' rfl fun X => ⟨C, dx', _, hns, upd_same, (KX.putF (.int _) h2).mono X⟩
      exact ⟨dx', vs', h1, by rw [h2.len2]; exact hl, kk _ _ _ (X1.trans (X2.trans X4)) E4⟩
     ·cases e
    ·cases e
   ·exact hv E1 e3 (PX.mono kk X1)
  ·cases e
 ·exact ho E0 e1 kk
theorem wx_augS {N : Rho → Sto → Prop} {R : Xv → Sto → Prop} {o m : TwE} (h : W (o ρ S) fun x S1 => ∃ n fs u, x = .ref n ∧ S1[n]? = some (.ins nm fs) ∧ fs.lookup f = some (.int u) ∧ W (m ρ S1) fun y S2 => ∃ w fs2, y = .int w ∧ S2[n]? = some (.ins nm fs2) ∧ fs2.length < 1000 ∧ N ρ (S2.set n (.ins nm (putS f (.int (u + w)) fs2)))) : WS (sAugS nm f o m ρ S) N R :=
 WS.bind (h.imp fun _ _ h => by
  obtain ⟨n, fs, u, rfl, e1, e2, h⟩ := h
  rw [insS_of e1, Option.bind_some]
  dsimp only
  rw [e2]
  refine WS.bind (h.imp fun _ _ h => ?_)
  obtain ⟨w, fs2, rfl, e3, e4, q⟩ := h
  dsimp only
  rw [insS_of e3, Option.bind_some, if_pos e4]
  exact .nx rfl q)
noncomputable def dRepT : Op2 := fun x y S => match x, y with
 | .tup u, .int k => if -(2 ^ 63) ≤ k ∧ k < 2 ^ 63 ∧ u.length * k.toNat ≤ sizeLine then some (.tup (List.replicate k.toNat u).flatten, S) else none
 | _, _ => none
theorem xisl_rep {xs : List Xv} {vs : List V} (h : XisL K j H xs vs) : ∀ n : Nat, XisL K j H (List.replicate n xs).flatten (List.replicate n vs).flatten
 | 0 => .nil
 | n + 1 => by
  rw [List.replicate_succ, List.replicate_succ, List.flatten_cons, List.flatten_cons]
  exact h.append (xisl_rep h n)
theorem r2_repT : R2Ok K (rRepT K) dRepT := by
 intro F j σ H ρ S S' x y z u v Q E1 hx hy h k
 unfold dRepT at h
 split at h
 ·rename_i ds q
  split at h
  ·rename_i hz
   cases h
   obtain ⟨p, xs, rfl, h1, h2⟩ := hx.tup_inv
   refine ⟨p, _, xs, rfl, hy.int_inv, SqT.of h1, hz.1, hz.2.1, by rw [h2.len]; exact hz.2.2, fun hc => ?_, fun hc l hl => ?_⟩
   ·have e : (List.replicate q.toNat ds).flatten = ds := by
     rcases hc with hc | hc
     ·subst hc
      obtain rfl := List.length_eq_zero_iff.1 h2.len.symm
      simp
     ·subst hc
      simp
    rw [e] at k
    exact k _ _ _ Ext.refl E1 hx
   ·obtain ⟨E2, X2⟩ := E1.new (o := .tup (List.replicate q.toNat xs).flatten) hl
    exact k _ _ _ X2 E2 (.tup upd_same ((xisl_rep h2 _).mono X2))
  ·cases h
 ·cases h
theorem ox_repT {P : Xv → Sto → Prop} {u : List Xv} {p : Int} (h : 0 ≤ p ∧ p ≤ 1000000 ∧ u.length * p.toNat ≤ sizeLine) (k : P (.tup (List.replicate p.toNat u).flatten) S) : WO (dRepT (.tup u) (.int p) S) P := .of (by unfold dRepT; exact if_pos ⟨by omega, by omega, h.2.2⟩) k
end
end L2
namespace Mth
open PySem.Builtin.Int (intBits)
end Mth
namespace Prf
open PySem PySem.Spec PyProof.Rows L2
open PySem.Builtin.Int (intBits)
set_option maxHeartbeats 4000000
section
variable {P : Program} {w : World} {K : PySem.W.Frag} {mg : Str → Option Value} {base : Heap} {fu : Nat}
noncomputable def top (i : Nat) : Stmt := PySem.Challenge.pw_lots_k35_trees_refused.main.body.getD i (.Pass ⟨0, 0, 0, 0⟩)
noncomputable abbrev s_is_whole : Stmt := top 10
noncomputable abbrev s_common_part : Stmt := top 11
noncomputable abbrev s_lowest : Stmt := top 12
noncomputable abbrev s_fraction : Stmt := top 13
noncomputable abbrev s_place_of : Stmt := top 15
noncomputable abbrev s_worth : Stmt := top 16
noncomputable abbrev s_reckoned : Stmt := top 17
noncomputable abbrev s_holds : Stmt := top 18
noncomputable abbrev s_put_into : Stmt := top 19
noncomputable abbrev s_drawn : Stmt := top 20
noncomputable abbrev s_blocks_of : Stmt := top 22
noncomputable abbrev s_deeds_within : Stmt := top 23
noncomputable abbrev s_stands_in : Stmt := top 24
noncomputable abbrev s_is_bounded : Stmt := top 25
noncomputable abbrev s_tree_of : Stmt := top 28
noncomputable abbrev s_ahead_of : Stmt := top 29
noncomputable abbrev s_Grower___init__ : Stmt := inClass (top 30) 0
noncomputable abbrev s_Grower_counted : Stmt := inClass (top 30) 1
noncomputable abbrev s_Grower_tree_from : Stmt := inClass (top 30) 2
noncomputable abbrev s_Grower_parts_from : Stmt := inClass (top 30) 3
noncomputable abbrev s_Grower_trees_from : Stmt := inClass (top 30) 4
noncomputable abbrev s__law_take : Stmt := top 32
noncomputable abbrev s__law_same : Stmt := top 33
noncomputable abbrev s__law_many : Stmt := top 34
noncomputable abbrev s__law_third : Stmt := top 35
noncomputable abbrev s__law_loop : Stmt := top 36
noncomputable abbrev s__law_told : Stmt := top 37
noncomputable abbrev s__law_leaves : Stmt := top 38
noncomputable abbrev s_law : Stmt := top 39
theorem sc_is_whole : FnScope ["thing"] ["thing"] (defScope s_is_whole) := ⟨rfl, rfl, rfl, by decide +kernel, rfl, by decide +kernel, by decide +kernel⟩
theorem sc_common_part : FnScope ["one", "other", "rest"] ["one", "other"] (defScope s_common_part) := ⟨rfl, rfl, rfl, by decide +kernel, rfl, by decide +kernel, by decide +kernel⟩
theorem sc_lowest : FnScope ["top", "bottom", "part"] ["top", "bottom"] (defScope s_lowest) := ⟨rfl, rfl, rfl, by decide +kernel, rfl, by decide +kernel, by decide +kernel⟩
theorem sc_fraction : FnScope ["top", "bottom"] ["top", "bottom"] (defScope s_fraction) := ⟨rfl, rfl, rfl, by decide +kernel, rfl, by decide +kernel, by decide +kernel⟩
theorem sc_place_of : FnScope ["boxes", "name"] ["boxes", "name"] (defScope s_place_of) := ⟨rfl, rfl, rfl, by decide +kernel, rfl, by decide +kernel, by decide +kernel⟩
theorem sc_worth : FnScope ["boxes", "state", "operand"] ["boxes", "state", "operand"] (defScope s_worth) := ⟨rfl, rfl, rfl, by decide +kernel, rfl, by decide +kernel, by decide +kernel⟩
theorem sc_reckoned : FnScope ["boxes", "state", "reckoning", "one", "other"] ["boxes", "state", "reckoning"] (defScope s_reckoned) := ⟨rfl, rfl, rfl, by decide +kernel, rfl, by decide +kernel, by decide +kernel⟩
theorem sc_holds : FnScope ["boxes", "state", "test", "one", "other"] ["boxes", "state", "test"] (defScope s_holds) := ⟨rfl, rfl, rfl, by decide +kernel, rfl, by decide +kernel, by decide +kernel⟩
theorem sc_put_into : FnScope ["boxes", "state", "name", "number", "place", "size"] ["boxes", "state", "name", "number"] (defScope s_put_into) := ⟨rfl, rfl, rfl, by decide +kernel, rfl, by decide +kernel, by decide +kernel⟩
theorem sc_drawn : FnScope ["boxes", "state", "name", "weights", "whole", "ways", "number", "weight"] ["boxes", "state", "name", "weights"] (defScope s_drawn) := ⟨rfl, rfl, rfl, by decide +kernel, rfl, by decide +kernel, by decide +kernel⟩
theorem sc_blocks_of : FnScope ["deed"] ["deed"] (defScope s_blocks_of) := ⟨rfl, rfl, rfl, by decide +kernel, rfl, by decide +kernel, by decide +kernel⟩
theorem sc_deeds_within : FnScope ["block", "deeds", "deed", "inner"] ["block"] (defScope s_deeds_within) := ⟨rfl, rfl, rfl, by decide +kernel, rfl, by decide +kernel, by decide +kernel⟩
theorem sc_stands_in : FnScope ["block", "kind"] ["block", "kind"] (defScope s_stands_in) := ⟨rfl, rfl, rfl, by decide +kernel, rfl, by decide +kernel, by decide +kernel⟩
theorem sc_is_bounded : FnScope ["block"] ["block"] (defScope s_is_bounded) := ⟨rfl, rfl, rfl, by decide +kernel, rfl, by decide +kernel, by decide +kernel⟩
theorem sc_tree_of : FnScope ["program", "state"] ["program", "state"] (defScope s_tree_of) := ⟨rfl, rfl, rfl, by decide +kernel, rfl, by decide +kernel, by decide +kernel⟩
theorem sc_ahead_of : FnScope ["block", "later", "deed"] ["block", "later"] (defScope s_ahead_of) := ⟨rfl, rfl, rfl, by decide +kernel, rfl, by decide +kernel, by decide +kernel⟩
theorem sc_Grower___init__ : FnScope ["self", "boxes"] ["self", "boxes"] (defScope s_Grower___init__) := ⟨rfl, rfl, rfl, by decide +kernel, rfl, by decide +kernel, by decide +kernel⟩
theorem sc_Grower_counted : FnScope ["self", "leaf"] ["self", "leaf"] (defScope s_Grower_counted) := ⟨rfl, rfl, rfl, by decide +kernel, rfl, by decide +kernel, by decide +kernel⟩
theorem sc_Grower_tree_from : FnScope ["self", "later", "state", "gain", "deed", "turn"] ["self", "later", "state", "gain"] (defScope s_Grower_tree_from) := ⟨rfl, rfl, rfl, by decide +kernel, rfl, by decide +kernel, by decide +kernel⟩
theorem sc_Grower_parts_from : FnScope ["self", "ways", "later", "gain", "parts", "share", "state"] ["self", "ways", "later", "gain"] (defScope s_Grower_parts_from) := ⟨rfl, rfl, rfl, by decide +kernel, rfl, by decide +kernel, by decide +kernel⟩
theorem sc_Grower_trees_from : FnScope ["self", "blocks", "later", "state", "gain", "trees", "block"] ["self", "blocks", "later", "state", "gain"] (defScope s_Grower_trees_from) := ⟨rfl, rfl, rfl, by decide +kernel, rfl, by decide +kernel, by decide +kernel⟩
theorem sc__law_take : FnScope ["_law_left", "_law_many_here"] ["_law_left", "_law_many_here"] (defScope s__law_take) := ⟨rfl, rfl, rfl, by decide +kernel, rfl, by decide +kernel, by decide +kernel⟩
theorem sc__law_same : FnScope ["_law_found", "_law_due"] ["_law_found", "_law_due"] (defScope s__law_same) := ⟨rfl, rfl, rfl, by decide +kernel, rfl, by decide +kernel, by decide +kernel⟩
theorem sc__law_many : FnScope ["_law_left", "_law_boxes", "_law_sizes", "_law_block", "_law_size", "_law_at", "_law_weights", "_law_some"] ["_law_left", "_law_boxes", "_law_sizes"] (defScope s__law_many) := ⟨rfl, rfl, rfl, by decide +kernel, rfl, by decide +kernel, by decide +kernel⟩
theorem sc__law_third : FnScope ["_law_more"] ["_law_more"] (defScope s__law_third) := ⟨rfl, rfl, rfl, by decide +kernel, rfl, by decide +kernel, by decide +kernel⟩
theorem sc__law_loop : FnScope ["_law_left", "_law_boxes", "_law_some", "_law_loop_here", "_law_k", "_law_way"] ["_law_left", "_law_boxes"] (defScope s__law_loop) := ⟨rfl, rfl, rfl, by decide +kernel, rfl, by decide +kernel, by decide +kernel⟩
theorem sc__law_told : FnScope ["_law_program", "_law_state", "_law_word", "_law_tree", "e", "_law_other"] ["_law_program", "_law_state"] (defScope s__law_told) := ⟨rfl, rfl, rfl, by decide +kernel, rfl, by decide +kernel, by decide +kernel⟩
theorem sc__law_leaves : FnScope ["_law_tree", "_law_many_here", "_law_some", "_law_below"] ["_law_tree"] (defScope s__law_leaves) := ⟨rfl, rfl, rfl, by decide +kernel, rfl, by decide +kernel, by decide +kernel⟩
theorem sc_law : FnScope ["_law_script", "_law_left", "_law_way", "_law_more", "_law_boxes", "_law_state", "_law_loop_here", "_law_small", "_law_two", "_law_look", "_law_block", "_law_ways", "_law_due", "_law_word", "_law_tree"] ["_law_script"] (defScope s_law) := ⟨rfl, rfl, rfl, by decide +kernel, rfl, by decide +kernel, by decide +kernel⟩
set_option genInjectivity false in
set_option genSizeOf false in
structure Tx (K : PySem.W.Frag) (mg : Str → Option Value) where
 a_is_whole : Addr
 fd_is_whole : FuncData
 F_is_whole : Fun K "is_whole" "is_whole" s_is_whole a_is_whole fd_is_whole
 m_is_whole : mg "is_whole" = some (.ref a_is_whole)
 b_is_whole : Binds K fd_is_whole ["thing"] []
 a_common_part : Addr
 fd_common_part : FuncData
 F_common_part : Fun K "common_part" "common_part" s_common_part a_common_part fd_common_part
 m_common_part : mg "common_part" = some (.ref a_common_part)
 b_common_part : Binds K fd_common_part ["one", "other"] []
 a_lowest : Addr
 fd_lowest : FuncData
 F_lowest : Fun K "lowest" "lowest" s_lowest a_lowest fd_lowest
 m_lowest : mg "lowest" = some (.ref a_lowest)
 b_lowest : Binds K fd_lowest ["top", "bottom"] []
 a_fraction : Addr
 fd_fraction : FuncData
 F_fraction : Fun K "fraction" "fraction" s_fraction a_fraction fd_fraction
 m_fraction : mg "fraction" = some (.ref a_fraction)
 b_fraction : Binds K fd_fraction ["top", "bottom"] []
 a_place_of : Addr
 fd_place_of : FuncData
 F_place_of : Fun K "place_of" "place_of" s_place_of a_place_of fd_place_of
 m_place_of : mg "place_of" = some (.ref a_place_of)
 b_place_of : Binds K fd_place_of ["boxes", "name"] []
 a_worth : Addr
 fd_worth : FuncData
 F_worth : Fun K "worth" "worth" s_worth a_worth fd_worth
 m_worth : mg "worth" = some (.ref a_worth)
 b_worth : Binds K fd_worth ["boxes", "state", "operand"] []
 a_reckoned : Addr
 fd_reckoned : FuncData
 F_reckoned : Fun K "reckoned" "reckoned" s_reckoned a_reckoned fd_reckoned
 m_reckoned : mg "reckoned" = some (.ref a_reckoned)
 b_reckoned : Binds K fd_reckoned ["boxes", "state", "reckoning"] []
 a_holds : Addr
 fd_holds : FuncData
 F_holds : Fun K "holds" "holds" s_holds a_holds fd_holds
 m_holds : mg "holds" = some (.ref a_holds)
 b_holds : Binds K fd_holds ["boxes", "state", "test"] []
 a_put_into : Addr
 fd_put_into : FuncData
 F_put_into : Fun K "put_into" "put_into" s_put_into a_put_into fd_put_into
 m_put_into : mg "put_into" = some (.ref a_put_into)
 b_put_into : Binds K fd_put_into ["boxes", "state", "name", "number"] []
 a_drawn : Addr
 fd_drawn : FuncData
 F_drawn : Fun K "drawn" "drawn" s_drawn a_drawn fd_drawn
 m_drawn : mg "drawn" = some (.ref a_drawn)
 b_drawn : Binds K fd_drawn ["boxes", "state", "name", "weights"] []
 a_blocks_of : Addr
 fd_blocks_of : FuncData
 F_blocks_of : Fun K "blocks_of" "blocks_of" s_blocks_of a_blocks_of fd_blocks_of
 m_blocks_of : mg "blocks_of" = some (.ref a_blocks_of)
 b_blocks_of : Binds K fd_blocks_of ["deed"] []
 a_deeds_within : Addr
 fd_deeds_within : FuncData
 F_deeds_within : Fun K "deeds_within" "deeds_within" s_deeds_within a_deeds_within fd_deeds_within
 m_deeds_within : mg "deeds_within" = some (.ref a_deeds_within)
 b_deeds_within : Binds K fd_deeds_within ["block"] []
 a_stands_in : Addr
 fd_stands_in : FuncData
 F_stands_in : Fun K "stands_in" "stands_in" s_stands_in a_stands_in fd_stands_in
 m_stands_in : mg "stands_in" = some (.ref a_stands_in)
 b_stands_in : Binds K fd_stands_in ["block", "kind"] []
 a_is_bounded : Addr
 fd_is_bounded : FuncData
 F_is_bounded : Fun K "is_bounded" "is_bounded" s_is_bounded a_is_bounded fd_is_bounded
 m_is_bounded : mg "is_bounded" = some (.ref a_is_bounded)
 b_is_bounded : Binds K fd_is_bounded ["block"] []
 a_tree_of : Addr
 fd_tree_of : FuncData
 F_tree_of : Fun K "tree_of" "tree_of" s_tree_of a_tree_of fd_tree_of
 m_tree_of : mg "tree_of" = some (.ref a_tree_of)
 b_tree_of : Binds K fd_tree_of ["program", "state"] []
 a_ahead_of : Addr
 fd_ahead_of : FuncData
 F_ahead_of : Fun K "ahead_of" "ahead_of" s_ahead_of a_ahead_of fd_ahead_of
 m_ahead_of : mg "ahead_of" = some (.ref a_ahead_of)
 b_ahead_of : Binds K fd_ahead_of ["block", "later"] []
 a_Grower___init__ : Addr
 fd_Grower___init__ : FuncData
 F_Grower___init__ : Fun K "__init__" "Grower.__init__" s_Grower___init__ a_Grower___init__ fd_Grower___init__
 b_Grower___init__ : Binds K fd_Grower___init__ ["self", "boxes"] []
 a_Grower_counted : Addr
 fd_Grower_counted : FuncData
 F_Grower_counted : Fun K "counted" "Grower.counted" s_Grower_counted a_Grower_counted fd_Grower_counted
 b_Grower_counted : Binds K fd_Grower_counted ["self", "leaf"] []
 a_Grower_tree_from : Addr
 fd_Grower_tree_from : FuncData
 F_Grower_tree_from : Fun K "tree_from" "Grower.tree_from" s_Grower_tree_from a_Grower_tree_from fd_Grower_tree_from
 b_Grower_tree_from : Binds K fd_Grower_tree_from ["self", "later", "state", "gain"] []
 a_Grower_parts_from : Addr
 fd_Grower_parts_from : FuncData
 F_Grower_parts_from : Fun K "parts_from" "Grower.parts_from" s_Grower_parts_from a_Grower_parts_from fd_Grower_parts_from
 b_Grower_parts_from : Binds K fd_Grower_parts_from ["self", "ways", "later", "gain"] []
 a_Grower_trees_from : Addr
 fd_Grower_trees_from : FuncData
 F_Grower_trees_from : Fun K "trees_from" "Grower.trees_from" s_Grower_trees_from a_Grower_trees_from fd_Grower_trees_from
 b_Grower_trees_from : Binds K fd_Grower_trees_from ["self", "blocks", "later", "state", "gain"] []
 a__law_take : Addr
 fd__law_take : FuncData
 F__law_take : Fun K "_law_take" "_law_take" s__law_take a__law_take fd__law_take
 m__law_take : mg "_law_take" = some (.ref a__law_take)
 b__law_take : Binds K fd__law_take ["_law_left", "_law_many_here"] []
 a__law_same : Addr
 fd__law_same : FuncData
 F__law_same : Fun K "_law_same" "_law_same" s__law_same a__law_same fd__law_same
 m__law_same : mg "_law_same" = some (.ref a__law_same)
 b__law_same : Binds K fd__law_same ["_law_found", "_law_due"] []
 a__law_many : Addr
 fd__law_many : FuncData
 F__law_many : Fun K "_law_many" "_law_many" s__law_many a__law_many fd__law_many
 m__law_many : mg "_law_many" = some (.ref a__law_many)
 b__law_many : Binds K fd__law_many ["_law_left", "_law_boxes", "_law_sizes"] []
 a__law_third : Addr
 fd__law_third : FuncData
 F__law_third : Fun K "_law_third" "_law_third" s__law_third a__law_third fd__law_third
 m__law_third : mg "_law_third" = some (.ref a__law_third)
 b__law_third : Binds K fd__law_third ["_law_more"] []
 a__law_loop : Addr
 fd__law_loop : FuncData
 F__law_loop : Fun K "_law_loop" "_law_loop" s__law_loop a__law_loop fd__law_loop
 m__law_loop : mg "_law_loop" = some (.ref a__law_loop)
 b__law_loop : Binds K fd__law_loop ["_law_left", "_law_boxes"] []
 a__law_told : Addr
 fd__law_told : FuncData
 F__law_told : Fun K "_law_told" "_law_told" s__law_told a__law_told fd__law_told
 m__law_told : mg "_law_told" = some (.ref a__law_told)
 b__law_told : Binds K fd__law_told ["_law_program", "_law_state"] []
 a__law_leaves : Addr
 fd__law_leaves : FuncData
 F__law_leaves : Fun K "_law_leaves" "_law_leaves" s__law_leaves a__law_leaves fd__law_leaves
 m__law_leaves : mg "_law_leaves" = some (.ref a__law_leaves)
 b__law_leaves : Binds K fd__law_leaves ["_law_tree"] []
 a_law : Addr
 fd_law : FuncData
 F_law : Fun K "law" "law" s_law a_law fd_law
 m_law : mg "law" = some (.ref a_law)
 b_law : Binds K fd_law ["_law_script"] []
 n_ValueError : mg "ValueError" = none
 n_abs : mg "abs" = none
 n_all : mg "all" = none
 n_any : mg "any" = none
 n_bool : mg "bool" = none
 n_enumerate : mg "enumerate" = none
 n_int : mg "int" = none
 n_isinstance : mg "isinstance" = none
 n_len : mg "len" = none
 n_list : mg "list" = none
 n_range : mg "range" = none
 n_reversed : mg "reversed" = none
 n_str : mg "str" = none
 n_sum : mg "sum" = none
 n_tuple : mg "tuple" = none
 a_LotsError : Addr
 m_LotsError : mg "LotsError" = some (.ref a_LotsError)
 x_LotsError : ExcCls K mg "LotsError" a_LotsError [.type "ValueError", .type "Exception", .type "BaseException", .type "object"] "ValueError.__new__"
 i_LotsError : ExcIs K a_LotsError
 t_LotsError : PySem.W.typeIn K (.ref a_LotsError) = some (.type "type")
 e_LotsError : PySem.W.mroIn K a_LotsError (.type "BaseException") = some true
 v_LotsError : PySem.W.mroIn K a_LotsError (.type "ValueError") = some true
 a_NoNumber : Addr
 m_NoNumber : mg "NoNumber" = some (.ref a_NoNumber)
 x_NoNumber : ExcCls K mg "NoNumber" a_NoNumber [.type "ValueError", .type "Exception", .type "BaseException", .type "object"] "ValueError.__new__"
 i_NoNumber : ExcIs K a_NoNumber
 t_NoNumber : PySem.W.typeIn K (.ref a_NoNumber) = some (.type "type")
 e_NoNumber : PySem.W.mroIn K a_NoNumber (.type "BaseException") = some true
 v_NoNumber : PySem.W.mroIn K a_NoNumber (.type "ValueError") = some true
 a_NoText : Addr
 m_NoText : mg "NoText" = some (.ref a_NoText)
 x_NoText : ExcCls K mg "NoText" a_NoText [.type "ValueError", .type "Exception", .type "BaseException", .type "object"] "ValueError.__new__"
 i_NoText : ExcIs K a_NoText
 t_NoText : PySem.W.typeIn K (.ref a_NoText) = some (.type "type")
 e_NoText : PySem.W.mroIn K a_NoText (.type "BaseException") = some true
 v_NoText : PySem.W.mroIn K a_NoText (.type "ValueError") = some true
 a_NoProgram : Addr
 m_NoProgram : mg "NoProgram" = some (.ref a_NoProgram)
 x_NoProgram : ExcCls K mg "NoProgram" a_NoProgram [.type "ValueError", .type "Exception", .type "BaseException", .type "object"] "ValueError.__new__"
 i_NoProgram : ExcIs K a_NoProgram
 t_NoProgram : PySem.W.typeIn K (.ref a_NoProgram) = some (.type "type")
 e_NoProgram : PySem.W.mroIn K a_NoProgram (.type "BaseException") = some true
 v_NoProgram : PySem.W.mroIn K a_NoProgram (.type "ValueError") = some true
 a_NoBound : Addr
 m_NoBound : mg "NoBound" = some (.ref a_NoBound)
 x_NoBound : ExcCls K mg "NoBound" a_NoBound [.type "ValueError", .type "Exception", .type "BaseException", .type "object"] "ValueError.__new__"
 i_NoBound : ExcIs K a_NoBound
 t_NoBound : PySem.W.typeIn K (.ref a_NoBound) = some (.type "type")
 e_NoBound : PySem.W.mroIn K a_NoBound (.type "BaseException") = some true
 v_NoBound : PySem.W.mroIn K a_NoBound (.type "ValueError") = some true
 a_TooMany : Addr
 m_TooMany : mg "TooMany" = some (.ref a_TooMany)
 x_TooMany : ExcCls K mg "TooMany" a_TooMany [.type "ValueError", .type "Exception", .type "BaseException", .type "object"] "ValueError.__new__"
 i_TooMany : ExcIs K a_TooMany
 t_TooMany : PySem.W.typeIn K (.ref a_TooMany) = some (.type "type")
 e_TooMany : PySem.W.mroIn K a_TooMany (.type "BaseException") = some true
 v_TooMany : PySem.W.mroIn K a_TooMany (.type "ValueError") = some true
 a_HandLeft : Addr
 m_HandLeft : mg "HandLeft" = some (.ref a_HandLeft)
 x_HandLeft : ExcCls K mg "HandLeft" a_HandLeft [.type "ValueError", .type "Exception", .type "BaseException", .type "object"] "ValueError.__new__"
 i_HandLeft : ExcIs K a_HandLeft
 t_HandLeft : PySem.W.typeIn K (.ref a_HandLeft) = some (.type "type")
 e_HandLeft : PySem.W.mroIn K a_HandLeft (.type "BaseException") = some true
 v_HandLeft : PySem.W.mroIn K a_HandLeft (.type "ValueError") = some true
 a_NoneKept : Addr
 m_NoneKept : mg "NoneKept" = some (.ref a_NoneKept)
 x_NoneKept : ExcCls K mg "NoneKept" a_NoneKept [.type "ValueError", .type "Exception", .type "BaseException", .type "object"] "ValueError.__new__"
 i_NoneKept : ExcIs K a_NoneKept
 t_NoneKept : PySem.W.typeIn K (.ref a_NoneKept) = some (.type "type")
 e_NoneKept : PySem.W.mroIn K a_NoneKept (.type "BaseException") = some true
 v_NoneKept : PySem.W.mroIn K a_NoneKept (.type "ValueError") = some true
 a_Grower : Addr
 m_Grower : mg "Grower" = some (.ref a_Grower)
 cl_Grower : Cls K a_Grower
 ns_Grower : PySem.W.nsIn K mainGlobals "Grower" = some (some (.ref a_Grower))
 n_Grower_boxes : NoAttr K a_Grower "boxes"
 n_Grower_leaves : NoAttr K a_Grower "leaves"
 mk_Grower : Mk K a_Grower a_Grower___init__
 mt_Grower_counted : Meth K a_Grower "counted" a_Grower_counted
 mt_Grower_tree_from : Meth K a_Grower "tree_from" a_Grower_tree_from
 mt_Grower_parts_from : Meth K a_Grower "parts_from" a_Grower_parts_from
 mt_Grower_trees_from : Meth K a_Grower "trees_from" a_Grower_trees_from
 ns_NoBound : PySem.W.nsIn K mainGlobals "NoBound" = some (some (.ref a_NoBound))
 r_NoBound_LotsError : PySem.W.mroIn K a_NoBound (.ref a_LotsError) = some true
 r_NoBound_NoNumber : PySem.W.mroIn K a_NoBound (.ref a_NoNumber) = some false
 r_NoBound_NoText : PySem.W.mroIn K a_NoBound (.ref a_NoText) = some false
 r_NoBound_NoProgram : PySem.W.mroIn K a_NoBound (.ref a_NoProgram) = some false
 r_NoBound_NoBound : PySem.W.mroIn K a_NoBound (.ref a_NoBound) = some true
 r_NoBound_TooMany : PySem.W.mroIn K a_NoBound (.ref a_TooMany) = some false
 r_NoBound_HandLeft : PySem.W.mroIn K a_NoBound (.ref a_HandLeft) = some false
 r_NoBound_NoneKept : PySem.W.mroIn K a_NoBound (.ref a_NoneKept) = some false
 ns_TooMany : PySem.W.nsIn K mainGlobals "TooMany" = some (some (.ref a_TooMany))
 r_TooMany_LotsError : PySem.W.mroIn K a_TooMany (.ref a_LotsError) = some true
 r_TooMany_NoNumber : PySem.W.mroIn K a_TooMany (.ref a_NoNumber) = some false
 r_TooMany_NoText : PySem.W.mroIn K a_TooMany (.ref a_NoText) = some false
 r_TooMany_NoProgram : PySem.W.mroIn K a_TooMany (.ref a_NoProgram) = some false
 r_TooMany_NoBound : PySem.W.mroIn K a_TooMany (.ref a_NoBound) = some false
 r_TooMany_TooMany : PySem.W.mroIn K a_TooMany (.ref a_TooMany) = some true
 r_TooMany_HandLeft : PySem.W.mroIn K a_TooMany (.ref a_HandLeft) = some false
 r_TooMany_NoneKept : PySem.W.mroIn K a_TooMany (.ref a_NoneKept) = some false
 m_MOST_LEAVES : ∃ t, mg "MOST_LEAVES" = some (.int 400 t)
local macro_rules | `(tactic| walk_at "q1") => `(tactic| first | exact .inl rfl | exact .inr rfl | assumption)
noncomputable def tb_is_whole (fu : Nat) : TwS := (sRet (eAnd (eUn (dIsi "int") (eVar 0)) (eB (bNot (bE (eUn (dIsi "bool") (eVar 0)))))))
noncomputable def tw_is_whole (fu : Nat) : TwF := runTw 1 0 (tb_is_whole fu)
theorem ok_is_whole (T : Tx K mg) : FnOk P w K mg base (CXE P w) 1 T.a_is_whole T.fd_is_whole ["thing"] (sTw K 1 (tw_is_whole fu)) :=
 T.F_is_whole.okE sc_is_whole (fun vs H Q E h => h.1) (fun cdv A outer s H vs Q E hr h => ⟨_, (@pss_one _ _ _ (@ps_ret _ _ _ _ (pe_and (pe_callB (call_isiK (K := K)) rfl T.n_isinstance boot_isinstance (pa_cons (pv 0) (pa_cons (pe_bltn (v := .ty "int") rfl T.n_int boot_int rfl) pa_nil))) (pe_one (pe_not (pe_callB (call_isiK (K := K)) rfl T.n_isinstance boot_isinstance (pa_cons (pv 0) (pa_cons (pe_bltn (v := .ty "bool") rfl T.n_bool boot_bool rfl) pa_nil)))))))), fn_tw (n := 1) (k := 0) (b := tb_is_whole fu) rfl (rs_ret (re_and (re_isi isi_int (re_var 0)) (re_not (re_isi isi_bool (re_var 0))))) h⟩)
noncomputable def tb_common_part (fu : Nat) : TwS := (sSeq (sAsg (eFn dAbs [(eVar 0)]) (gN 0)) (sSeq (sAsg (eFn dAbs [(eVar 1)]) (gN 1)) (sSeq (sWh fu (bE (eOp dNeI (eVar 1) (eC (.int 0)))) (sSeq (sAsg (eOp dMod (eVar 0) (eVar 1)) (gN 2)) (sSeq (sAsg (eVar 1) (gN 0)) (sAsg (eVar 2) (gN 1))))) (sRet (eVar 0)))))
noncomputable def tw_common_part (fu : Nat) : TwF := runTw 2 1 (tb_common_part fu)
theorem ok_common_part (T : Tx K mg) : FnOk P w K mg base (CXE P w) 1 T.a_common_part T.fd_common_part ["one", "other"] (sTw K 2 (tw_common_part fu)) :=
 T.F_common_part.okE sc_common_part (fun vs H Q E h => h.1) (fun cdv A outer s H vs Q E hr h => ⟨_, (@pss_cons _ _ _ _ _ (@ps_set _ _ 0 _ _ _ _ sc_common_part.nd rfl (Or.inl rfl) (pe_callB call_abs rfl T.n_abs boot_abs (@pa_cons _ _ _ _ _ (pv 0) pa_nil se_Name)) (by rfl) (by walk_at "q1")) (@pss_cons _ _ _ _ _ (@ps_set _ _ 1 _ _ _ _ sc_common_part.nd rfl (Or.inl rfl) (pe_callB call_abs rfl T.n_abs boot_abs (@pa_cons _ _ _ _ _ (pv 1) pa_nil se_Name)) (by rfl) (by walk_at "q1")) (@pss_cons _ _ _ _ _ (ps_while PassesOwn.leaving (pt_cmp (pc_neI (pv 1) pe_int)) (@pss_cons _ _ _ _ _ (@ps_set _ _ 2 _ _ _ _ sc_common_part.nd rfl (Or.inl rfl) (pe_op op_mod (pv 0) (pv 1)) (by rfl) (by walk_at "q1")) (@pss_cons _ _ _ _ _ (@ps_set _ _ 0 _ _ _ _ sc_common_part.nd rfl (Or.inl rfl) (pv 1) (by rfl) (by walk_at "q1")) (@pss_one _ _ _ (@ps_set _ _ 1 _ _ _ _ sc_common_part.nd rfl (Or.inl rfl) (pv 2) (by rfl) (by walk_at "q1")))))) (@pss_one _ _ _ (@ps_ret _ _ _ _ (pv 0)))))), fn_tw (n := 2) (k := 1) (b := tb_common_part fu) rfl (rs_seq (rs_asg (re_fn rc_abs (rl_cons (re_var 0) rl_nil)) rg_name) (rs_seq (rs_asg (re_fn rc_abs (rl_cons (re_var 1) rl_nil)) rg_name) (rs_seq (rs_while (rt_e (re_neI (re_var 1) (re_int _))) (rs_seq (rs_asg (re_op r2_mod (re_var 0) (re_var 1)) rg_name) (rs_seq (rs_asg (re_var 1) rg_name) (rs_asg (re_var 2) rg_name)))) (rs_ret (re_var 0))))) h⟩)
noncomputable def tb_lowest (fu : Nat) : TwS := (sSeq (sAsg (eCall (tw_common_part fu) [(eVar 0), (eVar 1)]) (gN 2)) (sSeq (sIf (bE (eOp dLt (eVar 1) (eC (.int 0)))) (sAsg (eUn dNeg (eVar 2)) (gN 2)) sNext) (sRet (eTup [(eOp dFdivB (eVar 0) (eVar 2)), (eOp dFdivB (eVar 1) (eVar 2))]))))
noncomputable def tw_lowest (fu : Nat) : TwF := runTw 2 1 (tb_lowest fu)
theorem ok_lowest (T : Tx K mg) : FnOk P w K mg base (CXE P w) 2 T.a_lowest T.fd_lowest ["top", "bottom"] (sTw K 2 (tw_lowest fu)) :=
 T.F_lowest.okE sc_lowest (fun vs H Q E h => h.1) (fun cdv A outer s H vs Q E hr h => ⟨_, (@pss_cons _ _ _ _ _ (@ps_set _ _ 2 _ _ _ _ sc_lowest.nd rfl (Or.inl rfl) (pe_call (ok_common_part (fu := fu) T) (hr.mono (by decide)) rfl T.m_common_part T.F_common_part.kp T.b_common_part .nil passE (@pa_cons _ _ _ _ _ (pv 0) (@pa_cons _ _ _ _ _ (pv 1) pa_nil se_Name) se_Name)) (by rfl) (by walk_at "q1")) (@pss_cons _ _ _ _ _ (ps_if (pt_cmp (pc_lt (pv 1) pe_int)) (@pss_one _ _ _ (@ps_set _ _ 2 _ _ _ _ sc_lowest.nd rfl (Or.inl rfl) (pe_un un_neg (pv 2)) (by rfl) (by walk_at "q1"))) pss_nil) (@pss_one _ _ _ (@ps_ret _ _ _ _ (@pe_tup _ _ _ _ _ (@pa_cons _ _ _ _ _ (pe_op op_fdivB (pv 0) (pv 2)) (@pa_cons _ _ _ _ _ (pe_op op_fdivB (pv 1) (pv 2)) pa_nil se_BinOp) se_BinOp)))))), fn_tw (n := 2) (k := 1) (b := tb_lowest fu) rfl (rs_seq (rs_asg (re_call (rl_cons (re_var 0) (rl_cons (re_var 1) rl_nil))) rg_name) (rs_seq (rs_if (rt_e (re_lt (re_var 1) (re_int _))) (rs_asg (re_un r1_neg (re_var 2)) rg_name) rs_next) (rs_ret (re_tup (rl_cons (re_op r2_fdivB (re_var 0) (re_var 2)) (rl_cons (re_op r2_fdivB (re_var 1) (re_var 2)) rl_nil)))))) h⟩)
noncomputable def tb_fraction (fu : Nat) : TwS := (sSeq (sIf (bOr (bNot (bE (eCall (tw_is_whole fu) [(eVar 0)]))) (bNot (bE (eCall (tw_is_whole fu) [(eVar 1)])))) sStuck sNext) (sSeq (sIf (bE (eOp dEqI (eVar 1) (eC (.int 0)))) sStuck sNext) (sRet (eCall (tw_lowest fu) [(eVar 0), (eVar 1)]))))
noncomputable def tw_fraction (fu : Nat) : TwF := runTw 2 0 (tb_fraction fu)
theorem ok_fraction (T : Tx K mg) : FnOk P w K mg base (CXE P w) 3 T.a_fraction T.fd_fraction ["top", "bottom"] (sTw K 2 (tw_fraction fu)) :=
 T.F_fraction.okE sc_fraction (fun vs H Q E h => h.1) (fun cdv A outer s H vs Q E hr h => ⟨_, (@pss_cons _ _ _ _ _ (ps_if (PW.pt (pw_or (pt_not (pt_val (pe_call (ok_is_whole (fu := fu) T) (hr.mono (by decide)) rfl T.m_is_whole T.F_is_whole.kp T.b_is_whole .nil passE (@pa_cons _ _ _ _ _ (pv 0) pa_nil se_Name)))) (pw_or1 (pt_not (pt_val (pe_call (ok_is_whole (fu := fu) T) (hr.mono (by decide)) rfl T.m_is_whole T.F_is_whole.kp T.b_is_whole .nil passE (@pa_cons _ _ _ _ _ (pv 1) pa_nil se_Name))))))) (@pss_one _ _ _ ps_never) pss_nil) (@pss_cons _ _ _ _ _ (ps_if (pt_cmp (pc_eqI (pv 1) pe_int)) (@pss_one _ _ _ ps_never) pss_nil) (@pss_one _ _ _ (@ps_ret _ _ _ _ (pe_call (ok_lowest (fu := fu) T) (hr.mono (by decide)) rfl T.m_lowest T.F_lowest.kp T.b_lowest .nil passE (@pa_cons _ _ _ _ _ (pv 0) (@pa_cons _ _ _ _ _ (pv 1) pa_nil se_Name) se_Name)))))), fn_tw (n := 2) (k := 0) (b := tb_fraction fu) rfl (rs_seq (rs_if (rt_or (rt_not (rt_e (re_call (rl_cons (re_var 0) rl_nil)))) (rt_not (rt_e (re_call (rl_cons (re_var 1) rl_nil))))) rs_stuck rs_next) (rs_seq (rs_if (rt_e (re_eqI (re_var 1) (re_int _))) rs_stuck rs_next) (rs_ret (re_call (rl_cons (re_var 0) (rl_cons (re_var 1) rl_nil)))))) h⟩)
noncomputable def tb_place_of (fu : Nat) : TwS := (sRet (eMt mIndex (eComp [none] (iT (eVar 0)) (gN 0) bTrue (eOp dIxT (eVar 0) (eC (.int 0)))) [(eVar 1)]))
noncomputable def tw_place_of (fu : Nat) : TwF := runTw 2 0 (tb_place_of fu)
theorem ok_place_of (T : Tx K mg) : FnOk P w K mg base (CXE P w) 1 T.a_place_of T.fd_place_of ["boxes", "name"] (sTw K 2 (tw_place_of fu)) :=
 T.F_place_of.okE sc_place_of (fun vs H Q E h => h.1) (fun cdv A outer s H vs Q E hr h => ⟨_, (@pss_one _ _ _ (@ps_ret _ _ _ _ (pe_bm PySem.F.plainAttrs_list PySem.F.slot_list_index PySem.F.type_list_index mt_index (pe_comp (N' := ["box"]) rfl (blk (osc := defScope s_place_of) rfl (by decide +kernel)) (cap_own cap_nil) (pi_tupK (K := K) (pv 0)) (gown_name rfl) (fun C s₀ H₀ fp => pg_name (i := 0) (show (["box"] : List Str).Nodup from by decide +kernel) rfl (Or.inl rfl)) (fun C s₀ H₀ fp => pts_nil) (fun C s₀ H₀ fp => (@pe_ix _ _ _ _ _ _ _ (ix_tupK (K := K)) (pv 0) pe_int (fun _ _ => rfl)))) (@pa_cons _ _ _ _ _ (pv 1) pa_nil se_Name)))), fn_tw (n := 2) (k := 0) (b := tb_place_of fu) rfl (rs_ret (re_mt rm_index (re_comp (cap := [none]) (ri_tup (re_var 0)) rg_name rt_true (re_op r2_ixT (re_var 0) (re_int _))) (rl_cons (re_var 1) rl_nil))) h⟩)
noncomputable def tb_worth (fu : Nat) : TwS := (sSeq (sIf (bE (eUn (dIsi "str") (eVar 2))) (sRet (eOp dIxT (eVar 1) (eCall (tw_place_of fu) [(eVar 0), (eVar 2)]))) sNext) (sRet (eVar 2)))
noncomputable def tw_worth (fu : Nat) : TwF := runTw 3 0 (tb_worth fu)
theorem ok_worth (T : Tx K mg) : FnOk P w K mg base (CXE P w) 2 T.a_worth T.fd_worth ["boxes", "state", "operand"] (sTw K 3 (tw_worth fu)) :=
 T.F_worth.okE sc_worth (fun vs H Q E h => h.1) (fun cdv A outer s H vs Q E hr h => ⟨_, (@pss_cons _ _ _ _ _ (ps_if (pt_val (pe_callB (call_isiK (K := K)) rfl T.n_isinstance boot_isinstance (pa_cons (pv 2) (pa_cons (pe_bltn (v := .ty "str") rfl T.n_str boot_str rfl) pa_nil)))) (@pss_one _ _ _ (@ps_ret _ _ _ _ (@pe_ix _ _ _ _ _ _ _ (ix_tupK (K := K)) (pv 1) (pe_call (ok_place_of (fu := fu) T) (hr.mono (by decide)) rfl T.m_place_of T.F_place_of.kp T.b_place_of .nil passE (@pa_cons _ _ _ _ _ (pv 0) (@pa_cons _ _ _ _ _ (pv 2) pa_nil se_Name) se_Name)) (fun _ _ => rfl)))) pss_nil) (@pss_one _ _ _ (@ps_ret _ _ _ _ (pv 2)))), fn_tw (n := 3) (k := 0) (b := tb_worth fu) rfl (rs_seq (rs_if (rt_e (re_isi isi_str (re_var 2))) (rs_ret (re_op r2_ixT (re_var 1) (re_call (rl_cons (re_var 0) (rl_cons (re_var 2) rl_nil))))) rs_next) (rs_ret (re_var 2))) h⟩)
noncomputable def tb_reckoned (fu : Nat) : TwS := (sSeq (sAsg (eCall (tw_worth fu) [(eVar 0), (eVar 1), (eOp dIxT (eVar 2) (eC (.int 0)))]) (gN 3)) (sSeq (sIf (bE (eOp dEqI (eFn dLen [(eVar 2)]) (eC (.int 1)))) (sRet (eVar 3)) sNext) (sSeq (sAsg (eCall (tw_worth fu) [(eVar 0), (eVar 1), (eOp dIxT (eVar 2) (eC (.int 2)))]) (gN 4)) (sSeq (sIf (bE (eOp (dEqS false) (eOp dIxT (eVar 2) (eC (.int 1))) (eC (.str "+")))) (sRet (eOp dAdd (eVar 3) (eVar 4))) sNext) (sSeq (sIf (bE (eOp (dEqS false) (eOp dIxT (eVar 2) (eC (.int 1))) (eC (.str "-")))) (sRet (eOp dSub (eVar 3) (eVar 4))) sNext) (sRet (eOp dMulB (eVar 3) (eVar 4))))))))
noncomputable def tw_reckoned (fu : Nat) : TwF := runTw 3 2 (tb_reckoned fu)
theorem ok_reckoned (T : Tx K mg) : FnOk P w K mg base (CXE P w) 3 T.a_reckoned T.fd_reckoned ["boxes", "state", "reckoning"] (sTw K 3 (tw_reckoned fu)) :=
 T.F_reckoned.okE sc_reckoned (fun vs H Q E h => h.1) (fun cdv A outer s H vs Q E hr h => ⟨_, (@pss_cons _ _ _ _ _ (@ps_set _ _ 3 _ _ _ _ sc_reckoned.nd rfl (Or.inl rfl) (pe_call (ok_worth (fu := fu) T) (hr.mono (by decide)) rfl T.m_worth T.F_worth.kp T.b_worth .nil passE (@pa_cons _ _ _ _ _ (pv 0) (@pa_cons _ _ _ _ _ (pv 1) (@pa_cons _ _ _ _ _ (@pe_ix _ _ _ _ _ _ _ (ix_tupK (K := K)) (pv 2) pe_int (fun _ _ => rfl)) pa_nil se_Subscript) se_Name) se_Name)) (by rfl) (by walk_at "q1")) (@pss_cons _ _ _ _ _ (ps_if (pt_cmp (pc_eqI (pe_callB (call_lenK (K := K)) rfl T.n_len boot_len (@pa_cons _ _ _ _ _ (pv 2) pa_nil se_Name)) pe_int)) (@pss_one _ _ _ (@ps_ret _ _ _ _ (pv 3))) pss_nil) (@pss_cons _ _ _ _ _ (@ps_set _ _ 4 _ _ _ _ sc_reckoned.nd rfl (Or.inl rfl) (pe_call (ok_worth (fu := fu) T) (hr.mono (by decide)) rfl T.m_worth T.F_worth.kp T.b_worth .nil passE (@pa_cons _ _ _ _ _ (pv 0) (@pa_cons _ _ _ _ _ (pv 1) (@pa_cons _ _ _ _ _ (@pe_ix _ _ _ _ _ _ _ (ix_tupK (K := K)) (pv 2) pe_int (fun _ _ => rfl)) pa_nil se_Subscript) se_Name) se_Name)) (by rfl) (by walk_at "q1")) (@pss_cons _ _ _ _ _ (ps_if (pt_cmpR op_eq (@pe_ix _ _ _ _ _ _ _ (ix_tupK (K := K)) (pv 2) pe_int (fun _ _ => rfl)) pe_str (by rfl)) (@pss_one _ _ _ (@ps_ret _ _ _ _ (pe_op op_add (pv 3) (pv 4)))) pss_nil) (@pss_cons _ _ _ _ _ (ps_if (pt_cmpR op_eq (@pe_ix _ _ _ _ _ _ _ (ix_tupK (K := K)) (pv 2) pe_int (fun _ _ => rfl)) pe_str (by rfl)) (@pss_one _ _ _ (@ps_ret _ _ _ _ (pe_op op_sub (pv 3) (pv 4)))) pss_nil) (@pss_one _ _ _ (@ps_ret _ _ _ _ (pe_op op_mulB (pv 3) (pv 4))))))))), fn_tw (n := 3) (k := 2) (b := tb_reckoned fu) rfl (rs_seq (rs_asg (re_call (rl_cons (re_var 0) (rl_cons (re_var 1) (rl_cons (re_op r2_ixT (re_var 2) (re_int _)) rl_nil)))) rg_name) (rs_seq (rs_if (rt_e (re_eqI (re_fn rc_len (rl_cons (re_var 2) rl_nil)) (re_int _))) (rs_ret (re_var 3)) rs_next) (rs_seq (rs_asg (re_call (rl_cons (re_var 0) (rl_cons (re_var 1) (rl_cons (re_op r2_ixT (re_var 2) (re_int _)) rl_nil)))) rg_name) (rs_seq (rs_if (rt_test (re_op r2_eqS (re_op r2_ixT (re_var 2) (re_int _)) (re_str _))) (rs_ret (re_op r2_add (re_var 3) (re_var 4))) rs_next) (rs_seq (rs_if (rt_test (re_op r2_eqS (re_op r2_ixT (re_var 2) (re_int _)) (re_str _))) (rs_ret (re_op r2_sub (re_var 3) (re_var 4))) rs_next) (rs_ret (re_op r2_mulB (re_var 3) (re_var 4)))))))) h⟩)
noncomputable def tb_holds (fu : Nat) : TwS := (sSeq (sAsg (eCall (tw_worth fu) [(eVar 0), (eVar 1), (eOp dIxT (eVar 2) (eC (.int 0)))]) (gN 3)) (sSeq (sAsg (eCall (tw_worth fu) [(eVar 0), (eVar 1), (eOp dIxT (eVar 2) (eC (.int 2)))]) (gN 4)) (sSeq (sIf (bE (eOp (dEqS false) (eOp dIxT (eVar 2) (eC (.int 1))) (eC (.str "=")))) (sRet (eOp dEqI (eVar 3) (eVar 4))) sNext) (sSeq (sIf (bE (eOp (dEqS false) (eOp dIxT (eVar 2) (eC (.int 1))) (eC (.str "<")))) (sRet (eOp dLt (eVar 3) (eVar 4))) sNext) (sRet (eOp dNeI (eVar 3) (eVar 4)))))))
noncomputable def tw_holds (fu : Nat) : TwF := runTw 3 2 (tb_holds fu)
theorem ok_holds (T : Tx K mg) : FnOk P w K mg base (CXE P w) 3 T.a_holds T.fd_holds ["boxes", "state", "test"] (sTw K 3 (tw_holds fu)) :=
 T.F_holds.okE sc_holds (fun vs H Q E h => h.1) (fun cdv A outer s H vs Q E hr h => ⟨_, (@pss_cons _ _ _ _ _ (@ps_set _ _ 3 _ _ _ _ sc_holds.nd rfl (Or.inl rfl) (pe_call (ok_worth (fu := fu) T) (hr.mono (by decide)) rfl T.m_worth T.F_worth.kp T.b_worth .nil passE (@pa_cons _ _ _ _ _ (pv 0) (@pa_cons _ _ _ _ _ (pv 1) (@pa_cons _ _ _ _ _ (@pe_ix _ _ _ _ _ _ _ (ix_tupK (K := K)) (pv 2) pe_int (fun _ _ => rfl)) pa_nil se_Subscript) se_Name) se_Name)) (by rfl) (by walk_at "q1")) (@pss_cons _ _ _ _ _ (@ps_set _ _ 4 _ _ _ _ sc_holds.nd rfl (Or.inl rfl) (pe_call (ok_worth (fu := fu) T) (hr.mono (by decide)) rfl T.m_worth T.F_worth.kp T.b_worth .nil passE (@pa_cons _ _ _ _ _ (pv 0) (@pa_cons _ _ _ _ _ (pv 1) (@pa_cons _ _ _ _ _ (@pe_ix _ _ _ _ _ _ _ (ix_tupK (K := K)) (pv 2) pe_int (fun _ _ => rfl)) pa_nil se_Subscript) se_Name) se_Name)) (by rfl) (by walk_at "q1")) (@pss_cons _ _ _ _ _ (ps_if (pt_cmpR op_eq (@pe_ix _ _ _ _ _ _ _ (ix_tupK (K := K)) (pv 2) pe_int (fun _ _ => rfl)) pe_str (by rfl)) (@pss_one _ _ _ (@ps_ret _ _ _ _ (pe_cmp (pc_eqI (pv 3) (pv 4))))) pss_nil) (@pss_cons _ _ _ _ _ (ps_if (pt_cmpR op_eq (@pe_ix _ _ _ _ _ _ _ (ix_tupK (K := K)) (pv 2) pe_int (fun _ _ => rfl)) pe_str (by rfl)) (@pss_one _ _ _ (@ps_ret _ _ _ _ (pe_cmp (pc_lt (pv 3) (pv 4))))) pss_nil) (@pss_one _ _ _ (@ps_ret _ _ _ _ (pe_cmp (pc_neI (pv 3) (pv 4))))))))), fn_tw (n := 3) (k := 2) (b := tb_holds fu) rfl (rs_seq (rs_asg (re_call (rl_cons (re_var 0) (rl_cons (re_var 1) (rl_cons (re_op r2_ixT (re_var 2) (re_int _)) rl_nil)))) rg_name) (rs_seq (rs_asg (re_call (rl_cons (re_var 0) (rl_cons (re_var 1) (rl_cons (re_op r2_ixT (re_var 2) (re_int _)) rl_nil)))) rg_name) (rs_seq (rs_if (rt_test (re_op r2_eqS (re_op r2_ixT (re_var 2) (re_int _)) (re_str _))) (rs_ret (re_eqI (re_var 3) (re_var 4))) rs_next) (rs_seq (rs_if (rt_test (re_op r2_eqS (re_op r2_ixT (re_var 2) (re_int _)) (re_str _))) (rs_ret (re_lt (re_var 3) (re_var 4))) rs_next) (rs_ret (re_neI (re_var 3) (re_var 4))))))) h⟩)
noncomputable def tb_put_into (fu : Nat) : TwS := (sSeq (sAsg (eCall (tw_place_of fu) [(eVar 0), (eVar 2)]) (gN 4)) (sSeq (sAsg (eOp dIxT (eOp dIxT (eVar 0) (eVar 4)) (eC (.int 1))) (gN 5)) (sRet (eOp dCatT (eOp dCatT (eSl dSlT (eVar 1) oNo (oSome (eVar 4))) (eTup [(eOp dMod (eVar 3) (eVar 5))])) (eSl dSlT (eVar 1) (oSome (eOp dAdd (eVar 4) (eC (.int 1)))) oNo)))))
noncomputable def tw_put_into (fu : Nat) : TwF := runTw 4 2 (tb_put_into fu)
theorem ok_put_into (T : Tx K mg) : FnOk P w K mg base (CXE P w) 2 T.a_put_into T.fd_put_into ["boxes", "state", "name", "number"] (sTw K 4 (tw_put_into fu)) :=
 T.F_put_into.okE sc_put_into (fun vs H Q E h => h.1) (fun cdv A outer s H vs Q E hr h => ⟨_, (@pss_cons _ _ _ _ _ (@ps_set _ _ 4 _ _ _ _ sc_put_into.nd rfl (Or.inl rfl) (pe_call (ok_place_of (fu := fu) T) (hr.mono (by decide)) rfl T.m_place_of T.F_place_of.kp T.b_place_of .nil passE (@pa_cons _ _ _ _ _ (pv 0) (@pa_cons _ _ _ _ _ (pv 2) pa_nil se_Name) se_Name)) (by rfl) (by walk_at "q1")) (@pss_cons _ _ _ _ _ (@ps_set _ _ 5 _ _ _ _ sc_put_into.nd rfl (Or.inl rfl) (@pe_ix _ _ _ _ _ _ _ (ix_tupK (K := K)) (@pe_ix _ _ _ _ _ _ _ (ix_tupK (K := K)) (pv 0) (pv 4) (fun _ _ => rfl)) pe_int (fun _ _ => rfl)) (by rfl) (by walk_at "q1")) (@pss_one _ _ _ (@ps_ret _ _ _ _ (pe_op (op_catA (K := K)) (pe_op (op_catA (K := K)) (pe_slice (sl_tupA (K := K)) (pv 1) po_none (po_some (pv 4))) (@pe_tup _ _ _ _ _ (@pa_cons _ _ _ _ _ (pe_op op_mod (pv 3) (pv 5)) pa_nil se_BinOp))) (pe_slice (sl_tupA (K := K)) (pv 1) (po_some (pe_op op_add (pv 4) pe_int)) po_none)))))), fn_tw (n := 4) (k := 2) (b := tb_put_into fu) rfl (rs_seq (rs_asg (re_call (rl_cons (re_var 0) (rl_cons (re_var 2) rl_nil))) rg_name) (rs_seq (rs_asg (re_op r2_ixT (re_op r2_ixT (re_var 0) (re_var 4)) (re_int _)) rg_name) (rs_ret (re_op r2_catT (re_op r2_catT (re_slT (re_var 1) ro_no (ro_some (re_var 4))) (re_tup (rl_cons (re_op r2_mod (re_var 3) (re_var 5)) rl_nil))) (re_slT (re_var 1) (ro_some (re_op r2_add (re_var 4) (re_int _))) ro_no))))) h⟩)
noncomputable def tb_drawn (fu : Nat) : TwS := (sSeq (sAsg (eFn dSumT [(eVar 3)]) (gN 4)) (sSeq (sAsg (eLst []) (gN 5)) (sSeq (sFor (iEnT (eVar 3)) (gT 2 (gsCons (gN 6) (gsCons (gN 7) gsNil))) (sIf (bE (eOp dGt (eVar 7) (eC (.int 0)))) (sExpr (eMt mAppend (eVar 5) [(eTup [(eCall (tw_fraction fu) [(eVar 7), (eVar 4)]), (eCall (tw_put_into fu) [(eVar 0), (eVar 1), (eVar 2), (eVar 6)])])])) sNext)) (sRet (eVar 5)))))
noncomputable def tw_drawn (fu : Nat) : TwF := runTw 4 4 (tb_drawn fu)
theorem ok_drawn (T : Tx K mg) : FnOk P w K mg base (CXE P w) 4 T.a_drawn T.fd_drawn ["boxes", "state", "name", "weights"] (sTw K 4 (tw_drawn fu)) :=
 T.F_drawn.okE sc_drawn (fun vs H Q E h => h.1) (fun cdv A outer s H vs Q E hr h => ⟨_, (@pss_cons _ _ _ _ _ (@ps_set _ _ 4 _ _ _ _ sc_drawn.nd rfl (Or.inl rfl) (pe_callB (call_sumTK (K := K) rfl) rfl T.n_sum PyProof.Rows.Boot.«sum» (@pa_cons _ _ _ _ _ (pv 3) pa_nil se_Name)) (by rfl) (by walk_at "q1")) (@pss_cons _ _ _ _ _ (@ps_set _ _ 5 _ _ _ _ sc_drawn.nd rfl (Or.inl rfl) (@pe_lst _ _ _ _ pa_nil) (by rfl) (by walk_at "q1")) (@pss_cons _ _ _ _ _ (ps_for PassesOwn.leaving rfl (pi_enumT (K := K) rfl T.n_enumerate (@pa_cons _ _ _ _ _ (pv 3) pa_nil se_Name)) (pg_tupK (K := K) (n := 2) rfl (pgs_cons (pg_name (i := 6) sc_drawn.nd rfl (Or.inl rfl)) (pgs_cons (pg_name (i := 7) sc_drawn.nd rfl (Or.inl rfl)) pgs_nil))) (@pss_one _ _ _ (ps_if (pt_cmp (pc_gt (pv 7) pe_int)) (@pss_one _ _ _ (ps_expr (pe_bm PySem.F.plainAttrs_list PySem.F.slot_list_append PySem.F.type_list_append mt_append (pv 5) (@pa_cons _ _ _ _ _ (@pe_tup _ _ _ _ _ (@pa_cons _ _ _ _ _ (pe_call (ok_fraction (fu := fu) T) (hr.mono (by decide)) rfl T.m_fraction T.F_fraction.kp T.b_fraction .nil passE (@pa_cons _ _ _ _ _ (pv 7) (@pa_cons _ _ _ _ _ (pv 4) pa_nil se_Name) se_Name)) (@pa_cons _ _ _ _ _ (pe_call (ok_put_into (fu := fu) T) (hr.mono (by decide)) rfl T.m_put_into T.F_put_into.kp T.b_put_into .nil passE (@pa_cons _ _ _ _ _ (pv 0) (@pa_cons _ _ _ _ _ (pv 1) (@pa_cons _ _ _ _ _ (pv 2) (@pa_cons _ _ _ _ _ (pv 6) pa_nil se_Name) se_Name) se_Name) se_Name)) pa_nil se_Call) se_Call)) pa_nil se_Tuple)))) pss_nil))) (@pss_one _ _ _ (@ps_ret _ _ _ _ (pv 5)))))), fn_tw (n := 4) (k := 4) (b := tb_drawn fu) rfl (rs_seq (rs_asg (re_fn rc_sumT (rl_cons (re_var 3) rl_nil)) rg_name) (rs_seq (rs_asg (re_lst rl_nil) rg_name) (rs_seq (rs_for (ri_enumT (re_var 3)) (rg_tup (rgs_cons rg_name (rgs_cons rg_name rgs_nil))) (rs_if (rt_e (re_gt (re_var 7) (re_int _))) (rs_expr (re_mt rm_append (re_var 5) (rl_cons (re_tup (rl_cons (re_call (rl_cons (re_var 7) (rl_cons (re_var 4) rl_nil))) (rl_cons (re_call (rl_cons (re_var 0) (rl_cons (re_var 1) (rl_cons (re_var 2) (rl_cons (re_var 6) rl_nil))))) rl_nil))) rl_nil))) rs_next)) (rs_ret (re_var 5))))) h⟩)
noncomputable def tb_blocks_of (fu : Nat) : TwS := (sSeq (sIf (bE (eOp (dEqS false) (eOp dIxT (eVar 0) (eC (.int 0))) (eC (.str "if")))) (sRet (eTup [(eOp dIxT (eVar 0) (eC (.int 2))), (eOp dIxT (eVar 0) (eC (.int 3)))])) sNext) (sSeq (sIf (bOr (bE (eOp (dEqS false) (eOp dIxT (eVar 0) (eC (.int 0))) (eC (.str "while")))) (bE (eOp (dEqS false) (eOp dIxT (eVar 0) (eC (.int 0))) (eC (.str "times"))))) (sRet (eTup [(eOp dIxT (eVar 0) (eC (.int 2)))])) sNext) (sSeq (sIf (bE (eOp (dEqS false) (eOp dIxT (eVar 0) (eC (.int 0))) (eC (.str "hand")))) (sRet (eOp dIxT (eVar 0) (eC (.int 1)))) sNext) (sRet (eTup [])))))
noncomputable def tw_blocks_of (fu : Nat) : TwF := runTw 1 0 (tb_blocks_of fu)
theorem ok_blocks_of (T : Tx K mg) : FnOk P w K mg base (CXE P w) 1 T.a_blocks_of T.fd_blocks_of ["deed"] (sTw K 1 (tw_blocks_of fu)) :=
 T.F_blocks_of.okE sc_blocks_of (fun vs H Q E h => h.1) (fun cdv A outer s H vs Q E hr h => ⟨_, (@pss_cons _ _ _ _ _ (ps_if (pt_cmpR op_eq (@pe_ix _ _ _ _ _ _ _ (ix_tupK (K := K)) (pv 0) pe_int (fun _ _ => rfl)) pe_str (by rfl)) (@pss_one _ _ _ (@ps_ret _ _ _ _ (@pe_tup _ _ _ _ _ (@pa_cons _ _ _ _ _ (@pe_ix _ _ _ _ _ _ _ (ix_tupK (K := K)) (pv 0) pe_int (fun _ _ => rfl)) (@pa_cons _ _ _ _ _ (@pe_ix _ _ _ _ _ _ _ (ix_tupK (K := K)) (pv 0) pe_int (fun _ _ => rfl)) pa_nil se_Subscript) se_Subscript)))) pss_nil) (@pss_cons _ _ _ _ _ (ps_if (PW.pt (pw_or (pt_cmpR op_eq (@pe_ix _ _ _ _ _ _ _ (ix_tupK (K := K)) (pv 0) pe_int (fun _ _ => rfl)) pe_str (by rfl)) (pw_or1 (pt_cmpR op_eq (@pe_ix _ _ _ _ _ _ _ (ix_tupK (K := K)) (pv 0) pe_int (fun _ _ => rfl)) pe_str (by rfl))))) (@pss_one _ _ _ (@ps_ret _ _ _ _ (@pe_tup _ _ _ _ _ (@pa_cons _ _ _ _ _ (@pe_ix _ _ _ _ _ _ _ (ix_tupK (K := K)) (pv 0) pe_int (fun _ _ => rfl)) pa_nil se_Subscript)))) pss_nil) (@pss_cons _ _ _ _ _ (ps_if (pt_cmpR op_eq (@pe_ix _ _ _ _ _ _ _ (ix_tupK (K := K)) (pv 0) pe_int (fun _ _ => rfl)) pe_str (by rfl)) (@pss_one _ _ _ (@ps_ret _ _ _ _ (@pe_ix _ _ _ _ _ _ _ (ix_tupK (K := K)) (pv 0) pe_int (fun _ _ => rfl)))) pss_nil) (@pss_one _ _ _ (@ps_ret _ _ _ _ (@pe_tup _ _ _ _ _ pa_nil)))))), fn_tw (n := 1) (k := 0) (b := tb_blocks_of fu) rfl (rs_seq (rs_if (rt_test (re_op r2_eqS (re_op r2_ixT (re_var 0) (re_int _)) (re_str _))) (rs_ret (re_tup (rl_cons (re_op r2_ixT (re_var 0) (re_int _)) (rl_cons (re_op r2_ixT (re_var 0) (re_int _)) rl_nil)))) rs_next) (rs_seq (rs_if (rt_or (rt_test (re_op r2_eqS (re_op r2_ixT (re_var 0) (re_int _)) (re_str _))) (rt_test (re_op r2_eqS (re_op r2_ixT (re_var 0) (re_int _)) (re_str _)))) (rs_ret (re_tup (rl_cons (re_op r2_ixT (re_var 0) (re_int _)) rl_nil))) rs_next) (rs_seq (rs_if (rt_test (re_op r2_eqS (re_op r2_ixT (re_var 0) (re_int _)) (re_str _))) (rs_ret (re_op r2_ixT (re_var 0) (re_int _))) rs_next) (rs_ret (re_tup rl_nil))))) h⟩)
noncomputable def tb_deeds_within (fu : Nat) (r_deeds_within : TwF) : TwS := (sSeq (sAsg (eLst []) (gN 1)) (sSeq (sFor (iT (eVar 0)) (gN 2) (sSeq (sExpr (eMt mAppend (eVar 1) [(eVar 2)])) (sFor (iT (eCall (tw_blocks_of fu) [(eVar 2)])) (gN 3) (sExpr (eMt mExtend (eVar 1) [(eCall r_deeds_within [(eVar 3)])]))))) (sRet (eVar 1))))
noncomputable def tw_deeds_within (fu : Nat) : Nat → TwF
 | 0 => fun _ _ => none
 | n + 1 => runTw 1 3 (tb_deeds_within fu (tw_deeds_within fu n))
theorem tw_deeds_within_succ (fu n : Nat) : tw_deeds_within fu (n + 1) = runTw 1 3 (tb_deeds_within fu (tw_deeds_within fu n)) := by rfl
theorem tw_deeds_within_zero (fu : Nat) : tw_deeds_within fu 0 = fun _ _ => none := by rfl
theorem okg_deeds_within (T : Tx K mg) : ∀ n : Nat, FnOk P w K mg base (CXE P w) (1 + n) T.a_deeds_within T.fd_deeds_within ["block"] (sTw K 1 (tw_deeds_within fu n)) := by
 intro n
 induction n with
 | zero =>
  skip
  ·rw [tw_deeds_within_zero]
   exact fn_none
 | succ n ih =>
  ·rw [tw_deeds_within_succ]
   exact T.F_deeds_within.okE sc_deeds_within (fun vs H Q E h => h.1) (fun cdv A outer s H vs Q E hr h => ⟨_, (@pss_cons _ _ _ _ _ (@ps_set _ _ 1 _ _ _ _ sc_deeds_within.nd rfl (Or.inl rfl) (@pe_lst _ _ _ _ pa_nil) (by rfl) (by walk_at "q1")) (@pss_cons _ _ _ _ _ (ps_for PassesOwn.leaving rfl (pi_tupK (K := K) (pv 0)) (pg_name (i := 2) sc_deeds_within.nd rfl (Or.inl rfl)) (@pss_cons _ _ _ _ _ (ps_expr (pe_bm PySem.F.plainAttrs_list PySem.F.slot_list_append PySem.F.type_list_append mt_append (pv 1) (@pa_cons _ _ _ _ _ (pv 2) pa_nil se_Name))) (@pss_one _ _ _ (ps_for PassesOwn.leaving rfl (pi_tupK (K := K) (pe_call (ok_blocks_of (fu := fu) T) (hr.mono (by (try simp only [Nat.add_eq]); omega)) rfl T.m_blocks_of T.F_blocks_of.kp T.b_blocks_of .nil passE (@pa_cons _ _ _ _ _ (pv 2) pa_nil se_Name))) (pg_name (i := 3) sc_deeds_within.nd rfl (Or.inl rfl)) (@pss_one _ _ _ (ps_expr (pe_bm PySem.F.plainAttrs_list PySem.F.slot_list_extend PySem.F.type_list_extend (mt_extendK (K := K)) (pv 1) (@pa_cons _ _ _ _ _ (pe_call ih (hr.mono (by (try simp only [Nat.add_eq]); omega)) rfl T.m_deeds_within T.F_deeds_within.kp T.b_deeds_within .nil passE (@pa_cons _ _ _ _ _ (pv 3) pa_nil se_Name)) pa_nil se_Call)))))))) (@pss_one _ _ _ (@ps_ret _ _ _ _ (pv 1))))), fn_tw (n := 1) (k := 3) (b := tb_deeds_within fu (tw_deeds_within fu n)) rfl (rs_seq (rs_asg (re_lst rl_nil) rg_name) (rs_seq (rs_for (ri_tup (re_var 0)) rg_name (rs_seq (rs_expr (re_mt rm_append (re_var 1) (rl_cons (re_var 2) rl_nil))) (rs_for (ri_tup (re_call (rl_cons (re_var 2) rl_nil))) rg_name (rs_expr (re_mt rm_extend (re_var 1) (rl_cons (re_call (rl_cons (re_var 3) rl_nil)) rl_nil)))))) (rs_ret (re_var 1)))) h⟩)
theorem ok_deeds_within (T : Tx K mg) (n : Nat) : FnOk P w K mg base (CXE P w) (1 + n) T.a_deeds_within T.fd_deeds_within ["block"] (sTw K 1 (tw_deeds_within fu n)) := (okg_deeds_within T n)
noncomputable def tb_stands_in (fu : Nat) : TwS := (sRet (eFn dAny [(eComp [none, some 1] (iL (eCall (tw_deeds_within fu 12) [(eVar 0)])) (gN 0) bTrue (eOp (dEqS false) (eOp dIxT (eVar 0) (eC (.int 0))) (eVar 1)))]))
noncomputable def tw_stands_in (fu : Nat) : TwF := runTw 2 0 (tb_stands_in fu)
theorem ok_stands_in (T : Tx K mg) : FnOk P w K mg base (CXE P w) 14 T.a_stands_in T.fd_stands_in ["block", "kind"] (sTw K 2 (tw_stands_in fu)) :=
 T.F_stands_in.okE sc_stands_in (fun vs H Q E h => h.1) (fun cdv A outer s H vs Q E hr h => ⟨_, (@pss_one _ _ _ (@ps_ret _ _ _ _ (pe_callB (call_anyK (K := K) rfl) rfl T.n_any PyProof.Rows.Boot.«any» (pa_cons (pe_comp (N' := ["deed", "kind"]) rfl (blk (osc := defScope s_stands_in) rfl (by decide +kernel)) (cap_own (cap_out (i := 1) rfl rfl cap_nil)) (pi_listK (K := K) (pe_call (ok_deeds_within (fu := fu) T 12) (hr.mono (by decide)) rfl T.m_deeds_within T.F_deeds_within.kp T.b_deeds_within .nil passE (@pa_cons _ _ _ _ _ (pv 0) pa_nil se_Name))) (gown_name rfl) (fun C s₀ H₀ fp => pg_name (i := 0) (show (["deed", "kind"] : List Str).Nodup from by decide +kernel) rfl (Or.inl rfl)) (fun C s₀ H₀ fp => pts_nil) (fun C s₀ H₀ fp => (pe_cmpR op_eq (@pe_ix _ _ _ _ _ _ _ (ix_tupK (K := K)) (pv 0) pe_int (fun _ _ => rfl)) (pv 1) (by rfl)))) pa_nil)))), fn_tw (n := 2) (k := 0) (b := tb_stands_in fu) rfl (rs_ret (re_fn rc_any (rl_cons (re_comp (cap := [none, some 1]) (ri_list (re_call (rl_cons (re_var 0) rl_nil))) rg_name rt_true (re_op r2_eqS (re_op r2_ixT (re_var 0) (re_int _)) (re_var 1))) rl_nil))) h⟩)
noncomputable def tb_is_bounded (fu : Nat) : TwS := (sRet (eB (bNot (bE (eCall (tw_stands_in fu) [(eVar 0), (eC (.str "while"))])))))
noncomputable def tw_is_bounded (fu : Nat) : TwF := runTw 1 0 (tb_is_bounded fu)
theorem ok_is_bounded (T : Tx K mg) : FnOk P w K mg base (CXE P w) 15 T.a_is_bounded T.fd_is_bounded ["block"] (sTw K 1 (tw_is_bounded fu)) :=
 T.F_is_bounded.okE sc_is_bounded (fun vs H Q E h => h.1) (fun cdv A outer s H vs Q E hr h => ⟨_, (@pss_one _ _ _ (@ps_ret _ _ _ _ (pe_not (pe_call (ok_stands_in (fu := fu) T) (hr.mono (by decide)) rfl T.m_stands_in T.F_stands_in.kp T.b_stands_in .nil passE (@pa_cons _ _ _ _ _ (pv 0) (@pa_cons _ _ _ _ _ pe_str pa_nil se_Constant) se_Name))))), fn_tw (n := 1) (k := 0) (b := tb_is_bounded fu) rfl (rs_ret (re_not (re_call (rl_cons (re_var 0) (rl_cons (re_str _) rl_nil))))) h⟩)
noncomputable def tb_Grower___init__ (fu : Nat) : TwS := (sSeq (sPutS "Grower" "boxes" (eVar 0) (eVar 1)) (sPutS "Grower" "leaves" (eVar 0) (eC (.int 0))))
noncomputable def tw_Grower___init__ (fu : Nat) : TwF := runTw 2 0 (tb_Grower___init__ fu)
theorem ok_Grower___init__ (T : Tx K mg) : FnOk P w K mg base (CXE P w) 1 T.a_Grower___init__ T.fd_Grower___init__ ["self", "boxes"] (sTw K 2 (tw_Grower___init__ fu)) :=
 T.F_Grower___init__.okE sc_Grower___init__ (fun vs H Q E h => h.1) (fun cdv A outer s H vs Q E hr h => ⟨_, (@pss_cons _ _ _ _ _ (ps_fld (pv 0) (pv 1) rfl) (@pss_one _ _ _ (ps_fld (pv 0) pe_int rfl))), fn_tw (n := 2) (k := 0) (b := tb_Grower___init__ fu) rfl (rs_seq (rs_putS T.ns_Grower T.cl_Grower T.n_Grower_boxes (re_var 0) (re_var 1)) (rs_putS T.ns_Grower T.cl_Grower T.n_Grower_leaves (re_var 0) (re_int _))) h⟩)
noncomputable def tb_Grower_counted (fu : Nat) : TwS := (sSeq (sAugS "Grower" "leaves" (eVar 0) (eC (.int 1))) (sSeq (sIf (bE (eOp dGt (eFldS "Grower" "leaves" (eVar 0)) (eC (.int 400)))) (sRaise "TooMany" [(eC (.str "the tree has too many leaves"))]) sNext) (sRet (eVar 1))))
noncomputable def tw_Grower_counted (fu : Nat) : TwF := runTw 2 0 (tb_Grower_counted fu)
theorem ok_Grower_counted (T : Tx K mg) : FnOk P w K mg base (CXE P w) 1 T.a_Grower_counted T.fd_Grower_counted ["self", "leaf"] (sTw K 2 (tw_Grower_counted fu)) :=
 T.F_Grower_counted.okE sc_Grower_counted (fun vs H Q E h => h.1) (fun cdv A outer s H vs Q E hr h => ⟨_, (@pss_cons _ _ _ _ _ (ps_fldaug (pv 0) pe_int in_add) (@pss_cons _ _ _ _ _ (ps_if (pt_cmp (pc_gt (pe_fld (pv 0) rfl) (match T.m_MOST_LEAVES with | ⟨t, h⟩ => pe_glob (v := .int 400) rfl h ⟨t, rfl⟩))) (@pss_one _ _ _ (ps_raise raisesE rfl rfl T.x_TooMany PySem.F.excBase_ValueError (@pa_cons _ _ _ _ _ pe_str pa_nil se_Constant))) pss_nil) (@pss_one _ _ _ (@ps_ret _ _ _ _ (pv 1))))), fn_tw (n := 2) (k := 0) (b := tb_Grower_counted fu) rfl (rs_seq (rs_augS T.ns_Grower T.cl_Grower T.n_Grower_leaves (re_var 0) (re_int _)) (rs_seq (rs_if (rt_e (re_gt (re_fldS T.ns_Grower T.cl_Grower T.n_Grower_leaves (re_var 0)) (re_int _))) (rs_raise T.ns_TooMany (rl_cons (re_str _) rl_nil)) rs_next) (rs_ret (re_var 1)))) h⟩)
noncomputable def tb_ahead_of (fu : Nat) : TwS := (sSeq (sFor (iRvt (eVar 0)) (gN 2) (sAsg (eTup [(eVar 2), (eVar 1)]) (gN 1))) (sRet (eVar 1)))
noncomputable def tw_ahead_of (fu : Nat) : TwF := runTw 2 1 (tb_ahead_of fu)
theorem ok_ahead_of (T : Tx K mg) : FnOk P w K mg base (CXE P w) 1 T.a_ahead_of T.fd_ahead_of ["block", "later"] (sTw K 2 (tw_ahead_of fu)) :=
 T.F_ahead_of.okE sc_ahead_of (fun vs H Q E h => h.1) (fun cdv A outer s H vs Q E hr h => ⟨_, (@pss_cons _ _ _ _ _ (ps_for PassesOwn.leaving rfl (pi_rvT (K := K) rfl T.n_reversed (@pa_cons _ _ _ _ _ (pv 0) pa_nil se_Name)) (pg_name (i := 2) sc_ahead_of.nd rfl (Or.inl rfl)) (@pss_one _ _ _ (@ps_set _ _ 1 _ _ _ _ sc_ahead_of.nd rfl (Or.inl rfl) (@pe_tup _ _ _ _ _ (@pa_cons _ _ _ _ _ (pv 2) (@pa_cons _ _ _ _ _ (pv 1) pa_nil se_Name) se_Name)) (by rfl) (by walk_at "q1")))) (@pss_one _ _ _ (@ps_ret _ _ _ _ (pv 1)))), fn_tw (n := 2) (k := 1) (b := tb_ahead_of fu) rfl (rs_seq (rs_for (ri_revT (re_var 0)) rg_name (rs_asg (re_tup (rl_cons (re_var 2) (rl_cons (re_var 1) rl_nil))) rg_name)) (rs_ret (re_var 1))) h⟩)
noncomputable def tb_Grower_tree_from (fu : Nat) (r_Grower_tree_from : TwF) (r_Grower_parts_from : TwF) (r_Grower_trees_from : TwF) : TwS := (sSeq (sWh fu (bE (eUn dNotN (eVar 1))) (sSeq (sAsg (eOp dIxT (eVar 1) (eC (.int 0))) (gN 4)) (sSeq (sAsg (eOp dIxT (eVar 1) (eC (.int 1))) (gN 1)) (sSeq (sIf (bE (eOp (dEqS false) (eOp dIxT (eVar 4) (eC (.int 0))) (eC (.str "draw")))) (sRet (eTup [(eC (.str "draw")), (eMethS "Grower" "parts_from" r_Grower_parts_from (eVar 0) [(eCall (tw_drawn fu) [(eFldS "Grower" "boxes" (eVar 0)), (eVar 2), (eOp dIxT (eVar 4) (eC (.int 1))), (eOp dIxT (eVar 4) (eC (.int 2)))]), (eVar 1), (eVar 3)])])) sNext) (sSeq (sIf (bE (eOp (dEqS false) (eOp dIxT (eVar 4) (eC (.int 0))) (eC (.str "hand")))) (sRet (eTup [(eC (.str "hand")), (eMethS "Grower" "trees_from" r_Grower_trees_from (eVar 0) [(eOp dIxT (eVar 4) (eC (.int 1))), (eVar 1), (eVar 2), (eVar 3)])])) sNext) (sSeq (sIf (bAnd (bE (eOp (dEqS false) (eOp dIxT (eVar 4) (eC (.int 0))) (eC (.str "look")))) (bNot (bE (eCall (tw_holds fu) [(eFldS "Grower" "boxes" (eVar 0)), (eVar 2), (eOp dIxT (eVar 4) (eC (.int 1)))])))) (sRet (eMethS "Grower" "counted" (tw_Grower_counted fu) (eVar 0) [(eTup [(eC (.str "lost")), (eVar 3)])])) sNext) (sIf (bE (eOp (dEqS false) (eOp dIxT (eVar 4) (eC (.int 0))) (eC (.str "set")))) (sAsg (eCall (tw_put_into fu) [(eFldS "Grower" "boxes" (eVar 0)), (eVar 2), (eOp dIxT (eVar 4) (eC (.int 1))), (eCall (tw_reckoned fu) [(eFldS "Grower" "boxes" (eVar 0)), (eVar 2), (eOp dIxT (eVar 4) (eC (.int 2)))])]) (gN 2)) (sIf (bE (eOp (dEqS false) (eOp dIxT (eVar 4) (eC (.int 0))) (eC (.str "gain")))) (sAsg (eOp dAdd (eVar 3) (eCall (tw_worth fu) [(eFldS "Grower" "boxes" (eVar 0)), (eVar 2), (eOp dIxT (eVar 4) (eC (.int 1)))])) (gN 3)) (sIf (bE (eOp (dEqS false) (eOp dIxT (eVar 4) (eC (.int 0))) (eC (.str "if")))) (sAsg (eCall (tw_ahead_of fu) [(eIf (bE (eCall (tw_holds fu) [(eFldS "Grower" "boxes" (eVar 0)), (eVar 2), (eOp dIxT (eVar 4) (eC (.int 1)))])) (eOp dIxT (eVar 4) (eC (.int 2))) (eOp dIxT (eVar 4) (eC (.int 3)))), (eVar 1)]) (gN 1)) (sIf (bE (eOp (dEqS false) (eOp dIxT (eVar 4) (eC (.int 0))) (eC (.str "times")))) (sFor (iR1 (eOp dIxT (eVar 4) (eC (.int 1)))) (gN 5) (sAsg (eCall (tw_ahead_of fu) [(eOp dIxT (eVar 4) (eC (.int 2))), (eVar 1)]) (gN 1))) sNext)))))))))) (sRet (eMethS "Grower" "counted" (tw_Grower_counted fu) (eVar 0) [(eTup [(eC (.str "end")), (eVar 2), (eVar 3)])])))
noncomputable def tb_Grower_parts_from (fu : Nat) (r_Grower_tree_from : TwF) (r_Grower_parts_from : TwF) (r_Grower_trees_from : TwF) : TwS := (sSeq (sAsg (eLst []) (gN 4)) (sSeq (sFor (iL (eVar 1)) (gT 2 (gsCons (gN 5) (gsCons (gN 6) gsNil))) (sExpr (eMt mAppend (eVar 4) [(eTup [(eVar 5), (eMethS "Grower" "tree_from" r_Grower_tree_from (eVar 0) [(eVar 2), (eVar 6), (eVar 3)])])]))) (sRet (eFn dTuple [(eVar 4)]))))
noncomputable def tb_Grower_trees_from (fu : Nat) (r_Grower_tree_from : TwF) (r_Grower_parts_from : TwF) (r_Grower_trees_from : TwF) : TwS := (sSeq (sAsg (eLst []) (gN 5)) (sSeq (sFor (iT (eVar 1)) (gN 6) (sExpr (eMt mAppend (eVar 5) [(eMethS "Grower" "tree_from" r_Grower_tree_from (eVar 0) [(eCall (tw_ahead_of fu) [(eVar 6), (eVar 2)]), (eVar 3), (eVar 4)])]))) (sRet (eFn dTuple [(eVar 5)]))))
mutual
noncomputable def tw_Grower_tree_from (fu : Nat) : Nat → TwF
 | 0 => fun _ _ => none
 | n + 1 => runTw 4 2 (tb_Grower_tree_from fu (tw_Grower_tree_from fu n) (tw_Grower_parts_from fu n) (tw_Grower_trees_from fu n))
noncomputable def tw_Grower_parts_from (fu : Nat) : Nat → TwF
 | 0 => fun _ _ => none
 | n + 1 => runTw 4 3 (tb_Grower_parts_from fu (tw_Grower_tree_from fu n) (tw_Grower_parts_from fu n) (tw_Grower_trees_from fu n))
noncomputable def tw_Grower_trees_from (fu : Nat) : Nat → TwF
 | 0 => fun _ _ => none
 | n + 1 => runTw 5 2 (tb_Grower_trees_from fu (tw_Grower_tree_from fu n) (tw_Grower_parts_from fu n) (tw_Grower_trees_from fu n))
end
theorem tw_Grower_tree_from_succ (fu n : Nat) : tw_Grower_tree_from fu (n + 1) = runTw 4 2 (tb_Grower_tree_from fu (tw_Grower_tree_from fu n) (tw_Grower_parts_from fu n) (tw_Grower_trees_from fu n)) := by rw [tw_Grower_tree_from]
theorem tw_Grower_tree_from_zero (fu : Nat) : tw_Grower_tree_from fu 0 = fun _ _ => none := by rw [tw_Grower_tree_from]
theorem tw_Grower_parts_from_succ (fu n : Nat) : tw_Grower_parts_from fu (n + 1) = runTw 4 3 (tb_Grower_parts_from fu (tw_Grower_tree_from fu n) (tw_Grower_parts_from fu n) (tw_Grower_trees_from fu n)) := by rw [tw_Grower_parts_from]
theorem tw_Grower_parts_from_zero (fu : Nat) : tw_Grower_parts_from fu 0 = fun _ _ => none := by rw [tw_Grower_parts_from]
theorem tw_Grower_trees_from_succ (fu n : Nat) : tw_Grower_trees_from fu (n + 1) = runTw 5 2 (tb_Grower_trees_from fu (tw_Grower_tree_from fu n) (tw_Grower_parts_from fu n) (tw_Grower_trees_from fu n)) := by rw [tw_Grower_trees_from]
theorem tw_Grower_trees_from_zero (fu : Nat) : tw_Grower_trees_from fu 0 = fun _ _ => none := by rw [tw_Grower_trees_from]
theorem okg_Grower_tree_from (T : Tx K mg) : ∀ n : Nat, FnOk P w K mg base (CXE P w) (4 + n) T.a_Grower_tree_from T.fd_Grower_tree_from ["self", "later", "state", "gain"] (sTw K 4 (tw_Grower_tree_from fu n)) ∧ FnOk P w K mg base (CXE P w) (4 + n) T.a_Grower_parts_from T.fd_Grower_parts_from ["self", "ways", "later", "gain"] (sTw K 4 (tw_Grower_parts_from fu n)) ∧ FnOk P w K mg base (CXE P w) (4 + n) T.a_Grower_trees_from T.fd_Grower_trees_from ["self", "blocks", "later", "state", "gain"] (sTw K 5 (tw_Grower_trees_from fu n)) := by
 intro n
 induction n with
 | zero =>
  refine ⟨?_, ?_, ?_⟩
  ·rw [tw_Grower_tree_from_zero]
   exact fn_none
  ·rw [tw_Grower_parts_from_zero]
   exact fn_none
  ·rw [tw_Grower_trees_from_zero]
   exact fn_none
 | succ n ih =>
  refine ⟨?_, ?_, ?_⟩
  ·rw [tw_Grower_tree_from_succ]
   exact T.F_Grower_tree_from.okE sc_Grower_tree_from (fun vs H Q E h => h.1) (fun cdv A outer s H vs Q E hr h => ⟨_, (@pss_cons _ _ _ _ _ (ps_while PassesOwn.leaving (pt_cmp (pc_notN (pv 1))) (@pss_cons _ _ _ _ _ (@ps_set _ _ 4 _ _ _ _ sc_Grower_tree_from.nd rfl (Or.inl rfl) (@pe_ix _ _ _ _ _ _ _ (ix_tupK (K := K)) (pv 1) pe_int (fun _ _ => rfl)) (by rfl) (by walk_at "q1")) (@pss_cons _ _ _ _ _ (@ps_set _ _ 1 _ _ _ _ sc_Grower_tree_from.nd rfl (Or.inl rfl) (@pe_ix _ _ _ _ _ _ _ (ix_tupK (K := K)) (pv 1) pe_int (fun _ _ => rfl)) (by rfl) (by walk_at "q1")) (@pss_cons _ _ _ _ _ (ps_if (pt_cmpR op_eq (@pe_ix _ _ _ _ _ _ _ (ix_tupK (K := K)) (pv 4) pe_int (fun _ _ => rfl)) pe_str (by rfl)) (@pss_one _ _ _ (@ps_ret _ _ _ _ (@pe_tup _ _ _ _ _ (@pa_cons _ _ _ _ _ pe_str (@pa_cons _ _ _ _ _ (pe_meth (pv 0) T.cl_Grower T.mt_Grower_parts_from ih.2.1 (hr.mono (by (try simp only [Nat.add_eq]); omega)) T.b_Grower_parts_from .nil passE (@pa_cons _ _ _ _ _ (pe_call (ok_drawn (fu := fu) T) (hr.mono (by (try simp only [Nat.add_eq]); omega)) rfl T.m_drawn T.F_drawn.kp T.b_drawn .nil passE (@pa_cons _ _ _ _ _ (pe_fld (pv 0) rfl) (@pa_cons _ _ _ _ _ (pv 2) (@pa_cons _ _ _ _ _ (@pe_ix _ _ _ _ _ _ _ (ix_tupK (K := K)) (pv 4) pe_int (fun _ _ => rfl)) (@pa_cons _ _ _ _ _ (@pe_ix _ _ _ _ _ _ _ (ix_tupK (K := K)) (pv 4) pe_int (fun _ _ => rfl)) pa_nil se_Subscript) se_Subscript) se_Name) se_Attribute)) (@pa_cons _ _ _ _ _ (pv 1) (@pa_cons _ _ _ _ _ (pv 3) pa_nil se_Name) se_Name) se_Call)) pa_nil se_Call) se_Constant)))) pss_nil) (@pss_cons _ _ _ _ _ (ps_if (pt_cmpR op_eq (@pe_ix _ _ _ _ _ _ _ (ix_tupK (K := K)) (pv 4) pe_int (fun _ _ => rfl)) pe_str (by rfl)) (@pss_one _ _ _ (@ps_ret _ _ _ _ (@pe_tup _ _ _ _ _ (@pa_cons _ _ _ _ _ pe_str (@pa_cons _ _ _ _ _ (pe_meth (pv 0) T.cl_Grower T.mt_Grower_trees_from ih.2.2 (hr.mono (by (try simp only [Nat.add_eq]); omega)) T.b_Grower_trees_from .nil passE (@pa_cons _ _ _ _ _ (@pe_ix _ _ _ _ _ _ _ (ix_tupK (K := K)) (pv 4) pe_int (fun _ _ => rfl)) (@pa_cons _ _ _ _ _ (pv 1) (@pa_cons _ _ _ _ _ (pv 2) (@pa_cons _ _ _ _ _ (pv 3) pa_nil se_Name) se_Name) se_Name) se_Subscript)) pa_nil se_Call) se_Constant)))) pss_nil) (@pss_cons _ _ _ _ _ (ps_if (PW.pt (pw_and (pt_cmpR op_eq (@pe_ix _ _ _ _ _ _ _ (ix_tupK (K := K)) (pv 4) pe_int (fun _ _ => rfl)) pe_str (by rfl)) (pw_and1 (pt_not (pt_val (pe_call (ok_holds (fu := fu) T) (hr.mono (by (try simp only [Nat.add_eq]); omega)) rfl T.m_holds T.F_holds.kp T.b_holds .nil passE (@pa_cons _ _ _ _ _ (pe_fld (pv 0) rfl) (@pa_cons _ _ _ _ _ (pv 2) (@pa_cons _ _ _ _ _ (@pe_ix _ _ _ _ _ _ _ (ix_tupK (K := K)) (pv 4) pe_int (fun _ _ => rfl)) pa_nil se_Subscript) se_Name) se_Attribute))))))) (@pss_one _ _ _ (@ps_ret _ _ _ _ (pe_meth (pv 0) T.cl_Grower T.mt_Grower_counted (ok_Grower_counted (fu := fu) T) (hr.mono (by (try simp only [Nat.add_eq]); omega)) T.b_Grower_counted .nil passE (@pa_cons _ _ _ _ _ (@pe_tup _ _ _ _ _ (@pa_cons _ _ _ _ _ pe_str (@pa_cons _ _ _ _ _ (pv 3) pa_nil se_Name) se_Constant)) pa_nil se_Tuple)))) pss_nil) (@pss_one _ _ _ (ps_if (pt_cmpR op_eq (@pe_ix _ _ _ _ _ _ _ (ix_tupK (K := K)) (pv 4) pe_int (fun _ _ => rfl)) pe_str (by rfl)) (@pss_one _ _ _ (@ps_set _ _ 2 _ _ _ _ sc_Grower_tree_from.nd rfl (Or.inl rfl) (pe_call (ok_put_into (fu := fu) T) (hr.mono (by (try simp only [Nat.add_eq]); omega)) rfl T.m_put_into T.F_put_into.kp T.b_put_into .nil passE (@pa_cons _ _ _ _ _ (pe_fld (pv 0) rfl) (@pa_cons _ _ _ _ _ (pv 2) (@pa_cons _ _ _ _ _ (@pe_ix _ _ _ _ _ _ _ (ix_tupK (K := K)) (pv 4) pe_int (fun _ _ => rfl)) (@pa_cons _ _ _ _ _ (pe_call (ok_reckoned (fu := fu) T) (hr.mono (by (try simp only [Nat.add_eq]); omega)) rfl T.m_reckoned T.F_reckoned.kp T.b_reckoned .nil passE (@pa_cons _ _ _ _ _ (pe_fld (pv 0) rfl) (@pa_cons _ _ _ _ _ (pv 2) (@pa_cons _ _ _ _ _ (@pe_ix _ _ _ _ _ _ _ (ix_tupK (K := K)) (pv 4) pe_int (fun _ _ => rfl)) pa_nil se_Subscript) se_Name) se_Attribute)) pa_nil se_Call) se_Subscript) se_Name) se_Attribute)) (by rfl) (by walk_at "q1"))) (@pss_one _ _ _ (ps_if (pt_cmpR op_eq (@pe_ix _ _ _ _ _ _ _ (ix_tupK (K := K)) (pv 4) pe_int (fun _ _ => rfl)) pe_str (by rfl)) (@pss_one _ _ _ (@ps_set _ _ 3 _ _ _ _ sc_Grower_tree_from.nd rfl (Or.inl rfl) (pe_op op_add (pv 3) (pe_call (ok_worth (fu := fu) T) (hr.mono (by (try simp only [Nat.add_eq]); omega)) rfl T.m_worth T.F_worth.kp T.b_worth .nil passE (@pa_cons _ _ _ _ _ (pe_fld (pv 0) rfl) (@pa_cons _ _ _ _ _ (pv 2) (@pa_cons _ _ _ _ _ (@pe_ix _ _ _ _ _ _ _ (ix_tupK (K := K)) (pv 4) pe_int (fun _ _ => rfl)) pa_nil se_Subscript) se_Name) se_Attribute))) (by rfl) (by walk_at "q1"))) (@pss_one _ _ _ (ps_if (pt_cmpR op_eq (@pe_ix _ _ _ _ _ _ _ (ix_tupK (K := K)) (pv 4) pe_int (fun _ _ => rfl)) pe_str (by rfl)) (@pss_one _ _ _ (@ps_set _ _ 1 _ _ _ _ sc_Grower_tree_from.nd rfl (Or.inl rfl) (pe_call (ok_ahead_of (fu := fu) T) (hr.mono (by (try simp only [Nat.add_eq]); omega)) rfl T.m_ahead_of T.F_ahead_of.kp T.b_ahead_of .nil passE (@pa_cons _ _ _ _ _ (pe_ifExp (pt_val (pe_call (ok_holds (fu := fu) T) (hr.mono (by (try simp only [Nat.add_eq]); omega)) rfl T.m_holds T.F_holds.kp T.b_holds .nil passE (@pa_cons _ _ _ _ _ (pe_fld (pv 0) rfl) (@pa_cons _ _ _ _ _ (pv 2) (@pa_cons _ _ _ _ _ (@pe_ix _ _ _ _ _ _ _ (ix_tupK (K := K)) (pv 4) pe_int (fun _ _ => rfl)) pa_nil se_Subscript) se_Name) se_Attribute))) (@pe_ix _ _ _ _ _ _ _ (ix_tupK (K := K)) (pv 4) pe_int (fun _ _ => rfl)) (@pe_ix _ _ _ _ _ _ _ (ix_tupK (K := K)) (pv 4) pe_int (fun _ _ => rfl))) (@pa_cons _ _ _ _ _ (pv 1) pa_nil se_Name) se_IfExp)) (by rfl) (by walk_at "q1"))) (@pss_one _ _ _ (ps_if (pt_cmpR op_eq (@pe_ix _ _ _ _ _ _ _ (ix_tupK (K := K)) (pv 4) pe_int (fun _ _ => rfl)) pe_str (by rfl)) (@pss_one _ _ _ (ps_for PassesOwn.leaving rfl (pi_range1 rfl T.n_range (@pa_cons _ _ _ _ _ (@pe_ix _ _ _ _ _ _ _ (ix_tupK (K := K)) (pv 4) pe_int (fun _ _ => rfl)) pa_nil se_Subscript)) (pg_name (i := 5) sc_Grower_tree_from.nd rfl (Or.inl rfl)) (@pss_one _ _ _ (@ps_set _ _ 1 _ _ _ _ sc_Grower_tree_from.nd rfl (Or.inl rfl) (pe_call (ok_ahead_of (fu := fu) T) (hr.mono (by (try simp only [Nat.add_eq]); omega)) rfl T.m_ahead_of T.F_ahead_of.kp T.b_ahead_of .nil passE (@pa_cons _ _ _ _ _ (@pe_ix _ _ _ _ _ _ _ (ix_tupK (K := K)) (pv 4) pe_int (fun _ _ => rfl)) (@pa_cons _ _ _ _ _ (pv 1) pa_nil se_Name) se_Subscript)) (by rfl) (by walk_at "q1"))))) pss_nil)))))))))))))) (@pss_one _ _ _ (@ps_ret _ _ _ _ (pe_meth (pv 0) T.cl_Grower T.mt_Grower_counted (ok_Grower_counted (fu := fu) T) (hr.mono (by (try simp only [Nat.add_eq]); omega)) T.b_Grower_counted .nil passE (@pa_cons _ _ _ _ _ (@pe_tup _ _ _ _ _ (@pa_cons _ _ _ _ _ pe_str (@pa_cons _ _ _ _ _ (pv 2) (@pa_cons _ _ _ _ _ (pv 3) pa_nil se_Name) se_Name) se_Constant)) pa_nil se_Tuple))))), fn_tw (n := 4) (k := 2) (b := tb_Grower_tree_from fu (tw_Grower_tree_from fu n) (tw_Grower_parts_from fu n) (tw_Grower_trees_from fu n)) rfl (rs_seq (rs_while (rt_e (re_notN (re_var 1))) (rs_seq (rs_asg (re_op r2_ixT (re_var 1) (re_int _)) rg_name) (rs_seq (rs_asg (re_op r2_ixT (re_var 1) (re_int _)) rg_name) (rs_seq (rs_if (rt_test (re_op r2_eqS (re_op r2_ixT (re_var 4) (re_int _)) (re_str _))) (rs_ret (re_tup (rl_cons (re_str _) (rl_cons (re_methS T.ns_Grower (re_var 0) (rl_cons (re_call (rl_cons (re_fldS T.ns_Grower T.cl_Grower T.n_Grower_boxes (re_var 0)) (rl_cons (re_var 2) (rl_cons (re_op r2_ixT (re_var 4) (re_int _)) (rl_cons (re_op r2_ixT (re_var 4) (re_int _)) rl_nil))))) (rl_cons (re_var 1) (rl_cons (re_var 3) rl_nil)))) rl_nil)))) rs_next) (rs_seq (rs_if (rt_test (re_op r2_eqS (re_op r2_ixT (re_var 4) (re_int _)) (re_str _))) (rs_ret (re_tup (rl_cons (re_str _) (rl_cons (re_methS T.ns_Grower (re_var 0) (rl_cons (re_op r2_ixT (re_var 4) (re_int _)) (rl_cons (re_var 1) (rl_cons (re_var 2) (rl_cons (re_var 3) rl_nil))))) rl_nil)))) rs_next) (rs_seq (rs_if (rt_and (rt_test (re_op r2_eqS (re_op r2_ixT (re_var 4) (re_int _)) (re_str _))) (rt_not (rt_e (re_call (rl_cons (re_fldS T.ns_Grower T.cl_Grower T.n_Grower_boxes (re_var 0)) (rl_cons (re_var 2) (rl_cons (re_op r2_ixT (re_var 4) (re_int _)) rl_nil))))))) (rs_ret (re_methS T.ns_Grower (re_var 0) (rl_cons (re_tup (rl_cons (re_str _) (rl_cons (re_var 3) rl_nil))) rl_nil))) rs_next) (rs_if (rt_test (re_op r2_eqS (re_op r2_ixT (re_var 4) (re_int _)) (re_str _))) (rs_asg (re_call (rl_cons (re_fldS T.ns_Grower T.cl_Grower T.n_Grower_boxes (re_var 0)) (rl_cons (re_var 2) (rl_cons (re_op r2_ixT (re_var 4) (re_int _)) (rl_cons (re_call (rl_cons (re_fldS T.ns_Grower T.cl_Grower T.n_Grower_boxes (re_var 0)) (rl_cons (re_var 2) (rl_cons (re_op r2_ixT (re_var 4) (re_int _)) rl_nil)))) rl_nil))))) rg_name) (rs_if (rt_test (re_op r2_eqS (re_op r2_ixT (re_var 4) (re_int _)) (re_str _))) (rs_asg (re_op r2_add (re_var 3) (re_call (rl_cons (re_fldS T.ns_Grower T.cl_Grower T.n_Grower_boxes (re_var 0)) (rl_cons (re_var 2) (rl_cons (re_op r2_ixT (re_var 4) (re_int _)) rl_nil))))) rg_name) (rs_if (rt_test (re_op r2_eqS (re_op r2_ixT (re_var 4) (re_int _)) (re_str _))) (rs_asg (re_call (rl_cons (re_if (rt_e (re_call (rl_cons (re_fldS T.ns_Grower T.cl_Grower T.n_Grower_boxes (re_var 0)) (rl_cons (re_var 2) (rl_cons (re_op r2_ixT (re_var 4) (re_int _)) rl_nil))))) (re_op r2_ixT (re_var 4) (re_int _)) (re_op r2_ixT (re_var 4) (re_int _))) (rl_cons (re_var 1) rl_nil))) rg_name) (rs_if (rt_test (re_op r2_eqS (re_op r2_ixT (re_var 4) (re_int _)) (re_str _))) (rs_for (ri_range1 (re_op r2_ixT (re_var 4) (re_int _))) rg_name (rs_asg (re_call (rl_cons (re_op r2_ixT (re_var 4) (re_int _)) (rl_cons (re_var 1) rl_nil))) rg_name)) rs_next)))))))))) (rs_ret (re_methS T.ns_Grower (re_var 0) (rl_cons (re_tup (rl_cons (re_str _) (rl_cons (re_var 2) (rl_cons (re_var 3) rl_nil)))) rl_nil)))) h⟩)
  ·rw [tw_Grower_parts_from_succ]
   exact T.F_Grower_parts_from.okE sc_Grower_parts_from (fun vs H Q E h => h.1) (fun cdv A outer s H vs Q E hr h => ⟨_, (@pss_cons _ _ _ _ _ (@ps_set _ _ 4 _ _ _ _ sc_Grower_parts_from.nd rfl (Or.inl rfl) (@pe_lst _ _ _ _ pa_nil) (by rfl) (by walk_at "q1")) (@pss_cons _ _ _ _ _ (ps_for PassesOwn.leaving rfl (pi_listK (K := K) (pv 1)) (pg_tupK (K := K) (n := 2) rfl (pgs_cons (pg_name (i := 5) sc_Grower_parts_from.nd rfl (Or.inl rfl)) (pgs_cons (pg_name (i := 6) sc_Grower_parts_from.nd rfl (Or.inl rfl)) pgs_nil))) (@pss_one _ _ _ (ps_expr (pe_bm PySem.F.plainAttrs_list PySem.F.slot_list_append PySem.F.type_list_append mt_append (pv 4) (@pa_cons _ _ _ _ _ (@pe_tup _ _ _ _ _ (@pa_cons _ _ _ _ _ (pv 5) (@pa_cons _ _ _ _ _ (pe_meth (pv 0) T.cl_Grower T.mt_Grower_tree_from ih.1 (hr.mono (by (try simp only [Nat.add_eq]); omega)) T.b_Grower_tree_from .nil passE (@pa_cons _ _ _ _ _ (pv 2) (@pa_cons _ _ _ _ _ (pv 6) (@pa_cons _ _ _ _ _ (pv 3) pa_nil se_Name) se_Name) se_Name)) pa_nil se_Call) se_Name)) pa_nil se_Tuple))))) (@pss_one _ _ _ (@ps_ret _ _ _ _ (pe_callTy (call_tupleK (K := K)) rfl T.n_tuple boot_tuple (@pa_cons _ _ _ _ _ (pv 4) pa_nil se_Name)))))), fn_tw (n := 4) (k := 3) (b := tb_Grower_parts_from fu (tw_Grower_tree_from fu n) (tw_Grower_parts_from fu n) (tw_Grower_trees_from fu n)) rfl (rs_seq (rs_asg (re_lst rl_nil) rg_name) (rs_seq (rs_for (ri_list (re_var 1)) (rg_tup (rgs_cons rg_name (rgs_cons rg_name rgs_nil))) (rs_expr (re_mt rm_append (re_var 4) (rl_cons (re_tup (rl_cons (re_var 5) (rl_cons (re_methS T.ns_Grower (re_var 0) (rl_cons (re_var 2) (rl_cons (re_var 6) (rl_cons (re_var 3) rl_nil)))) rl_nil))) rl_nil)))) (rs_ret (re_fn rc_tuple (rl_cons (re_var 4) rl_nil))))) h⟩)
  ·rw [tw_Grower_trees_from_succ]
   exact T.F_Grower_trees_from.okE sc_Grower_trees_from (fun vs H Q E h => h.1) (fun cdv A outer s H vs Q E hr h => ⟨_, (@pss_cons _ _ _ _ _ (@ps_set _ _ 5 _ _ _ _ sc_Grower_trees_from.nd rfl (Or.inl rfl) (@pe_lst _ _ _ _ pa_nil) (by rfl) (by walk_at "q1")) (@pss_cons _ _ _ _ _ (ps_for PassesOwn.leaving rfl (pi_tupK (K := K) (pv 1)) (pg_name (i := 6) sc_Grower_trees_from.nd rfl (Or.inl rfl)) (@pss_one _ _ _ (ps_expr (pe_bm PySem.F.plainAttrs_list PySem.F.slot_list_append PySem.F.type_list_append mt_append (pv 5) (@pa_cons _ _ _ _ _ (pe_meth (pv 0) T.cl_Grower T.mt_Grower_tree_from ih.1 (hr.mono (by (try simp only [Nat.add_eq]); omega)) T.b_Grower_tree_from .nil passE (@pa_cons _ _ _ _ _ (pe_call (ok_ahead_of (fu := fu) T) (hr.mono (by (try simp only [Nat.add_eq]); omega)) rfl T.m_ahead_of T.F_ahead_of.kp T.b_ahead_of .nil passE (@pa_cons _ _ _ _ _ (pv 6) (@pa_cons _ _ _ _ _ (pv 2) pa_nil se_Name) se_Name)) (@pa_cons _ _ _ _ _ (pv 3) (@pa_cons _ _ _ _ _ (pv 4) pa_nil se_Name) se_Name) se_Call)) pa_nil se_Call))))) (@pss_one _ _ _ (@ps_ret _ _ _ _ (pe_callTy (call_tupleK (K := K)) rfl T.n_tuple boot_tuple (@pa_cons _ _ _ _ _ (pv 5) pa_nil se_Name)))))), fn_tw (n := 5) (k := 2) (b := tb_Grower_trees_from fu (tw_Grower_tree_from fu n) (tw_Grower_parts_from fu n) (tw_Grower_trees_from fu n)) rfl (rs_seq (rs_asg (re_lst rl_nil) rg_name) (rs_seq (rs_for (ri_tup (re_var 1)) rg_name (rs_expr (re_mt rm_append (re_var 5) (rl_cons (re_methS T.ns_Grower (re_var 0) (rl_cons (re_call (rl_cons (re_var 6) (rl_cons (re_var 2) rl_nil))) (rl_cons (re_var 3) (rl_cons (re_var 4) rl_nil)))) rl_nil)))) (rs_ret (re_fn rc_tuple (rl_cons (re_var 5) rl_nil))))) h⟩)
theorem ok_Grower_tree_from (T : Tx K mg) (n : Nat) : FnOk P w K mg base (CXE P w) (4 + n) T.a_Grower_tree_from T.fd_Grower_tree_from ["self", "later", "state", "gain"] (sTw K 4 (tw_Grower_tree_from fu n)) := (okg_Grower_tree_from T n).1
noncomputable def tb_tree_of (fu : Nat) : TwS := (sSeq (sIf (bNot (bE (eCall (tw_is_bounded fu) [(eOp dIxT (eVar 0) (eC (.int 1)))]))) (sRaise "NoBound" [(eC (.str "a while stands in the program"))]) sNext) (sRet (eMethS "Grower" "tree_from" (tw_Grower_tree_from fu 80) (eMakeS "Grower" (tw_Grower___init__ fu) [(eOp dIxT (eVar 0) (eC (.int 0)))]) [(eCall (tw_ahead_of fu) [(eOp dIxT (eVar 0) (eC (.int 1))), (eC .non)]), (eVar 1), (eC (.int 0))])))
noncomputable def tw_tree_of (fu : Nat) : TwF := runTw 2 0 (tb_tree_of fu)
theorem ok_tree_of (T : Tx K mg) : FnOk P w K mg base (CXE P w) 85 T.a_tree_of T.fd_tree_of ["program", "state"] (sTw K 2 (tw_tree_of fu)) :=
 T.F_tree_of.okE sc_tree_of (fun vs H Q E h => h.1) (fun cdv A outer s H vs Q E hr h => ⟨_, (@pss_cons _ _ _ _ _ (ps_if (pt_not (pt_val (pe_call (ok_is_bounded (fu := fu) T) (hr.mono (by decide)) rfl T.m_is_bounded T.F_is_bounded.kp T.b_is_bounded .nil passE (@pa_cons _ _ _ _ _ (@pe_ix _ _ _ _ _ _ _ (ix_tupK (K := K)) (pv 0) pe_int (fun _ _ => rfl)) pa_nil se_Subscript)))) (@pss_one _ _ _ (ps_raise raisesE rfl rfl T.x_NoBound PySem.F.excBase_ValueError (@pa_cons _ _ _ _ _ pe_str pa_nil se_Constant))) pss_nil) (@pss_one _ _ _ (@ps_ret _ _ _ _ (pe_meth (pe_make T.mk_Grower (ok_Grower___init__ (fu := fu) T) (hr.mono (by decide)) rfl T.m_Grower T.b_Grower___init__ .nil passE (@pa_cons _ _ _ _ _ (@pe_ix _ _ _ _ _ _ _ (ix_tupK (K := K)) (pv 0) pe_int (fun _ _ => rfl)) pa_nil se_Subscript)) T.cl_Grower T.mt_Grower_tree_from (ok_Grower_tree_from (fu := fu) T 80) (hr.mono (by decide)) T.b_Grower_tree_from .nil passE (@pa_cons _ _ _ _ _ (pe_call (ok_ahead_of (fu := fu) T) (hr.mono (by decide)) rfl T.m_ahead_of T.F_ahead_of.kp T.b_ahead_of .nil passE (@pa_cons _ _ _ _ _ (@pe_ix _ _ _ _ _ _ _ (ix_tupK (K := K)) (pv 0) pe_int (fun _ _ => rfl)) (@pa_cons _ _ _ _ _ pe_non pa_nil se_Constant) se_Subscript)) (@pa_cons _ _ _ _ _ (pv 1) (@pa_cons _ _ _ _ _ pe_int pa_nil se_Constant) se_Name) se_Call))))), fn_tw (n := 2) (k := 0) (b := tb_tree_of fu) rfl (rs_seq (rs_if (rt_not (rt_e (re_call (rl_cons (re_op r2_ixT (re_var 0) (re_int _)) rl_nil)))) (rs_raise T.ns_NoBound (rl_cons (re_str _) rl_nil)) rs_next) (rs_ret (re_methS T.ns_Grower (re_makeS T.ns_Grower (rl_cons (re_op r2_ixT (re_var 0) (re_int _)) rl_nil)) (rl_cons (re_call (rl_cons (re_op r2_ixT (re_var 0) (re_int _)) (rl_cons re_non rl_nil))) (rl_cons (re_var 1) (rl_cons (re_int _) rl_nil)))))) h⟩)
noncomputable def tb__law_take (fu : Nat) : TwS := (sSeq (sIf (bE (eOp dEqI (eFn dLen [(eVar 0)]) (eC (.int 0)))) (sRet (eC (.int 0))) sNext) (sRet (eOp dMod (eMt mPop (eVar 0) []) (eVar 1))))
noncomputable def tw__law_take (fu : Nat) : TwF := runTw 2 0 (tb__law_take fu)
theorem ok__law_take (T : Tx K mg) : FnOk P w K mg base (CXE P w) 1 T.a__law_take T.fd__law_take ["_law_left", "_law_many_here"] (sTw K 2 (tw__law_take fu)) :=
 T.F__law_take.okE sc__law_take (fun vs H Q E h => h.1) (fun cdv A outer s H vs Q E hr h => ⟨_, (@pss_cons _ _ _ _ _ (ps_if (pt_cmp (pc_eqI (pe_callB (call_lenK (K := K)) rfl T.n_len boot_len (@pa_cons _ _ _ _ _ (pv 0) pa_nil se_Name)) pe_int)) (@pss_one _ _ _ (@ps_ret _ _ _ _ pe_int)) pss_nil) (@pss_one _ _ _ (@ps_ret _ _ _ _ (pe_op op_mod (pe_bm0 PySem.F.plainAttrs_list PySem.F.slot_list_pop PySem.F.type_list_pop mt_pop (pv 0)) (pv 1))))), fn_tw (n := 2) (k := 0) (b := tb__law_take fu) rfl (rs_seq (rs_if (rt_e (re_eqI (re_fn rc_len (rl_cons (re_var 0) rl_nil)) (re_int _))) (rs_ret (re_int _)) rs_next) (rs_ret (re_op r2_mod (re_mt0 rm_pop (re_var 0)) (re_var 1)))) h⟩)
noncomputable def tb__law_same (fu : Nat) (r__law_same : TwF) : TwS := (sSeq (sIf (bE (eUn (dIsi "tuple") (eVar 1))) (sSeq (sIf (bOr (bNot (bE (eUn (dIsi "tuple") (eVar 0)))) (bE (eOp dNeI (eFn dLen [(eVar 0)]) (eFn dLen [(eVar 1)])))) (sRet (eC (.bl false))) sNext) (sRet (eFn dAll [(eComp [none, some 0, some 1] (iR1 (eFn dLen [(eVar 1)])) (gN 0) bTrue (eCall r__law_same [(eOp dIxA (eVar 1) (eVar 0)), (eOp dIxA (eVar 2) (eVar 0))]))]))) sNext) (sSeq (sIf (bE (eUn (dIsi "list") (eVar 1))) (sSeq (sIf (bOr (bNot (bE (eUn (dIsi "list") (eVar 0)))) (bE (eOp dNeI (eFn dLen [(eVar 0)]) (eFn dLen [(eVar 1)])))) (sRet (eC (.bl false))) sNext) (sRet (eFn dAll [(eComp [none, some 0, some 1] (iR1 (eFn dLen [(eVar 1)])) (gN 0) bTrue (eCall r__law_same [(eOp dIxA (eVar 1) (eVar 0)), (eOp dIxA (eVar 2) (eVar 0))]))]))) sNext) (sSeq (sIf (bE (eUn dIsN (eVar 1))) (sRet (eUn dIsN (eVar 0))) sNext) (sSeq (sIf (bE (eUn (dIsi "str") (eVar 1))) (sRet (eAnd (eUn (dIsi "str") (eVar 0)) (eOp (dEqS false) (eVar 0) (eVar 1)))) sNext) (sRet (eAnd (eUn (dIsi "int") (eVar 0)) (eAnd (eB (bNot (bE (eUn (dIsi "bool") (eVar 0))))) (eOp (dEqS false) (eVar 0) (eVar 1)))))))))
noncomputable def tw__law_same (fu : Nat) : Nat → TwF
 | 0 => fun _ _ => none
 | n + 1 => runTw 2 0 (tb__law_same fu (tw__law_same fu n))
theorem tw__law_same_succ (fu n : Nat) : tw__law_same fu (n + 1) = runTw 2 0 (tb__law_same fu (tw__law_same fu n)) := by rfl
theorem tw__law_same_zero (fu : Nat) : tw__law_same fu 0 = fun _ _ => none := by rfl
theorem okg__law_same (T : Tx K mg) : ∀ n : Nat, FnOk P w K mg base (CXE P w) (0 + n) T.a__law_same T.fd__law_same ["_law_found", "_law_due"] (sTw K 2 (tw__law_same fu n)) := by
 intro n
 induction n with
 | zero =>
  skip
  ·rw [tw__law_same_zero]
   exact fn_none
 | succ n ih =>
  ·rw [tw__law_same_succ]
   exact T.F__law_same.okE sc__law_same (fun vs H Q E h => h.1) (fun cdv A outer s H vs Q E hr h => ⟨_, (@pss_cons _ _ _ _ _ (ps_if (pt_val (pe_callB (call_isiK (K := K)) rfl T.n_isinstance boot_isinstance (pa_cons (pv 1) (pa_cons (pe_bltn (v := .ty "tuple") rfl T.n_tuple boot_tuple rfl) pa_nil)))) (@pss_cons _ _ _ _ _ (ps_if (PW.pt (pw_or (pt_not (pt_val (pe_callB (call_isiK (K := K)) rfl T.n_isinstance boot_isinstance (pa_cons (pv 0) (pa_cons (pe_bltn (v := .ty "tuple") rfl T.n_tuple boot_tuple rfl) pa_nil))))) (pw_or1 (pt_cmp (pc_neI (pe_callB (call_lenK (K := K)) rfl T.n_len boot_len (@pa_cons _ _ _ _ _ (pv 0) pa_nil se_Name)) (pe_callB (call_lenK (K := K)) rfl T.n_len boot_len (@pa_cons _ _ _ _ _ (pv 1) pa_nil se_Name))))))) (@pss_one _ _ _ (@ps_ret _ _ _ _ pe_bl)) pss_nil) (@pss_one _ _ _ (@ps_ret _ _ _ _ (pe_callB (call_allK (K := K) rfl) rfl T.n_all PyProof.Rows.Boot.«all» (pa_cons (pe_comp (N' := ["_law_k", "_law_found", "_law_due"]) rfl (blk (osc := defScope s__law_same) rfl (by decide +kernel)) (cap_own (cap_out (i := 0) rfl rfl (cap_out (i := 1) rfl rfl cap_nil))) (pi_range1 rfl T.n_range (@pa_cons _ _ _ _ _ (pe_callB (call_lenK (K := K)) rfl T.n_len boot_len (@pa_cons _ _ _ _ _ (pv 1) pa_nil se_Name)) pa_nil se_Call)) (gown_name rfl) (fun C s₀ H₀ fp => pg_name (i := 0) (show (["_law_k", "_law_found", "_law_due"] : List Str).Nodup from by decide +kernel) rfl (Or.inl rfl)) (fun C s₀ H₀ fp => pts_nil) (fun C s₀ H₀ fp => (pe_call ih (hr.mono (by (try simp only [Nat.add_eq]); omega)) rfl T.m__law_same T.F__law_same.kp T.b__law_same .nil passF (@pa_cons _ _ _ _ _ (@pe_ix _ _ _ _ _ _ _ (ix_seqK (K := K)) (pv 1) (pv 0) (fun _ _ => rfl)) (@pa_cons _ _ _ _ _ (@pe_ix _ _ _ _ _ _ _ (ix_seqK (K := K)) (pv 2) (pv 0) (fun _ _ => rfl)) pa_nil se_Subscript) se_Subscript)))) pa_nil))))) pss_nil) (@pss_cons _ _ _ _ _ (ps_if (pt_val (pe_callB (call_isiK (K := K)) rfl T.n_isinstance boot_isinstance (pa_cons (pv 1) (pa_cons (pe_bltn (v := .ty "list") rfl T.n_list boot_list rfl) pa_nil)))) (@pss_cons _ _ _ _ _ (ps_if (PW.pt (pw_or (pt_not (pt_val (pe_callB (call_isiK (K := K)) rfl T.n_isinstance boot_isinstance (pa_cons (pv 0) (pa_cons (pe_bltn (v := .ty "list") rfl T.n_list boot_list rfl) pa_nil))))) (pw_or1 (pt_cmp (pc_neI (pe_callB (call_lenK (K := K)) rfl T.n_len boot_len (@pa_cons _ _ _ _ _ (pv 0) pa_nil se_Name)) (pe_callB (call_lenK (K := K)) rfl T.n_len boot_len (@pa_cons _ _ _ _ _ (pv 1) pa_nil se_Name))))))) (@pss_one _ _ _ (@ps_ret _ _ _ _ pe_bl)) pss_nil) (@pss_one _ _ _ (@ps_ret _ _ _ _ (pe_callB (call_allK (K := K) rfl) rfl T.n_all PyProof.Rows.Boot.«all» (pa_cons (pe_comp (N' := ["_law_k", "_law_found", "_law_due"]) rfl (blk (osc := defScope s__law_same) rfl (by decide +kernel)) (cap_own (cap_out (i := 0) rfl rfl (cap_out (i := 1) rfl rfl cap_nil))) (pi_range1 rfl T.n_range (@pa_cons _ _ _ _ _ (pe_callB (call_lenK (K := K)) rfl T.n_len boot_len (@pa_cons _ _ _ _ _ (pv 1) pa_nil se_Name)) pa_nil se_Call)) (gown_name rfl) (fun C s₀ H₀ fp => pg_name (i := 0) (show (["_law_k", "_law_found", "_law_due"] : List Str).Nodup from by decide +kernel) rfl (Or.inl rfl)) (fun C s₀ H₀ fp => pts_nil) (fun C s₀ H₀ fp => (pe_call ih (hr.mono (by (try simp only [Nat.add_eq]); omega)) rfl T.m__law_same T.F__law_same.kp T.b__law_same .nil passF (@pa_cons _ _ _ _ _ (@pe_ix _ _ _ _ _ _ _ (ix_seqK (K := K)) (pv 1) (pv 0) (fun _ _ => rfl)) (@pa_cons _ _ _ _ _ (@pe_ix _ _ _ _ _ _ _ (ix_seqK (K := K)) (pv 2) (pv 0) (fun _ _ => rfl)) pa_nil se_Subscript) se_Subscript)))) pa_nil))))) pss_nil) (@pss_cons _ _ _ _ _ (ps_if (pt_cmp (pc_isN (pv 1))) (@pss_one _ _ _ (@ps_ret _ _ _ _ (pe_cmp (pc_isN (pv 0))))) pss_nil) (@pss_cons _ _ _ _ _ (ps_if (pt_val (pe_callB (call_isiK (K := K)) rfl T.n_isinstance boot_isinstance (pa_cons (pv 1) (pa_cons (pe_bltn (v := .ty "str") rfl T.n_str boot_str rfl) pa_nil)))) (@pss_one _ _ _ (@ps_ret _ _ _ _ (pe_and (pe_callB (call_isiK (K := K)) rfl T.n_isinstance boot_isinstance (pa_cons (pv 0) (pa_cons (pe_bltn (v := .ty "str") rfl T.n_str boot_str rfl) pa_nil))) (pe_one (pe_cmpR op_eq (pv 0) (pv 1) (by rfl)))))) pss_nil) (@pss_one _ _ _ (@ps_ret _ _ _ _ (pe_and (pe_callB (call_isiK (K := K)) rfl T.n_isinstance boot_isinstance (pa_cons (pv 0) (pa_cons (pe_bltn (v := .ty "int") rfl T.n_int boot_int rfl) pa_nil))) (pe_and (pe_not (pe_callB (call_isiK (K := K)) rfl T.n_isinstance boot_isinstance (pa_cons (pv 0) (pa_cons (pe_bltn (v := .ty "bool") rfl T.n_bool boot_bool rfl) pa_nil)))) (pe_one (pe_cmpR op_eq (pv 0) (pv 1) (by rfl))))))))))), fn_tw (n := 2) (k := 0) (b := tb__law_same fu (tw__law_same fu n)) rfl (rs_seq (rs_if (rt_e (re_isi isi_tuple (re_var 1))) (rs_seq (rs_if (rt_or (rt_not (rt_e (re_isi isi_tuple (re_var 0)))) (rt_e (re_neI (re_fn rc_len (rl_cons (re_var 0) rl_nil)) (re_fn rc_len (rl_cons (re_var 1) rl_nil))))) (rs_ret (re_bl _)) rs_next) (rs_ret (re_fn rc_all (rl_cons (re_comp (cap := [none, some 0, some 1]) (ri_range1 (re_fn rc_len (rl_cons (re_var 1) rl_nil))) rg_name rt_true (re_call (rl_cons (re_op r2_ixA (re_var 1) (re_var 0)) (rl_cons (re_op r2_ixA (re_var 2) (re_var 0)) rl_nil)))) rl_nil)))) rs_next) (rs_seq (rs_if (rt_e (re_isi isi_list (re_var 1))) (rs_seq (rs_if (rt_or (rt_not (rt_e (re_isi isi_list (re_var 0)))) (rt_e (re_neI (re_fn rc_len (rl_cons (re_var 0) rl_nil)) (re_fn rc_len (rl_cons (re_var 1) rl_nil))))) (rs_ret (re_bl _)) rs_next) (rs_ret (re_fn rc_all (rl_cons (re_comp (cap := [none, some 0, some 1]) (ri_range1 (re_fn rc_len (rl_cons (re_var 1) rl_nil))) rg_name rt_true (re_call (rl_cons (re_op r2_ixA (re_var 1) (re_var 0)) (rl_cons (re_op r2_ixA (re_var 2) (re_var 0)) rl_nil)))) rl_nil)))) rs_next) (rs_seq (rs_if (rt_e (re_isN (re_var 1))) (rs_ret (re_isN (re_var 0))) rs_next) (rs_seq (rs_if (rt_e (re_isi isi_str (re_var 1))) (rs_ret (re_and (re_isi isi_str (re_var 0)) (re_op r2_eqS (re_var 0) (re_var 1)))) rs_next) (rs_ret (re_and (re_isi isi_int (re_var 0)) (re_and (re_not (re_isi isi_bool (re_var 0))) (re_op r2_eqS (re_var 0) (re_var 1))))))))) h⟩)
theorem ok__law_same (T : Tx K mg) (n : Nat) : FnOk P w K mg base (CXE P w) (0 + n) T.a__law_same T.fd__law_same ["_law_found", "_law_due"] (sTw K 2 (tw__law_same fu n)) := (okg__law_same T n)
noncomputable def tb__law_many (fu : Nat) : TwS := (sSeq (sAsg (eTup []) (gN 3)) (sSeq (sFor (iL (eVar 2)) (gN 4) (sSeq (sAsg (eOp dIxL (eLst [(eC (.int 0)), (eC (.int 1)), (eC (.int 2))]) (eCall (tw__law_take fu) [(eVar 0), (eC (.int 3))])) (gN 5)) (sIf (bAnd (bE (eOp dEqI (eCall (tw__law_take fu) [(eVar 0), (eC (.int 2))]) (eC (.int 1)))) (bE (eOp dEqI (eOp dIxT (eOp dIxT (eVar 1) (eVar 5)) (eC (.int 1))) (eVar 4)))) (sSeq (sAsg (eComp [none, some 0] (iR1 (eVar 4)) (gN 0) bTrue (eOp dAdd (eC (.int 1)) (eCall (tw__law_take fu) [(eVar 1), (eC (.int 9))]))) (gN 6)) (sAsg (eOp dCatT (eVar 3) (eTup [(eTup [(eC (.str "draw")), (eOp dIxT (eOp dIxT (eVar 1) (eVar 5)) (eC (.int 0))), (eFn dTuple [(eVar 6)])])])) (gN 3))) (sSeq (sAsg (eLst [(eTup []), (eTup [(eTup [(eC (.str "pass"))])]), (eTup [(eTup [(eC (.str "gain")), (eC (.int 7))])]), (eTup [(eTup [(eC (.str "set")), (eOp dIxT (eOp dIxT (eVar 1) (eVar 5)) (eC (.int 0))), (eTup [(eC (.int 3))])])])]) (gN 7)) (sAsg (eOp dCatT (eVar 3) (eTup [(eTup [(eC (.str "hand")), (eFn dTuple [(eComp [none, some 7, some 0] (iR1 (eVar 4)) (gN 0) bTrue (eOp dIxL (eVar 1) (eCall (tw__law_take fu) [(eVar 2), (eC (.int 4))])))])])])) (gN 3)))))) (sRet (eVar 3))))
noncomputable def tw__law_many (fu : Nat) : TwF := runTw 3 5 (tb__law_many fu)
theorem ok__law_many (T : Tx K mg) : FnOk P w K mg base (CXE P w) 2 T.a__law_many T.fd__law_many ["_law_left", "_law_boxes", "_law_sizes"] (sTw K 3 (tw__law_many fu)) :=
 T.F__law_many.okE sc__law_many (fun vs H Q E h => h.1) (fun cdv A outer s H vs Q E hr h => ⟨_, (@pss_cons _ _ _ _ _ (@ps_set _ _ 3 _ _ _ _ sc__law_many.nd rfl (Or.inl rfl) (@pe_tup _ _ _ _ _ pa_nil) (by rfl) (by walk_at "q1")) (@pss_cons _ _ _ _ _ (ps_for PassesOwn.leaving rfl (pi_listK (K := K) (pv 2)) (pg_name (i := 4) sc__law_many.nd rfl (Or.inl rfl)) (@pss_cons _ _ _ _ _ (@ps_set _ _ 5 _ _ _ _ sc__law_many.nd rfl (Or.inl rfl) (@pe_ix _ _ _ _ _ _ _ (ix_listK (K := K)) (@pe_lst _ _ _ _ (@pa_cons _ _ _ _ _ pe_int (@pa_cons _ _ _ _ _ pe_int (@pa_cons _ _ _ _ _ pe_int pa_nil se_Constant) se_Constant) se_Constant)) (pe_call (ok__law_take (fu := fu) T) (hr.mono (by decide)) rfl T.m__law_take T.F__law_take.kp T.b__law_take .nil passE (@pa_cons _ _ _ _ _ (pv 0) (@pa_cons _ _ _ _ _ pe_int pa_nil se_Constant) se_Name)) (fun _ _ => rfl)) (by rfl) (by walk_at "q1")) (@pss_one _ _ _ (ps_if (PW.pt (pw_and (pt_cmp (pc_eqI (pe_call (ok__law_take (fu := fu) T) (hr.mono (by decide)) rfl T.m__law_take T.F__law_take.kp T.b__law_take .nil passE (@pa_cons _ _ _ _ _ (pv 0) (@pa_cons _ _ _ _ _ pe_int pa_nil se_Constant) se_Name)) pe_int)) (pw_and1 (pt_cmp (pc_eqI (@pe_ix _ _ _ _ _ _ _ (ix_tupK (K := K)) (@pe_ix _ _ _ _ _ _ _ (ix_tupK (K := K)) (pv 1) (pv 5) (fun _ _ => rfl)) pe_int (fun _ _ => rfl)) (pv 4)))))) (@pss_cons _ _ _ _ _ (ps_setComp (i := 6) (N' := ["_law_k", "_law_left"]) rfl (blk (osc := defScope s__law_many) rfl (by decide +kernel)) (cap_own (cap_out (i := 0) rfl rfl cap_nil)) (pi_range1 rfl T.n_range (@pa_cons _ _ _ _ _ (pv 4) pa_nil se_Name)) (gown_name rfl) (fun C s₀ H₀ fp => pg_name (i := 0) (show (["_law_k", "_law_left"] : List Str).Nodup from by decide +kernel) rfl (Or.inl rfl)) (fun C s₀ H₀ fp => pts_nil) (fun C s₀ H₀ fp => (pe_op op_add pe_int (pe_call (ok__law_take (fu := fu) T) (hr.mono (by decide)) rfl T.m__law_take T.F__law_take.kp T.b__law_take .nil passF (@pa_cons _ _ _ _ _ (pv 1) (@pa_cons _ _ _ _ _ pe_int pa_nil se_Constant) se_Name)))) sc__law_many.nd rfl rfl) (@pss_one _ _ _ (@ps_set _ _ 3 _ _ _ _ sc__law_many.nd rfl (Or.inl rfl) (pe_op (op_catA (K := K)) (pv 3) (@pe_tup _ _ _ _ _ (@pa_cons _ _ _ _ _ (@pe_tup _ _ _ _ _ (@pa_cons _ _ _ _ _ pe_str (@pa_cons _ _ _ _ _ (@pe_ix _ _ _ _ _ _ _ (ix_tupK (K := K)) (@pe_ix _ _ _ _ _ _ _ (ix_tupK (K := K)) (pv 1) (pv 5) (fun _ _ => rfl)) pe_int (fun _ _ => rfl)) (@pa_cons _ _ _ _ _ (pe_callTy (call_tupleK (K := K)) rfl T.n_tuple boot_tuple (@pa_cons _ _ _ _ _ (pv 6) pa_nil se_Name)) pa_nil se_Call) se_Subscript) se_Constant)) pa_nil se_Tuple))) (by rfl) (by walk_at "q1")))) (@pss_cons _ _ _ _ _ (@ps_set _ _ 7 _ _ _ _ sc__law_many.nd rfl (Or.inr rfl) (@pe_lst _ _ _ _ (@pa_cons _ _ _ _ _ (@pe_tup _ _ _ _ _ pa_nil) (@pa_cons _ _ _ _ _ (@pe_tup _ _ _ _ _ (@pa_cons _ _ _ _ _ (@pe_tup _ _ _ _ _ (@pa_cons _ _ _ _ _ pe_str pa_nil se_Constant)) pa_nil se_Tuple)) (@pa_cons _ _ _ _ _ (@pe_tup _ _ _ _ _ (@pa_cons _ _ _ _ _ (@pe_tup _ _ _ _ _ (@pa_cons _ _ _ _ _ pe_str (@pa_cons _ _ _ _ _ pe_int pa_nil se_Constant) se_Constant)) pa_nil se_Tuple)) (@pa_cons _ _ _ _ _ (@pe_tup _ _ _ _ _ (@pa_cons _ _ _ _ _ (@pe_tup _ _ _ _ _ (@pa_cons _ _ _ _ _ pe_str (@pa_cons _ _ _ _ _ (@pe_ix _ _ _ _ _ _ _ (ix_tupK (K := K)) (@pe_ix _ _ _ _ _ _ _ (ix_tupK (K := K)) (pv 1) (pv 5) (fun _ _ => rfl)) pe_int (fun _ _ => rfl)) (@pa_cons _ _ _ _ _ (@pe_tup _ _ _ _ _ (@pa_cons _ _ _ _ _ pe_int pa_nil se_Constant)) pa_nil se_Tuple) se_Subscript) se_Constant)) pa_nil se_Tuple)) pa_nil se_Tuple) se_Tuple) se_Tuple) se_Tuple)) (by rfl) (by walk_at "q1")) (@pss_one _ _ _ (@ps_set _ _ 3 _ _ _ _ sc__law_many.nd rfl (Or.inl rfl) (pe_op (op_catA (K := K)) (pv 3) (@pe_tup _ _ _ _ _ (@pa_cons _ _ _ _ _ (@pe_tup _ _ _ _ _ (@pa_cons _ _ _ _ _ pe_str (@pa_cons _ _ _ _ _ (pe_callTy (call_tupleK (K := K)) rfl T.n_tuple boot_tuple (pa_cons (pe_comp (N' := ["_law_k", "_law_some", "_law_left"]) rfl (blk (osc := defScope s__law_many) rfl (by decide +kernel)) (cap_own (cap_out (i := 7) rfl rfl (cap_out (i := 0) rfl rfl cap_nil))) (pi_range1 rfl T.n_range (@pa_cons _ _ _ _ _ (pv 4) pa_nil se_Name)) (gown_name rfl) (fun C s₀ H₀ fp => pg_name (i := 0) (show (["_law_k", "_law_some", "_law_left"] : List Str).Nodup from by decide +kernel) rfl (Or.inl rfl)) (fun C s₀ H₀ fp => pts_nil) (fun C s₀ H₀ fp => (@pe_ix _ _ _ _ _ _ _ (ix_listK (K := K)) (pv 1) (pe_call (ok__law_take (fu := fu) T) (hr.mono (by decide)) rfl T.m__law_take T.F__law_take.kp T.b__law_take .nil passF (@pa_cons _ _ _ _ _ (pv 2) (@pa_cons _ _ _ _ _ pe_int pa_nil se_Constant) se_Name)) (fun _ _ => rfl)))) pa_nil)) pa_nil se_Call) se_Constant)) pa_nil se_Tuple))) (by rfl) (by walk_at "q1")))))))) (@pss_one _ _ _ (@ps_ret _ _ _ _ (pv 3))))), fn_tw (n := 3) (k := 5) (b := tb__law_many fu) rfl (rs_seq (rs_asg (re_tup rl_nil) rg_name) (rs_seq (rs_for (ri_list (re_var 2)) rg_name (rs_seq (rs_asg (re_op r2_ixL (re_lst (rl_cons (re_int _) (rl_cons (re_int _) (rl_cons (re_int _) rl_nil)))) (re_call (rl_cons (re_var 0) (rl_cons (re_int _) rl_nil)))) rg_name) (rs_if (rt_and (rt_e (re_eqI (re_call (rl_cons (re_var 0) (rl_cons (re_int _) rl_nil))) (re_int _))) (rt_e (re_eqI (re_op r2_ixT (re_op r2_ixT (re_var 1) (re_var 5)) (re_int _)) (re_var 4)))) (rs_seq (rs_setComp (re_comp (cap := [none, some 0]) (ri_range1 (re_var 4)) rg_name rt_true (re_op r2_add (re_int _) (re_call (rl_cons (re_var 1) (rl_cons (re_int _) rl_nil)))))) (rs_asg (re_op r2_catT (re_var 3) (re_tup (rl_cons (re_tup (rl_cons (re_str _) (rl_cons (re_op r2_ixT (re_op r2_ixT (re_var 1) (re_var 5)) (re_int _)) (rl_cons (re_fn rc_tuple (rl_cons (re_var 6) rl_nil)) rl_nil)))) rl_nil))) rg_name)) (rs_seq (rs_asg (re_lst (rl_cons (re_tup rl_nil) (rl_cons (re_tup (rl_cons (re_tup (rl_cons (re_str _) rl_nil)) rl_nil)) (rl_cons (re_tup (rl_cons (re_tup (rl_cons (re_str _) (rl_cons (re_int _) rl_nil))) rl_nil)) (rl_cons (re_tup (rl_cons (re_tup (rl_cons (re_str _) (rl_cons (re_op r2_ixT (re_op r2_ixT (re_var 1) (re_var 5)) (re_int _)) (rl_cons (re_tup (rl_cons (re_int _) rl_nil)) rl_nil)))) rl_nil)) rl_nil))))) rg_name) (rs_asg (re_op r2_catT (re_var 3) (re_tup (rl_cons (re_tup (rl_cons (re_str _) (rl_cons (re_fn rc_tuple (rl_cons (re_comp (cap := [none, some 7, some 0]) (ri_range1 (re_var 4)) rg_name rt_true (re_op r2_ixL (re_var 1) (re_call (rl_cons (re_var 2) (rl_cons (re_int _) rl_nil))))) rl_nil)) rl_nil))) rl_nil))) rg_name))))) (rs_ret (re_var 3)))) h⟩)
noncomputable def tb__law_third (fu : Nat) : TwS := (sSeq (sIf (bE (eOp dEqI (eVar 0) (eC (.int 0)))) (sRet (eTup [])) sNext) (sSeq (sIf (bE (eOp dEqI (eVar 0) (eC (.int 1)))) (sRet (eTup [(eTup [])])) sNext) (sRet (eTup [(eTup [(eTup [(eC (.str "hand")), (eFn dTuple [(eComp [none] (iR1 (eVar 0)) (gN 0) bTrue (eTup [(eTup [(eC (.str "gain")), (eVar 0)])]))])])])]))))
noncomputable def tw__law_third (fu : Nat) : TwF := runTw 1 0 (tb__law_third fu)
theorem ok__law_third (T : Tx K mg) : FnOk P w K mg base (CXE P w) 1 T.a__law_third T.fd__law_third ["_law_more"] (sTw K 1 (tw__law_third fu)) :=
 T.F__law_third.okE sc__law_third (fun vs H Q E h => h.1) (fun cdv A outer s H vs Q E hr h => ⟨_, (@pss_cons _ _ _ _ _ (ps_if (pt_cmp (pc_eqI (pv 0) pe_int)) (@pss_one _ _ _ (@ps_ret _ _ _ _ (@pe_tup _ _ _ _ _ pa_nil))) pss_nil) (@pss_cons _ _ _ _ _ (ps_if (pt_cmp (pc_eqI (pv 0) pe_int)) (@pss_one _ _ _ (@ps_ret _ _ _ _ (@pe_tup _ _ _ _ _ (@pa_cons _ _ _ _ _ (@pe_tup _ _ _ _ _ pa_nil) pa_nil se_Tuple)))) pss_nil) (@pss_one _ _ _ (@ps_ret _ _ _ _ (@pe_tup _ _ _ _ _ (@pa_cons _ _ _ _ _ (@pe_tup _ _ _ _ _ (@pa_cons _ _ _ _ _ (@pe_tup _ _ _ _ _ (@pa_cons _ _ _ _ _ pe_str (@pa_cons _ _ _ _ _ (pe_callTy (call_tupleK (K := K)) rfl T.n_tuple boot_tuple (pa_cons (pe_comp (N' := ["_law_k"]) rfl (blk (osc := defScope s__law_third) rfl (by decide +kernel)) (cap_own cap_nil) (pi_range1 rfl T.n_range (@pa_cons _ _ _ _ _ (pv 0) pa_nil se_Name)) (gown_name rfl) (fun C s₀ H₀ fp => pg_name (i := 0) (show (["_law_k"] : List Str).Nodup from by decide +kernel) rfl (Or.inl rfl)) (fun C s₀ H₀ fp => pts_nil) (fun C s₀ H₀ fp => (@pe_tup _ _ _ _ _ (@pa_cons _ _ _ _ _ (@pe_tup _ _ _ _ _ (@pa_cons _ _ _ _ _ pe_str (@pa_cons _ _ _ _ _ (pv 0) pa_nil se_Name) se_Constant)) pa_nil se_Tuple)))) pa_nil)) pa_nil se_Call) se_Constant)) pa_nil se_Tuple)) pa_nil se_Tuple)))))), fn_tw (n := 1) (k := 0) (b := tb__law_third fu) rfl (rs_seq (rs_if (rt_e (re_eqI (re_var 0) (re_int _))) (rs_ret (re_tup rl_nil)) rs_next) (rs_seq (rs_if (rt_e (re_eqI (re_var 0) (re_int _))) (rs_ret (re_tup (rl_cons (re_tup rl_nil) rl_nil))) rs_next) (rs_ret (re_tup (rl_cons (re_tup (rl_cons (re_tup (rl_cons (re_str _) (rl_cons (re_fn rc_tuple (rl_cons (re_comp (cap := [none]) (ri_range1 (re_var 0)) rg_name rt_true (re_tup (rl_cons (re_tup (rl_cons (re_str _) (rl_cons (re_var 0) rl_nil))) rl_nil))) rl_nil)) rl_nil))) rl_nil)) rl_nil))))) h⟩)
noncomputable def tb__law_loop (fu : Nat) : TwS := (sSeq (sAsg (eLst [(eTup []), (eTup [(eTup [(eC (.str "pass"))])]), (eTup [(eTup [(eC (.str "set")), (eOp dIxT (eOp dIxT (eVar 1) (eC (.int 0))) (eC (.int 0))), (eTup [(eC (.int 0))])])])]) (gN 2)) (sSeq (sAsg (eTup [(eC (.str "while")), (eTup [(eOp dIxT (eOp dIxT (eVar 1) (eCall (tw__law_take fu) [(eVar 0), (eC (.int 3))])) (eC (.int 0))), (eC (.str "=")), (eCall (tw__law_take fu) [(eVar 0), (eC (.int 9))])]), (eOp dIxL (eVar 2) (eCall (tw__law_take fu) [(eVar 0), (eC (.int 3))]))]) (gN 3)) (sSeq (sFor (iR1 (eCall (tw__law_take fu) [(eVar 0), (eC (.int 3))])) (gN 4) (sSeq (sAsg (eCall (tw__law_take fu) [(eVar 0), (eC (.int 5))]) (gN 5)) (sSeq (sIf (bE (eOp dEqI (eVar 5) (eC (.int 0)))) (sAsg (eTup [(eC (.str "times")), (eCall (tw__law_take fu) [(eVar 0), (eC (.int 3))]), (eTup [(eVar 3), (eTup [(eC (.str "pass"))])])]) (gN 3)) sNext) (sSeq (sIf (bE (eOp dEqI (eVar 5) (eC (.int 1)))) (sAsg (eTup [(eC (.str "if")), (eTup [(eC (.int 1)), (eC (.str "=")), (eCall (tw__law_take fu) [(eVar 0), (eC (.int 2))])]), (eTup [(eTup [(eC (.str "pass"))])]), (eTup [(eVar 3)])]) (gN 3)) sNext) (sSeq (sIf (bE (eOp dEqI (eVar 5) (eC (.int 2)))) (sAsg (eTup [(eC (.str "if")), (eTup [(eC (.int 1)), (eC (.str "<")), (eCall (tw__law_take fu) [(eVar 0), (eC (.int 3))])]), (eTup [(eVar 3)]), (eTup [])]) (gN 3)) sNext) (sSeq (sIf (bE (eOp dEqI (eVar 5) (eC (.int 3)))) (sAsg (eTup [(eC (.str "hand")), (eTup [(eTup []), (eTup [(eTup [(eC (.str "pass"))]), (eVar 3)])])]) (gN 3)) sNext) (sIf (bE (eOp dEqI (eVar 5) (eC (.int 4)))) (sAsg (eTup [(eC (.str "while")), (eTup [(eC (.int 1)), (eC (.str "<")), (eC (.int 0))]), (eTup [(eVar 3)])]) (gN 3)) sNext))))))) (sRet (eVar 3)))))
noncomputable def tw__law_loop (fu : Nat) : TwF := runTw 2 4 (tb__law_loop fu)
theorem ok__law_loop (T : Tx K mg) : FnOk P w K mg base (CXE P w) 2 T.a__law_loop T.fd__law_loop ["_law_left", "_law_boxes"] (sTw K 2 (tw__law_loop fu)) :=
 T.F__law_loop.okE sc__law_loop (fun vs H Q E h => h.1) (fun cdv A outer s H vs Q E hr h => ⟨_, (@pss_cons _ _ _ _ _ (@ps_set _ _ 2 _ _ _ _ sc__law_loop.nd rfl (Or.inl rfl) (@pe_lst _ _ _ _ (@pa_cons _ _ _ _ _ (@pe_tup _ _ _ _ _ pa_nil) (@pa_cons _ _ _ _ _ (@pe_tup _ _ _ _ _ (@pa_cons _ _ _ _ _ (@pe_tup _ _ _ _ _ (@pa_cons _ _ _ _ _ pe_str pa_nil se_Constant)) pa_nil se_Tuple)) (@pa_cons _ _ _ _ _ (@pe_tup _ _ _ _ _ (@pa_cons _ _ _ _ _ (@pe_tup _ _ _ _ _ (@pa_cons _ _ _ _ _ pe_str (@pa_cons _ _ _ _ _ (@pe_ix _ _ _ _ _ _ _ (ix_tupK (K := K)) (@pe_ix _ _ _ _ _ _ _ (ix_tupK (K := K)) (pv 1) pe_int (fun _ _ => rfl)) pe_int (fun _ _ => rfl)) (@pa_cons _ _ _ _ _ (@pe_tup _ _ _ _ _ (@pa_cons _ _ _ _ _ pe_int pa_nil se_Constant)) pa_nil se_Tuple) se_Subscript) se_Constant)) pa_nil se_Tuple)) pa_nil se_Tuple) se_Tuple) se_Tuple)) (by rfl) (by walk_at "q1")) (@pss_cons _ _ _ _ _ (@ps_set _ _ 3 _ _ _ _ sc__law_loop.nd rfl (Or.inl rfl) (@pe_tup _ _ _ _ _ (@pa_cons _ _ _ _ _ pe_str (@pa_cons _ _ _ _ _ (@pe_tup _ _ _ _ _ (@pa_cons _ _ _ _ _ (@pe_ix _ _ _ _ _ _ _ (ix_tupK (K := K)) (@pe_ix _ _ _ _ _ _ _ (ix_tupK (K := K)) (pv 1) (pe_call (ok__law_take (fu := fu) T) (hr.mono (by decide)) rfl T.m__law_take T.F__law_take.kp T.b__law_take .nil passE (@pa_cons _ _ _ _ _ (pv 0) (@pa_cons _ _ _ _ _ pe_int pa_nil se_Constant) se_Name)) (fun _ _ => rfl)) pe_int (fun _ _ => rfl)) (@pa_cons _ _ _ _ _ pe_str (@pa_cons _ _ _ _ _ (pe_call (ok__law_take (fu := fu) T) (hr.mono (by decide)) rfl T.m__law_take T.F__law_take.kp T.b__law_take .nil passE (@pa_cons _ _ _ _ _ (pv 0) (@pa_cons _ _ _ _ _ pe_int pa_nil se_Constant) se_Name)) pa_nil se_Call) se_Constant) se_Subscript)) (@pa_cons _ _ _ _ _ (@pe_ix _ _ _ _ _ _ _ (ix_listK (K := K)) (pv 2) (pe_call (ok__law_take (fu := fu) T) (hr.mono (by decide)) rfl T.m__law_take T.F__law_take.kp T.b__law_take .nil passE (@pa_cons _ _ _ _ _ (pv 0) (@pa_cons _ _ _ _ _ pe_int pa_nil se_Constant) se_Name)) (fun _ _ => rfl)) pa_nil se_Subscript) se_Tuple) se_Constant)) (by rfl) (by walk_at "q1")) (@pss_cons _ _ _ _ _ (ps_for PassesOwn.leaving rfl (pi_range1 rfl T.n_range (@pa_cons _ _ _ _ _ (pe_call (ok__law_take (fu := fu) T) (hr.mono (by decide)) rfl T.m__law_take T.F__law_take.kp T.b__law_take .nil passE (@pa_cons _ _ _ _ _ (pv 0) (@pa_cons _ _ _ _ _ pe_int pa_nil se_Constant) se_Name)) pa_nil se_Call)) (pg_name (i := 4) sc__law_loop.nd rfl (Or.inl rfl)) (@pss_cons _ _ _ _ _ (@ps_set _ _ 5 _ _ _ _ sc__law_loop.nd rfl (Or.inl rfl) (pe_call (ok__law_take (fu := fu) T) (hr.mono (by decide)) rfl T.m__law_take T.F__law_take.kp T.b__law_take .nil passE (@pa_cons _ _ _ _ _ (pv 0) (@pa_cons _ _ _ _ _ pe_int pa_nil se_Constant) se_Name)) (by rfl) (by walk_at "q1")) (@pss_cons _ _ _ _ _ (ps_if (pt_cmp (pc_eqI (pv 5) pe_int)) (@pss_one _ _ _ (@ps_set _ _ 3 _ _ _ _ sc__law_loop.nd rfl (Or.inl rfl) (@pe_tup _ _ _ _ _ (@pa_cons _ _ _ _ _ pe_str (@pa_cons _ _ _ _ _ (pe_call (ok__law_take (fu := fu) T) (hr.mono (by decide)) rfl T.m__law_take T.F__law_take.kp T.b__law_take .nil passE (@pa_cons _ _ _ _ _ (pv 0) (@pa_cons _ _ _ _ _ pe_int pa_nil se_Constant) se_Name)) (@pa_cons _ _ _ _ _ (@pe_tup _ _ _ _ _ (@pa_cons _ _ _ _ _ (pv 3) (@pa_cons _ _ _ _ _ (@pe_tup _ _ _ _ _ (@pa_cons _ _ _ _ _ pe_str pa_nil se_Constant)) pa_nil se_Tuple) se_Name)) pa_nil se_Tuple) se_Call) se_Constant)) (by rfl) (by walk_at "q1"))) pss_nil) (@pss_cons _ _ _ _ _ (ps_if (pt_cmp (pc_eqI (pv 5) pe_int)) (@pss_one _ _ _ (@ps_set _ _ 3 _ _ _ _ sc__law_loop.nd rfl (Or.inl rfl) (@pe_tup _ _ _ _ _ (@pa_cons _ _ _ _ _ pe_str (@pa_cons _ _ _ _ _ (@pe_tup _ _ _ _ _ (@pa_cons _ _ _ _ _ pe_int (@pa_cons _ _ _ _ _ pe_str (@pa_cons _ _ _ _ _ (pe_call (ok__law_take (fu := fu) T) (hr.mono (by decide)) rfl T.m__law_take T.F__law_take.kp T.b__law_take .nil passE (@pa_cons _ _ _ _ _ (pv 0) (@pa_cons _ _ _ _ _ pe_int pa_nil se_Constant) se_Name)) pa_nil se_Call) se_Constant) se_Constant)) (@pa_cons _ _ _ _ _ (@pe_tup _ _ _ _ _ (@pa_cons _ _ _ _ _ (@pe_tup _ _ _ _ _ (@pa_cons _ _ _ _ _ pe_str pa_nil se_Constant)) pa_nil se_Tuple)) (@pa_cons _ _ _ _ _ (@pe_tup _ _ _ _ _ (@pa_cons _ _ _ _ _ (pv 3) pa_nil se_Name)) pa_nil se_Tuple) se_Tuple) se_Tuple) se_Constant)) (by rfl) (by walk_at "q1"))) pss_nil) (@pss_cons _ _ _ _ _ (ps_if (pt_cmp (pc_eqI (pv 5) pe_int)) (@pss_one _ _ _ (@ps_set _ _ 3 _ _ _ _ sc__law_loop.nd rfl (Or.inl rfl) (@pe_tup _ _ _ _ _ (@pa_cons _ _ _ _ _ pe_str (@pa_cons _ _ _ _ _ (@pe_tup _ _ _ _ _ (@pa_cons _ _ _ _ _ pe_int (@pa_cons _ _ _ _ _ pe_str (@pa_cons _ _ _ _ _ (pe_call (ok__law_take (fu := fu) T) (hr.mono (by decide)) rfl T.m__law_take T.F__law_take.kp T.b__law_take .nil passE (@pa_cons _ _ _ _ _ (pv 0) (@pa_cons _ _ _ _ _ pe_int pa_nil se_Constant) se_Name)) pa_nil se_Call) se_Constant) se_Constant)) (@pa_cons _ _ _ _ _ (@pe_tup _ _ _ _ _ (@pa_cons _ _ _ _ _ (pv 3) pa_nil se_Name)) (@pa_cons _ _ _ _ _ (@pe_tup _ _ _ _ _ pa_nil) pa_nil se_Tuple) se_Tuple) se_Tuple) se_Constant)) (by rfl) (by walk_at "q1"))) pss_nil) (@pss_cons _ _ _ _ _ (ps_if (pt_cmp (pc_eqI (pv 5) pe_int)) (@pss_one _ _ _ (@ps_set _ _ 3 _ _ _ _ sc__law_loop.nd rfl (Or.inl rfl) (@pe_tup _ _ _ _ _ (@pa_cons _ _ _ _ _ pe_str (@pa_cons _ _ _ _ _ (@pe_tup _ _ _ _ _ (@pa_cons _ _ _ _ _ (@pe_tup _ _ _ _ _ pa_nil) (@pa_cons _ _ _ _ _ (@pe_tup _ _ _ _ _ (@pa_cons _ _ _ _ _ (@pe_tup _ _ _ _ _ (@pa_cons _ _ _ _ _ pe_str pa_nil se_Constant)) (@pa_cons _ _ _ _ _ (pv 3) pa_nil se_Name) se_Tuple)) pa_nil se_Tuple) se_Tuple)) pa_nil se_Tuple) se_Constant)) (by rfl) (by walk_at "q1"))) pss_nil) (@pss_one _ _ _ (ps_if (pt_cmp (pc_eqI (pv 5) pe_int)) (@pss_one _ _ _ (@ps_set _ _ 3 _ _ _ _ sc__law_loop.nd rfl (Or.inl rfl) (@pe_tup _ _ _ _ _ (@pa_cons _ _ _ _ _ pe_str (@pa_cons _ _ _ _ _ (@pe_tup _ _ _ _ _ (@pa_cons _ _ _ _ _ pe_int (@pa_cons _ _ _ _ _ pe_str (@pa_cons _ _ _ _ _ pe_int pa_nil se_Constant) se_Constant) se_Constant)) (@pa_cons _ _ _ _ _ (@pe_tup _ _ _ _ _ (@pa_cons _ _ _ _ _ (pv 3) pa_nil se_Name)) pa_nil se_Tuple) se_Tuple) se_Constant)) (by rfl) (by walk_at "q1"))) pss_nil)))))))) (@pss_one _ _ _ (@ps_ret _ _ _ _ (pv 3)))))), fn_tw (n := 2) (k := 4) (b := tb__law_loop fu) rfl (rs_seq (rs_asg (re_lst (rl_cons (re_tup rl_nil) (rl_cons (re_tup (rl_cons (re_tup (rl_cons (re_str _) rl_nil)) rl_nil)) (rl_cons (re_tup (rl_cons (re_tup (rl_cons (re_str _) (rl_cons (re_op r2_ixT (re_op r2_ixT (re_var 1) (re_int _)) (re_int _)) (rl_cons (re_tup (rl_cons (re_int _) rl_nil)) rl_nil)))) rl_nil)) rl_nil)))) rg_name) (rs_seq (rs_asg (re_tup (rl_cons (re_str _) (rl_cons (re_tup (rl_cons (re_op r2_ixT (re_op r2_ixT (re_var 1) (re_call (rl_cons (re_var 0) (rl_cons (re_int _) rl_nil)))) (re_int _)) (rl_cons (re_str _) (rl_cons (re_call (rl_cons (re_var 0) (rl_cons (re_int _) rl_nil))) rl_nil)))) (rl_cons (re_op r2_ixL (re_var 2) (re_call (rl_cons (re_var 0) (rl_cons (re_int _) rl_nil)))) rl_nil)))) rg_name) (rs_seq (rs_for (ri_range1 (re_call (rl_cons (re_var 0) (rl_cons (re_int _) rl_nil)))) rg_name (rs_seq (rs_asg (re_call (rl_cons (re_var 0) (rl_cons (re_int _) rl_nil))) rg_name) (rs_seq (rs_if (rt_e (re_eqI (re_var 5) (re_int _))) (rs_asg (re_tup (rl_cons (re_str _) (rl_cons (re_call (rl_cons (re_var 0) (rl_cons (re_int _) rl_nil))) (rl_cons (re_tup (rl_cons (re_var 3) (rl_cons (re_tup (rl_cons (re_str _) rl_nil)) rl_nil))) rl_nil)))) rg_name) rs_next) (rs_seq (rs_if (rt_e (re_eqI (re_var 5) (re_int _))) (rs_asg (re_tup (rl_cons (re_str _) (rl_cons (re_tup (rl_cons (re_int _) (rl_cons (re_str _) (rl_cons (re_call (rl_cons (re_var 0) (rl_cons (re_int _) rl_nil))) rl_nil)))) (rl_cons (re_tup (rl_cons (re_tup (rl_cons (re_str _) rl_nil)) rl_nil)) (rl_cons (re_tup (rl_cons (re_var 3) rl_nil)) rl_nil))))) rg_name) rs_next) (rs_seq (rs_if (rt_e (re_eqI (re_var 5) (re_int _))) (rs_asg (re_tup (rl_cons (re_str _) (rl_cons (re_tup (rl_cons (re_int _) (rl_cons (re_str _) (rl_cons (re_call (rl_cons (re_var 0) (rl_cons (re_int _) rl_nil))) rl_nil)))) (rl_cons (re_tup (rl_cons (re_var 3) rl_nil)) (rl_cons (re_tup rl_nil) rl_nil))))) rg_name) rs_next) (rs_seq (rs_if (rt_e (re_eqI (re_var 5) (re_int _))) (rs_asg (re_tup (rl_cons (re_str _) (rl_cons (re_tup (rl_cons (re_tup rl_nil) (rl_cons (re_tup (rl_cons (re_tup (rl_cons (re_str _) rl_nil)) (rl_cons (re_var 3) rl_nil))) rl_nil))) rl_nil))) rg_name) rs_next) (rs_if (rt_e (re_eqI (re_var 5) (re_int _))) (rs_asg (re_tup (rl_cons (re_str _) (rl_cons (re_tup (rl_cons (re_int _) (rl_cons (re_str _) (rl_cons (re_int _) rl_nil)))) (rl_cons (re_tup (rl_cons (re_var 3) rl_nil)) rl_nil)))) rg_name) rs_next))))))) (rs_ret (re_var 3))))) h⟩)
noncomputable def tb__law_told (fu : Nat) : TwS := (sSeq (sAsg (eTup []) (gN 2)) (sSeq (sAsg (eC .non) (gN 3)) (sSeq (sTry 4 (some 3) (tw_tree_of fu) [0, 1] ["NoBound", "TooMany"] (sSeq (sAsg (eUn (dIsE (tblOf [("NoBound", false), ("TooMany", false)])) (eVar 4)) (gN 5)) (sAsg (eTup [(eUn (dIsE (tblOf [("NoBound", true), ("TooMany", false)])) (eVar 4)), (eUn (dIsE (tblOf [("NoBound", false), ("TooMany", true)])) (eVar 4)), (eVar 5), (eUn (dIsE (tblOf [("NoBound", true), ("TooMany", true)])) (eVar 4))]) (gN 2)))) (sRet (eTup [(eVar 2), (eVar 3)])))))
noncomputable def tw__law_told (fu : Nat) : TwF := runTw 2 4 (tb__law_told fu)
theorem ok__law_told (T : Tx K mg) : FnOk P w K mg base (CXE P w) 86 T.a__law_told T.fd__law_told ["_law_program", "_law_state"] (sTw K 2 (tw__law_told fu)) :=
 T.F__law_told.okE sc__law_told (fun vs H Q E h => h.1) (fun cdv A outer s H vs Q E hr h => ⟨_, (@pss_cons _ _ _ _ _ (@ps_set _ _ 2 _ _ _ _ sc__law_told.nd rfl (Or.inl rfl) (@pe_tup _ _ _ _ _ pa_nil) (by rfl) (by walk_at "q1")) (@pss_cons _ _ _ _ _ (@ps_set _ _ 3 _ _ _ _ sc__law_told.nd rfl (Or.inl rfl) pe_non (by rfl) (by walk_at "q1")) (@pss_cons _ _ _ _ _ (ps_tryAs (i := 4) (psx_set (i := 3) sc__law_told.nd rfl (Or.inl rfl) (pex_call (ok_tree_of (fu := fu) T) (hr.mono (by decide)) rfl T.m_tree_of T.F_tree_of.kp T.b_tree_of .nil (pax_cons (pex_of (pv 0)) (pax_cons (pex_of (pv 1)) pax_nil)))) rfl rfl rfl (fun e => nameIs_own rfl T.m_LotsError) sc__law_told.nd rfl rfl (fun e => (@pss_cons _ _ _ _ _ (@ps_set _ _ 5 _ _ _ _ sc__law_told.nd rfl (Or.inl rfl) (pe_callB (call_isiTK (K := K)) rfl T.n_isinstance boot_isinstance (pa_cons (pv 4) (pa_cons (@pe_tup _ _ _ _ _ (pa_cons (pe_glob (v := .ref T.a_NoNumber) rfl T.m_NoNumber rfl) (pa_cons (pe_glob (v := .ref T.a_NoText) rfl T.m_NoText rfl) (pa_cons (pe_glob (v := .ref T.a_NoProgram) rfl T.m_NoProgram rfl) (pa_cons (pe_glob (v := .ref T.a_HandLeft) rfl T.m_HandLeft rfl) (pa_cons (pe_glob (v := .ref T.a_NoneKept) rfl T.m_NoneKept rfl) pa_nil)))))) pa_nil))) (by rfl) (by walk_at "q1")) (@pss_one _ _ _ (@ps_set _ _ 2 _ _ _ _ sc__law_told.nd rfl (Or.inl rfl) (@pe_tup _ _ _ _ _ (@pa_cons _ _ _ _ _ (pe_callB (call_isiK (K := K)) rfl T.n_isinstance boot_isinstance (pa_cons (pv 4) (pa_cons (pe_glob (v := .ref T.a_NoBound) rfl T.m_NoBound rfl) pa_nil))) (@pa_cons _ _ _ _ _ (pe_callB (call_isiK (K := K)) rfl T.n_isinstance boot_isinstance (pa_cons (pv 4) (pa_cons (pe_glob (v := .ref T.a_TooMany) rfl T.m_TooMany rfl) pa_nil))) (@pa_cons _ _ _ _ _ (pv 5) (@pa_cons _ _ _ _ _ (pe_callB (call_isiK (K := K)) rfl T.n_isinstance boot_isinstance (pa_cons (pv 4) (pa_cons (pe_bltn (v := .ty "ValueError") rfl T.n_ValueError PyProof.Rows.Boot.«ValueError» rfl) pa_nil))) pa_nil se_Call) se_Name) se_Call) se_Call)) (by rfl) (by walk_at "q1")))))) (@pss_one _ _ _ (@ps_ret _ _ _ _ (@pe_tup _ _ _ _ _ (@pa_cons _ _ _ _ _ (pv 2) (@pa_cons _ _ _ _ _ (pv 3) pa_nil se_Name) se_Name))))))), fn_tw (n := 2) (k := 4) (b := tb__law_told fu) rfl (rs_seq (rs_asg (re_tup rl_nil) rg_name) (rs_seq (rs_asg re_non rg_name) (rs_seq (rs_try (HitOk.cons T.ns_NoBound (exm_of T.e_LotsError T.i_LotsError.hc T.t_LotsError T.r_NoBound_LotsError) (HitOk.cons T.ns_TooMany (exm_of T.e_LotsError T.i_LotsError.hc T.t_LotsError T.r_TooMany_LotsError) HitOk.nil)) (rlx_var 0 (rlx_var 1 rlx_nil)) (.inl ⟨_, rfl, rfl⟩) (rs_seq (rs_asg (re_iseT (tac_cons (.ref T.a_NoNumber) (tac_cons (.ref T.a_NoText) (tac_cons (.ref T.a_NoProgram) (tac_cons (.ref T.a_HandLeft) (tac_cons (.ref T.a_NoneKept) tac_nil))))) rfl (show (5 : Nat) ≤ 100 by decide) (IseOkT.cons T.ns_NoBound T.i_NoBound (kitAny_f (kit_own T.i_NoNumber.hc T.t_NoNumber T.r_NoBound_NoNumber (apart T.r_NoBound_NoBound T.r_NoBound_NoNumber)) (kitAny_f (kit_own T.i_NoText.hc T.t_NoText T.r_NoBound_NoText (apart T.r_NoBound_NoBound T.r_NoBound_NoText)) (kitAny_f (kit_own T.i_NoProgram.hc T.t_NoProgram T.r_NoBound_NoProgram (apart T.r_NoBound_NoBound T.r_NoBound_NoProgram)) (kitAny_f (kit_own T.i_HandLeft.hc T.t_HandLeft T.r_NoBound_HandLeft (apart T.r_NoBound_NoBound T.r_NoBound_HandLeft)) (kitAny_f (kit_own T.i_NoneKept.hc T.t_NoneKept T.r_NoBound_NoneKept (apart T.r_NoBound_NoBound T.r_NoBound_NoneKept)) kitAny_nil))))) (IseOkT.cons T.ns_TooMany T.i_TooMany (kitAny_f (kit_own T.i_NoNumber.hc T.t_NoNumber T.r_TooMany_NoNumber (apart T.r_TooMany_TooMany T.r_TooMany_NoNumber)) (kitAny_f (kit_own T.i_NoText.hc T.t_NoText T.r_TooMany_NoText (apart T.r_TooMany_TooMany T.r_TooMany_NoText)) (kitAny_f (kit_own T.i_NoProgram.hc T.t_NoProgram T.r_TooMany_NoProgram (apart T.r_TooMany_TooMany T.r_TooMany_NoProgram)) (kitAny_f (kit_own T.i_HandLeft.hc T.t_HandLeft T.r_TooMany_HandLeft (apart T.r_TooMany_TooMany T.r_TooMany_HandLeft)) (kitAny_f (kit_own T.i_NoneKept.hc T.t_NoneKept T.r_TooMany_NoneKept (apart T.r_TooMany_TooMany T.r_TooMany_NoneKept)) kitAny_nil))))) IseOkT.nil)) (re_var 4)) rg_name) (rs_asg (re_tup (rl_cons (re_ise rfl (IseOk.cons T.ns_NoBound T.i_NoBound (kit_own T.i_NoBound.hc T.t_NoBound T.r_NoBound_NoBound (fun _ => rfl)) (IseOk.cons T.ns_TooMany T.i_TooMany (kit_own T.i_NoBound.hc T.t_NoBound T.r_TooMany_NoBound (apart T.r_TooMany_TooMany T.r_TooMany_NoBound)) IseOk.nil)) (re_var 4)) (rl_cons (re_ise rfl (IseOk.cons T.ns_NoBound T.i_NoBound (kit_own T.i_TooMany.hc T.t_TooMany T.r_NoBound_TooMany (apart T.r_NoBound_NoBound T.r_NoBound_TooMany)) (IseOk.cons T.ns_TooMany T.i_TooMany (kit_own T.i_TooMany.hc T.t_TooMany T.r_TooMany_TooMany (fun _ => rfl)) IseOk.nil)) (re_var 4)) (rl_cons (re_var 5) (rl_cons (re_ise rfl (IseOk.cons T.ns_NoBound T.i_NoBound (kit_val T.v_NoBound) (IseOk.cons T.ns_TooMany T.i_TooMany (kit_val T.v_TooMany) IseOk.nil)) (re_var 4)) rl_nil))))) rg_name))) (rs_ret (re_tup (rl_cons (re_var 2) (rl_cons (re_var 3) rl_nil))))))) h⟩)
noncomputable def tb__law_leaves (fu : Nat) : TwS := (sSeq (sAsg (eC (.int 0)) (gN 1)) (sSeq (sAsg (eLst [(eVar 0)]) (gN 2)) (sSeq (sWh fu (bE (eOp dGt (eFn dLen [(eVar 2)]) (eC (.int 0)))) (sSeq (sAsg (eMt mPop (eVar 2) []) (gN 3)) (sIf (bE (eOp (dEqS false) (eOp dIxT (eVar 3) (eC (.int 0))) (eC (.str "draw")))) (sExpr (eMt mExtend (eVar 2) [(eComp [none] (iT (eOp dIxT (eVar 3) (eC (.int 1)))) (gN 0) bTrue (eOp dIxT (eVar 0) (eC (.int 1))))])) (sIf (bE (eOp (dEqS false) (eOp dIxT (eVar 3) (eC (.int 0))) (eC (.str "hand")))) (sExpr (eMt mExtend (eVar 2) [(eOp dIxT (eVar 3) (eC (.int 1)))])) (sAsg (eOp dAdd (eVar 1) (eC (.int 1))) (gN 1)))))) (sRet (eVar 1)))))
noncomputable def tw__law_leaves (fu : Nat) : TwF := runTw 1 3 (tb__law_leaves fu)
theorem ok__law_leaves (T : Tx K mg) : FnOk P w K mg base (CXE P w) 1 T.a__law_leaves T.fd__law_leaves ["_law_tree"] (sTw K 1 (tw__law_leaves fu)) :=
 T.F__law_leaves.okE sc__law_leaves (fun vs H Q E h => h.1) (fun cdv A outer s H vs Q E hr h => ⟨_, (@pss_cons _ _ _ _ _ (@ps_set _ _ 1 _ _ _ _ sc__law_leaves.nd rfl (Or.inl rfl) pe_int (by rfl) (by walk_at "q1")) (@pss_cons _ _ _ _ _ (@ps_set _ _ 2 _ _ _ _ sc__law_leaves.nd rfl (Or.inl rfl) (@pe_lst _ _ _ _ (@pa_cons _ _ _ _ _ (pv 0) pa_nil se_Name)) (by rfl) (by walk_at "q1")) (@pss_cons _ _ _ _ _ (ps_while PassesOwn.leaving (pt_cmp (pc_gt (pe_callB (call_lenK (K := K)) rfl T.n_len boot_len (@pa_cons _ _ _ _ _ (pv 2) pa_nil se_Name)) pe_int)) (@pss_cons _ _ _ _ _ (@ps_set _ _ 3 _ _ _ _ sc__law_leaves.nd rfl (Or.inl rfl) (pe_bm0 PySem.F.plainAttrs_list PySem.F.slot_list_pop PySem.F.type_list_pop mt_pop (pv 2)) (by rfl) (by walk_at "q1")) (@pss_one _ _ _ (ps_if (pt_cmpR op_eq (@pe_ix _ _ _ _ _ _ _ (ix_tupK (K := K)) (pv 3) pe_int (fun _ _ => rfl)) pe_str (by rfl)) (@pss_one _ _ _ (ps_expr (pe_bm PySem.F.plainAttrs_list PySem.F.slot_list_extend PySem.F.type_list_extend (mt_extendK (K := K)) (pv 2) (pa_cons (pe_comp (N' := ["_law_part"]) rfl (blk (osc := defScope s__law_leaves) rfl (by decide +kernel)) (cap_own cap_nil) (pi_tupK (K := K) (@pe_ix _ _ _ _ _ _ _ (ix_tupK (K := K)) (pv 3) pe_int (fun _ _ => rfl))) (gown_name rfl) (fun C s₀ H₀ fp => pg_name (i := 0) (show (["_law_part"] : List Str).Nodup from by decide +kernel) rfl (Or.inl rfl)) (fun C s₀ H₀ fp => pts_nil) (fun C s₀ H₀ fp => (@pe_ix _ _ _ _ _ _ _ (ix_tupK (K := K)) (pv 0) pe_int (fun _ _ => rfl)))) pa_nil)))) (@pss_one _ _ _ (ps_if (pt_cmpR op_eq (@pe_ix _ _ _ _ _ _ _ (ix_tupK (K := K)) (pv 3) pe_int (fun _ _ => rfl)) pe_str (by rfl)) (@pss_one _ _ _ (ps_expr (pe_bm PySem.F.plainAttrs_list PySem.F.slot_list_extend PySem.F.type_list_extend (mt_extendK (K := K)) (pv 2) (@pa_cons _ _ _ _ _ (@pe_ix _ _ _ _ _ _ _ (ix_tupK (K := K)) (pv 3) pe_int (fun _ _ => rfl)) pa_nil se_Subscript)))) (@pss_one _ _ _ (@ps_set _ _ 1 _ _ _ _ sc__law_leaves.nd rfl (Or.inl rfl) (pe_op op_add (pv 1) pe_int) (by rfl) (by walk_at "q1"))))))))) (@pss_one _ _ _ (@ps_ret _ _ _ _ (pv 1)))))), fn_tw (n := 1) (k := 3) (b := tb__law_leaves fu) rfl (rs_seq (rs_asg (re_int _) rg_name) (rs_seq (rs_asg (re_lst (rl_cons (re_var 0) rl_nil)) rg_name) (rs_seq (rs_while (rt_e (re_gt (re_fn rc_len (rl_cons (re_var 2) rl_nil)) (re_int _))) (rs_seq (rs_asg (re_mt0 rm_pop (re_var 2)) rg_name) (rs_if (rt_test (re_op r2_eqS (re_op r2_ixT (re_var 3) (re_int _)) (re_str _))) (rs_expr (re_mt rm_extend (re_var 2) (rl_cons (re_comp (cap := [none]) (ri_tup (re_op r2_ixT (re_var 3) (re_int _))) rg_name rt_true (re_op r2_ixT (re_var 0) (re_int _))) rl_nil))) (rs_if (rt_test (re_op r2_eqS (re_op r2_ixT (re_var 3) (re_int _)) (re_str _))) (rs_expr (re_mt rm_extend (re_var 2) (rl_cons (re_op r2_ixT (re_var 3) (re_int _)) rl_nil))) (rs_asg (re_op r2_add (re_var 1) (re_int _)) rg_name))))) (rs_ret (re_var 1))))) h⟩)
noncomputable def tb_law (fu : Nat) : TwS := (sSeq (sAsg (eUn dListRev (eSl dSlL (eVar 0) oNo (oSome (eC (.int 200))))) (gN 1)) (sSeq (sAsg (eCall (tw__law_take fu) [(eVar 1), (eC (.int 3))]) (gN 2)) (sSeq (sAsg (eCall (tw__law_take fu) [(eVar 1), (eC (.int 9))]) (gN 3)) (sSeq (sAsg (eTup [(eTup [(eSl dSlS (eC (.str "abc")) (oSome (eCall (tw__law_take fu) [(eVar 1), (eC (.int 3))])) oNo), (eC (.int 8))]), (eTup [(eC (.str "x")), (eC (.int 5))]), (eTup [(eC (.str "y")), (eC (.int 5))])]) (gN 4)) (sSeq (sAsg (eTup [(eCall (tw__law_take fu) [(eVar 1), (eC (.int 8))]), (eCall (tw__law_take fu) [(eVar 1), (eC (.int 5))]), (eCall (tw__law_take fu) [(eVar 1), (eC (.int 5))])]) (gN 5)) (sSeq (sAsg (eCall (tw__law_loop fu) [(eVar 1), (eVar 4)]) (gN 6)) (sSeq (sAsg (eTup [(eTup [(eC (.str "set")), (eC (.str "y")), (eTup [(eC (.str "x")), (eC (.str "+")), (eC (.int 3))])]), (eTup [(eC (.str "gain")), (eC (.str "x"))])]) (gN 7)) (sSeq (sIf (bE (eOp (dEqG true) (eCall (tw__law_told fu) [(eTup [(eVar 4), (eOp dCatT (eVar 7) (eTup [(eVar 6)]))]), (eVar 5)]) (eTup [(eTup [(eC (.bl true)), (eC (.bl false)), (eC (.bl false)), (eC (.bl true))]), (eC .non)]))) (sRet (eC (.bl false))) sNext) (sSeq (sIf (bNot (bE (eCall (tw__law_same fu 10) [(eCall (tw_tree_of fu) [(eTup [(eVar 4), (eVar 7)]), (eVar 5)]), (eTup [(eC (.str "end")), (eOp dCatT (eSl dSlT (eVar 5) oNo (oSome (eC (.int 2)))) (eTup [(eOp dMod (eOp dAdd (eOp dIxT (eVar 5) (eC (.int 1))) (eC (.int 3))) (eC (.int 5)))])), (eOp dIxT (eVar 5) (eC (.int 1)))])]))) (sRet (eC (.bl false))) sNext) (sSeq (sAsg (eTup [(eCall (tw__law_many fu) [(eVar 1), (eVar 4), (eLst [(eC (.int 8)), (eC (.int 5)), (eC (.int 5))])]), (eCall (tw__law_many fu) [(eVar 1), (eVar 4), (eLst [(eC (.int 5)), (eC (.int 8)), (eC (.int 5))])])]) (gN 8)) (sSeq (sAsg (eTup [(eTup [(eC (.str "look")), (eTup [(eOp dIxT (eOp dIxT (eVar 4) (eCall (tw__law_take fu) [(eVar 1), (eC (.int 3))])) (eC (.int 0))), (eOp dIxS (eC (.str "=<#")) (eCall (tw__law_take fu) [(eVar 1), (eC (.int 3))])), (eCall (tw__law_take fu) [(eVar 1), (eC (.int 8))])])])]) (gN 9)) (sSeq (sAsg (eOp dCatT (eTup [(eTup [(eC (.str "hand")), (eOp dCatT (eVar 8) (eCall (tw__law_third fu) [(eVar 3)]))])]) (eOp dRepT (eVar 9) (eCall (tw__law_take fu) [(eVar 1), (eC (.int 3))]))) (gN 10)) (sSeq (sIf (bE (eOp dEqI (eVar 3) (eC (.int 8)))) (sSeq (sAsg (eLst [(eTup [(eC (.str "draw")), (eOp dIxT (eOp dIxT (eVar 4) (eC (.int 0))) (eC (.int 0))), (eTup [(eC (.int 1)), (eC (.int 2)), (eC (.int 3)), (eC (.int 4)), (eC (.int 5)), (eC (.int 6)), (eC (.int 7)), (eC (.int 8))])]), (eTup [(eC (.str "hand")), (eFn dTuple [(eComp [none] (iR1 (eC (.int 8))) (gN 0) bTrue (eTup []))])])]) (gN 11)) (sAsg (eOp dCatT (eTup [(eTup [(eC (.str "times")), (eC (.int 30)), (eTup [(eOp dIxL (eVar 11) (eCall (tw__law_take fu) [(eVar 1), (eC (.int 2))]))])])]) (eVar 9)) (gN 10))) sNext) (sSeq (sAsg (eTup []) (gN 12)) (sSeq (sIf (bE (eOp dGt (eVar 3) (eC (.int 0)))) (sAsg (eTup [(eC (.bl false)), (eC (.bl true)), (eC (.bl false)), (eC (.bl true))]) (gN 12)) sNext) (sSeq (sIf (bE (eOp dEqI (eVar 2) (eC (.int 1)))) (sAsg (eOp dCatT (eVar 10) (eTup [(eVar 6)])) (gN 10)) sNext) (sSeq (sIf (bE (eOp dEqI (eVar 2) (eC (.int 2)))) (sAsg (eOp dCatT (eTup [(eVar 6)]) (eVar 10)) (gN 10)) sNext) (sSeq (sIf (bE (eOp dGt (eVar 2) (eC (.int 0)))) (sAsg (eTup [(eC (.bl true)), (eC (.bl false)), (eC (.bl false)), (eC (.bl true))]) (gN 12)) sNext) (sSeq (sIf (bE (eOp (dEqG true) (eOp dIxT (eCall (tw__law_told fu) [(eTup [(eVar 4), (eVar 10)]), (eVar 5)]) (eC (.int 0))) (eVar 12))) (sRet (eC (.bl false))) sNext) (sSeq (sAsg (eCall (tw__law_told fu) [(eTup [(eVar 4), (eOp dCatT (eTup [(eTup [(eC (.str "hand")), (eVar 8)])]) (eVar 9))]), (eVar 5)]) (gT 2 (gsCons (gN 13) (gsCons (gN 14) gsNil)))) (sRet (eAnd (eOp (dEqG false) (eVar 13) (eTup [])) (eOp dEqI (eCall (tw__law_leaves fu) [(eVar 14)]) (eC (.int 400)))))))))))))))))))))))))
noncomputable def tw_law (fu : Nat) : TwF := runTw 1 14 (tb_law fu)
theorem okT_law (T : Tx K mg) : FnOk P w K mg base (CXE P w) 87 T.a_law T.fd_law ["_law_script"] (sTw K 1 (tw_law fu)) :=
 T.F_law.okE sc_law (fun vs H Q E h => h.1) (fun cdv A outer s H vs Q E hr h => ⟨_, (@pss_cons _ _ _ _ _ (@ps_set _ _ 1 _ _ _ _ sc_law.nd rfl (Or.inl rfl) (pe_listRev (K := K) rfl rfl T.n_list rfl T.n_reversed (pe_slice (sl_listK (K := K)) (pv 0) po_none (po_some pe_int))) (by rfl) (by walk_at "q1")) (@pss_cons _ _ _ _ _ (@ps_set _ _ 2 _ _ _ _ sc_law.nd rfl (Or.inl rfl) (pe_call (ok__law_take (fu := fu) T) (hr.mono (by decide)) rfl T.m__law_take T.F__law_take.kp T.b__law_take .nil passE (@pa_cons _ _ _ _ _ (pv 1) (@pa_cons _ _ _ _ _ pe_int pa_nil se_Constant) se_Name)) (by rfl) (by walk_at "q1")) (@pss_cons _ _ _ _ _ (@ps_set _ _ 3 _ _ _ _ sc_law.nd rfl (Or.inl rfl) (pe_call (ok__law_take (fu := fu) T) (hr.mono (by decide)) rfl T.m__law_take T.F__law_take.kp T.b__law_take .nil passE (@pa_cons _ _ _ _ _ (pv 1) (@pa_cons _ _ _ _ _ pe_int pa_nil se_Constant) se_Name)) (by rfl) (by walk_at "q1")) (@pss_cons _ _ _ _ _ (@ps_set _ _ 4 _ _ _ _ sc_law.nd rfl (Or.inl rfl) (@pe_tup _ _ _ _ _ (@pa_cons _ _ _ _ _ (@pe_tup _ _ _ _ _ (@pa_cons _ _ _ _ _ (pe_slice sl_str pe_str (po_some (pe_call (ok__law_take (fu := fu) T) (hr.mono (by decide)) rfl T.m__law_take T.F__law_take.kp T.b__law_take .nil passE (@pa_cons _ _ _ _ _ (pv 1) (@pa_cons _ _ _ _ _ pe_int pa_nil se_Constant) se_Name))) po_none) (@pa_cons _ _ _ _ _ pe_int pa_nil se_Constant) se_Subscript)) (@pa_cons _ _ _ _ _ (@pe_tup _ _ _ _ _ (@pa_cons _ _ _ _ _ pe_str (@pa_cons _ _ _ _ _ pe_int pa_nil se_Constant) se_Constant)) (@pa_cons _ _ _ _ _ (@pe_tup _ _ _ _ _ (@pa_cons _ _ _ _ _ pe_str (@pa_cons _ _ _ _ _ pe_int pa_nil se_Constant) se_Constant)) pa_nil se_Tuple) se_Tuple) se_Tuple)) (by rfl) (by walk_at "q1")) (@pss_cons _ _ _ _ _ (@ps_set _ _ 5 _ _ _ _ sc_law.nd rfl (Or.inl rfl) (@pe_tup _ _ _ _ _ (@pa_cons _ _ _ _ _ (pe_call (ok__law_take (fu := fu) T) (hr.mono (by decide)) rfl T.m__law_take T.F__law_take.kp T.b__law_take .nil passE (@pa_cons _ _ _ _ _ (pv 1) (@pa_cons _ _ _ _ _ pe_int pa_nil se_Constant) se_Name)) (@pa_cons _ _ _ _ _ (pe_call (ok__law_take (fu := fu) T) (hr.mono (by decide)) rfl T.m__law_take T.F__law_take.kp T.b__law_take .nil passE (@pa_cons _ _ _ _ _ (pv 1) (@pa_cons _ _ _ _ _ pe_int pa_nil se_Constant) se_Name)) (@pa_cons _ _ _ _ _ (pe_call (ok__law_take (fu := fu) T) (hr.mono (by decide)) rfl T.m__law_take T.F__law_take.kp T.b__law_take .nil passE (@pa_cons _ _ _ _ _ (pv 1) (@pa_cons _ _ _ _ _ pe_int pa_nil se_Constant) se_Name)) pa_nil se_Call) se_Call) se_Call)) (by rfl) (by walk_at "q1")) (@pss_cons _ _ _ _ _ (@ps_set _ _ 6 _ _ _ _ sc_law.nd rfl (Or.inl rfl) (pe_call (ok__law_loop (fu := fu) T) (hr.mono (by decide)) rfl T.m__law_loop T.F__law_loop.kp T.b__law_loop .nil passE (@pa_cons _ _ _ _ _ (pv 1) (@pa_cons _ _ _ _ _ (pv 4) pa_nil se_Name) se_Name)) (by rfl) (by walk_at "q1")) (@pss_cons _ _ _ _ _ (@ps_set _ _ 7 _ _ _ _ sc_law.nd rfl (Or.inl rfl) (@pe_tup _ _ _ _ _ (@pa_cons _ _ _ _ _ (@pe_tup _ _ _ _ _ (@pa_cons _ _ _ _ _ pe_str (@pa_cons _ _ _ _ _ pe_str (@pa_cons _ _ _ _ _ (@pe_tup _ _ _ _ _ (@pa_cons _ _ _ _ _ pe_str (@pa_cons _ _ _ _ _ pe_str (@pa_cons _ _ _ _ _ pe_int pa_nil se_Constant) se_Constant) se_Constant)) pa_nil se_Tuple) se_Constant) se_Constant)) (@pa_cons _ _ _ _ _ (@pe_tup _ _ _ _ _ (@pa_cons _ _ _ _ _ pe_str (@pa_cons _ _ _ _ _ pe_str pa_nil se_Constant) se_Constant)) pa_nil se_Tuple) se_Tuple)) (by rfl) (by walk_at "q1")) (@pss_cons _ _ _ _ _ (ps_if (pt_cmpR (op_neG (K := K) hr) (pe_call (ok__law_told (fu := fu) T) (hr.mono (by decide)) rfl T.m__law_told T.F__law_told.kp T.b__law_told .nil passE (@pa_cons _ _ _ _ _ (@pe_tup _ _ _ _ _ (@pa_cons _ _ _ _ _ (pv 4) (@pa_cons _ _ _ _ _ (pe_op (op_catA (K := K)) (pv 7) (@pe_tup _ _ _ _ _ (@pa_cons _ _ _ _ _ (pv 6) pa_nil se_Name))) pa_nil se_BinOp) se_Name)) (@pa_cons _ _ _ _ _ (pv 5) pa_nil se_Name) se_Tuple)) (@pe_tup _ _ _ _ _ (@pa_cons _ _ _ _ _ (@pe_tup _ _ _ _ _ (@pa_cons _ _ _ _ _ pe_bl (@pa_cons _ _ _ _ _ pe_bl (@pa_cons _ _ _ _ _ pe_bl (@pa_cons _ _ _ _ _ pe_bl pa_nil se_Constant) se_Constant) se_Constant) se_Constant)) (@pa_cons _ _ _ _ _ pe_non pa_nil se_Constant) se_Tuple)) (by rfl)) (@pss_one _ _ _ (@ps_ret _ _ _ _ pe_bl)) pss_nil) (@pss_cons _ _ _ _ _ (ps_if (pt_not (pt_val (pe_call (ok__law_same (fu := fu) T 10) (hr.mono (by decide)) rfl T.m__law_same T.F__law_same.kp T.b__law_same .nil passE (@pa_cons _ _ _ _ _ (pe_call (ok_tree_of (fu := fu) T) (hr.mono (by decide)) rfl T.m_tree_of T.F_tree_of.kp T.b_tree_of .nil passE (@pa_cons _ _ _ _ _ (@pe_tup _ _ _ _ _ (@pa_cons _ _ _ _ _ (pv 4) (@pa_cons _ _ _ _ _ (pv 7) pa_nil se_Name) se_Name)) (@pa_cons _ _ _ _ _ (pv 5) pa_nil se_Name) se_Tuple)) (@pa_cons _ _ _ _ _ (@pe_tup _ _ _ _ _ (@pa_cons _ _ _ _ _ pe_str (@pa_cons _ _ _ _ _ (pe_op (op_catA (K := K)) (pe_slice (sl_tupA (K := K)) (pv 5) po_none (po_some pe_int)) (@pe_tup _ _ _ _ _ (@pa_cons _ _ _ _ _ (pe_op op_mod (pe_op op_add (@pe_ix _ _ _ _ _ _ _ (ix_tupK (K := K)) (pv 5) pe_int (fun _ _ => rfl)) pe_int) pe_int) pa_nil se_BinOp))) (@pa_cons _ _ _ _ _ (@pe_ix _ _ _ _ _ _ _ (ix_tupK (K := K)) (pv 5) pe_int (fun _ _ => rfl)) pa_nil se_Subscript) se_BinOp) se_Constant)) pa_nil se_Tuple) se_Call)))) (@pss_one _ _ _ (@ps_ret _ _ _ _ pe_bl)) pss_nil) (@pss_cons _ _ _ _ _ (@ps_set _ _ 8 _ _ _ _ sc_law.nd rfl (Or.inl rfl) (@pe_tup _ _ _ _ _ (@pa_cons _ _ _ _ _ (pe_call (ok__law_many (fu := fu) T) (hr.mono (by decide)) rfl T.m__law_many T.F__law_many.kp T.b__law_many .nil passE (@pa_cons _ _ _ _ _ (pv 1) (@pa_cons _ _ _ _ _ (pv 4) (@pa_cons _ _ _ _ _ (@pe_lst _ _ _ _ (@pa_cons _ _ _ _ _ pe_int (@pa_cons _ _ _ _ _ pe_int (@pa_cons _ _ _ _ _ pe_int pa_nil se_Constant) se_Constant) se_Constant)) pa_nil se_List) se_Name) se_Name)) (@pa_cons _ _ _ _ _ (pe_call (ok__law_many (fu := fu) T) (hr.mono (by decide)) rfl T.m__law_many T.F__law_many.kp T.b__law_many .nil passE (@pa_cons _ _ _ _ _ (pv 1) (@pa_cons _ _ _ _ _ (pv 4) (@pa_cons _ _ _ _ _ (@pe_lst _ _ _ _ (@pa_cons _ _ _ _ _ pe_int (@pa_cons _ _ _ _ _ pe_int (@pa_cons _ _ _ _ _ pe_int pa_nil se_Constant) se_Constant) se_Constant)) pa_nil se_List) se_Name) se_Name)) pa_nil se_Call) se_Call)) (by rfl) (by walk_at "q1")) (@pss_cons _ _ _ _ _ (@ps_set _ _ 9 _ _ _ _ sc_law.nd rfl (Or.inl rfl) (@pe_tup _ _ _ _ _ (@pa_cons _ _ _ _ _ (@pe_tup _ _ _ _ _ (@pa_cons _ _ _ _ _ pe_str (@pa_cons _ _ _ _ _ (@pe_tup _ _ _ _ _ (@pa_cons _ _ _ _ _ (@pe_ix _ _ _ _ _ _ _ (ix_tupK (K := K)) (@pe_ix _ _ _ _ _ _ _ (ix_tupK (K := K)) (pv 4) (pe_call (ok__law_take (fu := fu) T) (hr.mono (by decide)) rfl T.m__law_take T.F__law_take.kp T.b__law_take .nil passE (@pa_cons _ _ _ _ _ (pv 1) (@pa_cons _ _ _ _ _ pe_int pa_nil se_Constant) se_Name)) (fun _ _ => rfl)) pe_int (fun _ _ => rfl)) (@pa_cons _ _ _ _ _ (@pe_ix _ _ _ _ _ _ _ ix_str pe_str (pe_call (ok__law_take (fu := fu) T) (hr.mono (by decide)) rfl T.m__law_take T.F__law_take.kp T.b__law_take .nil passE (@pa_cons _ _ _ _ _ (pv 1) (@pa_cons _ _ _ _ _ pe_int pa_nil se_Constant) se_Name)) (fun _ _ => rfl)) (@pa_cons _ _ _ _ _ (pe_call (ok__law_take (fu := fu) T) (hr.mono (by decide)) rfl T.m__law_take T.F__law_take.kp T.b__law_take .nil passE (@pa_cons _ _ _ _ _ (pv 1) (@pa_cons _ _ _ _ _ pe_int pa_nil se_Constant) se_Name)) pa_nil se_Call) se_Subscript) se_Subscript)) pa_nil se_Tuple) se_Constant)) pa_nil se_Tuple)) (by rfl) (by walk_at "q1")) (@pss_cons _ _ _ _ _ (@ps_set _ _ 10 _ _ _ _ sc_law.nd rfl (Or.inl rfl) (pe_op (op_catA (K := K)) (@pe_tup _ _ _ _ _ (@pa_cons _ _ _ _ _ (@pe_tup _ _ _ _ _ (@pa_cons _ _ _ _ _ pe_str (@pa_cons _ _ _ _ _ (pe_op (op_catA (K := K)) (pv 8) (pe_call (ok__law_third (fu := fu) T) (hr.mono (by decide)) rfl T.m__law_third T.F__law_third.kp T.b__law_third .nil passE (@pa_cons _ _ _ _ _ (pv 3) pa_nil se_Name))) pa_nil se_BinOp) se_Constant)) pa_nil se_Tuple)) (pe_op (op_repTK (K := K)) (pv 9) (pe_call (ok__law_take (fu := fu) T) (hr.mono (by decide)) rfl T.m__law_take T.F__law_take.kp T.b__law_take .nil passE (@pa_cons _ _ _ _ _ (pv 1) (@pa_cons _ _ _ _ _ pe_int pa_nil se_Constant) se_Name)))) (by rfl) (by walk_at "q1")) (@pss_cons _ _ _ _ _ (ps_if (pt_cmp (pc_eqI (pv 3) pe_int)) (@pss_cons _ _ _ _ _ (@ps_set _ _ 11 _ _ _ _ sc_law.nd rfl (Or.inl rfl) (@pe_lst _ _ _ _ (@pa_cons _ _ _ _ _ (@pe_tup _ _ _ _ _ (@pa_cons _ _ _ _ _ pe_str (@pa_cons _ _ _ _ _ (@pe_ix _ _ _ _ _ _ _ (ix_tupK (K := K)) (@pe_ix _ _ _ _ _ _ _ (ix_tupK (K := K)) (pv 4) pe_int (fun _ _ => rfl)) pe_int (fun _ _ => rfl)) (@pa_cons _ _ _ _ _ (@pe_tup _ _ _ _ _ (@pa_cons _ _ _ _ _ pe_int (@pa_cons _ _ _ _ _ pe_int (@pa_cons _ _ _ _ _ pe_int (@pa_cons _ _ _ _ _ pe_int (@pa_cons _ _ _ _ _ pe_int (@pa_cons _ _ _ _ _ pe_int (@pa_cons _ _ _ _ _ pe_int (@pa_cons _ _ _ _ _ pe_int pa_nil se_Constant) se_Constant) se_Constant) se_Constant) se_Constant) se_Constant) se_Constant) se_Constant)) pa_nil se_Tuple) se_Subscript) se_Constant)) (@pa_cons _ _ _ _ _ (@pe_tup _ _ _ _ _ (@pa_cons _ _ _ _ _ pe_str (@pa_cons _ _ _ _ _ (pe_callTy (call_tupleK (K := K)) rfl T.n_tuple boot_tuple (pa_cons (pe_comp (N' := ["_law_k"]) rfl (blk (osc := defScope s_law) rfl (by decide +kernel)) (cap_own cap_nil) (pi_range1 rfl T.n_range (@pa_cons _ _ _ _ _ pe_int pa_nil se_Constant)) (gown_name rfl) (fun C s₀ H₀ fp => pg_name (i := 0) (show (["_law_k"] : List Str).Nodup from by decide +kernel) rfl (Or.inl rfl)) (fun C s₀ H₀ fp => pts_nil) (fun C s₀ H₀ fp => (@pe_tup _ _ _ _ _ pa_nil))) pa_nil)) pa_nil se_Call) se_Constant)) pa_nil se_Tuple) se_Tuple)) (by rfl) (by walk_at "q1")) (@pss_one _ _ _ (@ps_set _ _ 10 _ _ _ _ sc_law.nd rfl (Or.inl rfl) (pe_op (op_catA (K := K)) (@pe_tup _ _ _ _ _ (@pa_cons _ _ _ _ _ (@pe_tup _ _ _ _ _ (@pa_cons _ _ _ _ _ pe_str (@pa_cons _ _ _ _ _ pe_int (@pa_cons _ _ _ _ _ (@pe_tup _ _ _ _ _ (@pa_cons _ _ _ _ _ (@pe_ix _ _ _ _ _ _ _ (ix_listK (K := K)) (pv 11) (pe_call (ok__law_take (fu := fu) T) (hr.mono (by decide)) rfl T.m__law_take T.F__law_take.kp T.b__law_take .nil passE (@pa_cons _ _ _ _ _ (pv 1) (@pa_cons _ _ _ _ _ pe_int pa_nil se_Constant) se_Name)) (fun _ _ => rfl)) pa_nil se_Subscript)) pa_nil se_Tuple) se_Constant) se_Constant)) pa_nil se_Tuple)) (pv 9)) (by rfl) (by walk_at "q1")))) pss_nil) (@pss_cons _ _ _ _ _ (@ps_set _ _ 12 _ _ _ _ sc_law.nd rfl (Or.inl rfl) (@pe_tup _ _ _ _ _ pa_nil) (by rfl) (by walk_at "q1")) (@pss_cons _ _ _ _ _ (ps_if (pt_cmp (pc_gt (pv 3) pe_int)) (@pss_one _ _ _ (@ps_set _ _ 12 _ _ _ _ sc_law.nd rfl (Or.inl rfl) (@pe_tup _ _ _ _ _ (@pa_cons _ _ _ _ _ pe_bl (@pa_cons _ _ _ _ _ pe_bl (@pa_cons _ _ _ _ _ pe_bl (@pa_cons _ _ _ _ _ pe_bl pa_nil se_Constant) se_Constant) se_Constant) se_Constant)) (by rfl) (by walk_at "q1"))) pss_nil) (@pss_cons _ _ _ _ _ (ps_if (pt_cmp (pc_eqI (pv 2) pe_int)) (@pss_one _ _ _ (@ps_set _ _ 10 _ _ _ _ sc_law.nd rfl (Or.inl rfl) (pe_op (op_catA (K := K)) (pv 10) (@pe_tup _ _ _ _ _ (@pa_cons _ _ _ _ _ (pv 6) pa_nil se_Name))) (by rfl) (by walk_at "q1"))) pss_nil) (@pss_cons _ _ _ _ _ (ps_if (pt_cmp (pc_eqI (pv 2) pe_int)) (@pss_one _ _ _ (@ps_set _ _ 10 _ _ _ _ sc_law.nd rfl (Or.inl rfl) (pe_op (op_catA (K := K)) (@pe_tup _ _ _ _ _ (@pa_cons _ _ _ _ _ (pv 6) pa_nil se_Name)) (pv 10)) (by rfl) (by walk_at "q1"))) pss_nil) (@pss_cons _ _ _ _ _ (ps_if (pt_cmp (pc_gt (pv 2) pe_int)) (@pss_one _ _ _ (@ps_set _ _ 12 _ _ _ _ sc_law.nd rfl (Or.inl rfl) (@pe_tup _ _ _ _ _ (@pa_cons _ _ _ _ _ pe_bl (@pa_cons _ _ _ _ _ pe_bl (@pa_cons _ _ _ _ _ pe_bl (@pa_cons _ _ _ _ _ pe_bl pa_nil se_Constant) se_Constant) se_Constant) se_Constant)) (by rfl) (by walk_at "q1"))) pss_nil) (@pss_cons _ _ _ _ _ (ps_if (pt_cmpR (op_neG (K := K) hr) (@pe_ix _ _ _ _ _ _ _ (ix_tupK (K := K)) (pe_call (ok__law_told (fu := fu) T) (hr.mono (by decide)) rfl T.m__law_told T.F__law_told.kp T.b__law_told .nil passE (@pa_cons _ _ _ _ _ (@pe_tup _ _ _ _ _ (@pa_cons _ _ _ _ _ (pv 4) (@pa_cons _ _ _ _ _ (pv 10) pa_nil se_Name) se_Name)) (@pa_cons _ _ _ _ _ (pv 5) pa_nil se_Name) se_Tuple)) pe_int (fun _ _ => rfl)) (pv 12) (by rfl)) (@pss_one _ _ _ (@ps_ret _ _ _ _ pe_bl)) pss_nil) (@pss_cons _ _ _ _ _ (ps_asg (pe_call (ok__law_told (fu := fu) T) (hr.mono (by decide)) rfl T.m__law_told T.F__law_told.kp T.b__law_told .nil passE (@pa_cons _ _ _ _ _ (@pe_tup _ _ _ _ _ (@pa_cons _ _ _ _ _ (pv 4) (@pa_cons _ _ _ _ _ (pe_op (op_catA (K := K)) (@pe_tup _ _ _ _ _ (@pa_cons _ _ _ _ _ (@pe_tup _ _ _ _ _ (@pa_cons _ _ _ _ _ pe_str (@pa_cons _ _ _ _ _ (pv 8) pa_nil se_Name) se_Constant)) pa_nil se_Tuple)) (pv 9)) pa_nil se_BinOp) se_Name)) (@pa_cons _ _ _ _ _ (pv 5) pa_nil se_Name) se_Tuple)) (pg_tupK (K := K) (n := 2) rfl (pgs_cons (pg_name (i := 13) sc_law.nd rfl (Or.inl rfl)) (pgs_cons (pg_name (i := 14) sc_law.nd rfl (Or.inl rfl)) pgs_nil)))) (@pss_one _ _ _ (@ps_ret _ _ _ _ (pe_and (pe_cmpR (op_eqG (K := K) hr) (pv 13) (@pe_tup _ _ _ _ _ pa_nil) (by rfl)) (pe_one (pe_cmp (pc_eqI (pe_call (ok__law_leaves (fu := fu) T) (hr.mono (by decide)) rfl T.m__law_leaves T.F__law_leaves.kp T.b__law_leaves .nil passE (@pa_cons _ _ _ _ _ (pv 14) pa_nil se_Name)) pe_int)))))))))))))))))))))))))), fn_tw (n := 1) (k := 14) (b := tb_law fu) rfl (rs_seq (rs_asg (re_listRev (re_slL (re_var 0) ro_no (ro_some (re_int _)))) rg_name) (rs_seq (rs_asg (re_call (rl_cons (re_var 1) (rl_cons (re_int _) rl_nil))) rg_name) (rs_seq (rs_asg (re_call (rl_cons (re_var 1) (rl_cons (re_int _) rl_nil))) rg_name) (rs_seq (rs_asg (re_tup (rl_cons (re_tup (rl_cons (re_slS (re_str _) (ro_some (re_call (rl_cons (re_var 1) (rl_cons (re_int _) rl_nil)))) ro_no) (rl_cons (re_int _) rl_nil))) (rl_cons (re_tup (rl_cons (re_str _) (rl_cons (re_int _) rl_nil))) (rl_cons (re_tup (rl_cons (re_str _) (rl_cons (re_int _) rl_nil))) rl_nil)))) rg_name) (rs_seq (rs_asg (re_tup (rl_cons (re_call (rl_cons (re_var 1) (rl_cons (re_int _) rl_nil))) (rl_cons (re_call (rl_cons (re_var 1) (rl_cons (re_int _) rl_nil))) (rl_cons (re_call (rl_cons (re_var 1) (rl_cons (re_int _) rl_nil))) rl_nil)))) rg_name) (rs_seq (rs_asg (re_call (rl_cons (re_var 1) (rl_cons (re_var 4) rl_nil))) rg_name) (rs_seq (rs_asg (re_tup (rl_cons (re_tup (rl_cons (re_str _) (rl_cons (re_str _) (rl_cons (re_tup (rl_cons (re_str _) (rl_cons (re_str _) (rl_cons (re_int _) rl_nil)))) rl_nil)))) (rl_cons (re_tup (rl_cons (re_str _) (rl_cons (re_str _) rl_nil))) rl_nil))) rg_name) (rs_seq (rs_if (rt_test (re_op r2_eqG (re_call (rl_cons (re_tup (rl_cons (re_var 4) (rl_cons (re_op r2_catT (re_var 7) (re_tup (rl_cons (re_var 6) rl_nil))) rl_nil))) (rl_cons (re_var 5) rl_nil))) (re_tup (rl_cons (re_tup (rl_cons (re_bl _) (rl_cons (re_bl _) (rl_cons (re_bl _) (rl_cons (re_bl _) rl_nil))))) (rl_cons re_non rl_nil))))) (rs_ret (re_bl _)) rs_next) (rs_seq (rs_if (rt_not (rt_e (re_call (rl_cons (re_call (rl_cons (re_tup (rl_cons (re_var 4) (rl_cons (re_var 7) rl_nil))) (rl_cons (re_var 5) rl_nil))) (rl_cons (re_tup (rl_cons (re_str _) (rl_cons (re_op r2_catT (re_slT (re_var 5) ro_no (ro_some (re_int _))) (re_tup (rl_cons (re_op r2_mod (re_op r2_add (re_op r2_ixT (re_var 5) (re_int _)) (re_int _)) (re_int _)) rl_nil))) (rl_cons (re_op r2_ixT (re_var 5) (re_int _)) rl_nil)))) rl_nil))))) (rs_ret (re_bl _)) rs_next) (rs_seq (rs_asg (re_tup (rl_cons (re_call (rl_cons (re_var 1) (rl_cons (re_var 4) (rl_cons (re_lst (rl_cons (re_int _) (rl_cons (re_int _) (rl_cons (re_int _) rl_nil)))) rl_nil)))) (rl_cons (re_call (rl_cons (re_var 1) (rl_cons (re_var 4) (rl_cons (re_lst (rl_cons (re_int _) (rl_cons (re_int _) (rl_cons (re_int _) rl_nil)))) rl_nil)))) rl_nil))) rg_name) (rs_seq (rs_asg (re_tup (rl_cons (re_tup (rl_cons (re_str _) (rl_cons (re_tup (rl_cons (re_op r2_ixT (re_op r2_ixT (re_var 4) (re_call (rl_cons (re_var 1) (rl_cons (re_int _) rl_nil)))) (re_int _)) (rl_cons (re_op r2_ixS (re_str _) (re_call (rl_cons (re_var 1) (rl_cons (re_int _) rl_nil)))) (rl_cons (re_call (rl_cons (re_var 1) (rl_cons (re_int _) rl_nil))) rl_nil)))) rl_nil))) rl_nil)) rg_name) (rs_seq (rs_asg (re_op r2_catT (re_tup (rl_cons (re_tup (rl_cons (re_str _) (rl_cons (re_op r2_catT (re_var 8) (re_call (rl_cons (re_var 3) rl_nil))) rl_nil))) rl_nil)) (re_op r2_repT (re_var 9) (re_call (rl_cons (re_var 1) (rl_cons (re_int _) rl_nil))))) rg_name) (rs_seq (rs_if (rt_e (re_eqI (re_var 3) (re_int _))) (rs_seq (rs_asg (re_lst (rl_cons (re_tup (rl_cons (re_str _) (rl_cons (re_op r2_ixT (re_op r2_ixT (re_var 4) (re_int _)) (re_int _)) (rl_cons (re_tup (rl_cons (re_int _) (rl_cons (re_int _) (rl_cons (re_int _) (rl_cons (re_int _) (rl_cons (re_int _) (rl_cons (re_int _) (rl_cons (re_int _) (rl_cons (re_int _) rl_nil))))))))) rl_nil)))) (rl_cons (re_tup (rl_cons (re_str _) (rl_cons (re_fn rc_tuple (rl_cons (re_comp (cap := [none]) (ri_range1 (re_int _)) rg_name rt_true (re_tup rl_nil)) rl_nil)) rl_nil))) rl_nil))) rg_name) (rs_asg (re_op r2_catT (re_tup (rl_cons (re_tup (rl_cons (re_str _) (rl_cons (re_int _) (rl_cons (re_tup (rl_cons (re_op r2_ixL (re_var 11) (re_call (rl_cons (re_var 1) (rl_cons (re_int _) rl_nil)))) rl_nil)) rl_nil)))) rl_nil)) (re_var 9)) rg_name)) rs_next) (rs_seq (rs_asg (re_tup rl_nil) rg_name) (rs_seq (rs_if (rt_e (re_gt (re_var 3) (re_int _))) (rs_asg (re_tup (rl_cons (re_bl _) (rl_cons (re_bl _) (rl_cons (re_bl _) (rl_cons (re_bl _) rl_nil))))) rg_name) rs_next) (rs_seq (rs_if (rt_e (re_eqI (re_var 2) (re_int _))) (rs_asg (re_op r2_catT (re_var 10) (re_tup (rl_cons (re_var 6) rl_nil))) rg_name) rs_next) (rs_seq (rs_if (rt_e (re_eqI (re_var 2) (re_int _))) (rs_asg (re_op r2_catT (re_tup (rl_cons (re_var 6) rl_nil)) (re_var 10)) rg_name) rs_next) (rs_seq (rs_if (rt_e (re_gt (re_var 2) (re_int _))) (rs_asg (re_tup (rl_cons (re_bl _) (rl_cons (re_bl _) (rl_cons (re_bl _) (rl_cons (re_bl _) rl_nil))))) rg_name) rs_next) (rs_seq (rs_if (rt_test (re_op r2_eqG (re_op r2_ixT (re_call (rl_cons (re_tup (rl_cons (re_var 4) (rl_cons (re_var 10) rl_nil))) (rl_cons (re_var 5) rl_nil))) (re_int _)) (re_var 12))) (rs_ret (re_bl _)) rs_next) (rs_seq (rs_asg (re_call (rl_cons (re_tup (rl_cons (re_var 4) (rl_cons (re_op r2_catT (re_tup (rl_cons (re_tup (rl_cons (re_str _) (rl_cons (re_var 8) rl_nil))) rl_nil)) (re_var 9)) rl_nil))) (rl_cons (re_var 5) rl_nil))) (rg_tup (rgs_cons rg_name (rgs_cons rg_name rgs_nil)))) (rs_ret (re_and (re_op r2_eqG (re_var 13) (re_tup rl_nil)) (re_eqI (re_call (rl_cons (re_var 14) rl_nil)) (re_int _)))))))))))))))))))))))) h⟩)
end

section
open Mth
noncomputable def Big (fu : Nat) : Prop := 2 ^ 9000 ≤ fu
theorem Big.le {fu : Nat} (h : Big fu) : 1000000 ≤ fu := Nat.le_trans (show 1000000 ≤ 2 ^ 20 by decide) (Nat.le_trans (Nat.pow_le_pow_right (by decide) (by decide)) h)
local macro_rules | `(tactic| walk_at "w1") => `(tactic| first
 | with_reducible apply wx_c | ((with_reducible apply wx_var); exact rfl) | with_reducible apply wx_nil | with_reducible apply wx_oNo | with_reducible apply wx_next | with_reducible apply wx_true
 | with_reducible apply wx_seq | ((with_reducible apply wx_set); try dsimp only [List.set]) | with_reducible apply wx_expr | with_reducible apply wx_ret | with_reducible apply wx_par
 | with_reducible apply wx_op | with_reducible apply wx_un | with_reducible apply wx_bE | with_reducible apply wx_eB | with_reducible apply wx_not
 | with_reducible apply wx_cons | with_reducible apply wx_tup | with_reducible apply wx_lst | with_reducible apply wx_fn | with_reducible apply wx_call
 | with_reducible apply wx_oSome | with_reducible apply wx_sl | with_reducible apply wx_dict0
 | with_reducible apply ox_add | with_reducible apply ox_sub | with_reducible apply ox_neg | with_reducible apply ox_lt | with_reducible apply ox_le | with_reducible apply ox_gt | with_reducible apply ox_ge | with_reducible apply ox_eqI | with_reducible apply ox_neI
 | with_reducible apply ox_min | with_reducible apply ox_max | with_reducible apply ox_ix0 | with_reducible apply ox_ix1
 | ((with_reducible apply ox_pow); exact ⟨by decide, by decide, by decide⟩)
 | ((with_reducible apply ox_mul); first | exact .inl (by decide) | exact .inr (by decide))
 | with_reducible refine Exists.intro _ (And.intro rfl ?_))
local macro_rules | `(tactic| walk_at "w") => `(tactic| repeat walk_at "w1")
local macro_rules | `(tactic| walk_at "wr") => `(tactic| (refine wx_run rfl rfl ?_; dsimp only [List.map, HAppend.hAppend, Append.append, List.append, List.replicate]))
section
variable {fu : Nat} {S S' S2 : Sto} {x y : Xv}
theorem wx_ifT {c : Prop} [Decidable c] {A B : Prop} (h : c → A) (g : ¬ c → B) : (decide c = true → A) ∧ (decide c = false → B) := ⟨fun e => h (of_decide_eq_true e), fun e => g (of_decide_eq_false e)⟩
noncomputable def Kp (w : Nat → Prop) (S S' : Sto) : Prop := S.length ≤ S'.length ∧ ∀ (n : Nat) c, S[n]? = some c → ¬ w n → S'[n]? = some c
theorem Kp.refl (w : Nat → Prop) : Kp w S S := ⟨Nat.le_refl _, fun _ _ e _ => e⟩
theorem Kp.trans {w : Nat → Prop} (a : Kp w S S') (b : Kp w S' S2) : Kp w S S2 := ⟨Nat.le_trans a.1 b.1, fun n c e z => b.2 n c (a.2 n c e z) z⟩
theorem Kp.mono {w w' : Nat → Prop} (a : Kp w S S') (h : ∀ n, w n → w' n) : Kp w' S S' := ⟨a.1, fun n c e z => a.2 n c e fun q => z (h n q)⟩
theorem Kp.pre {w : Nat → Prop} (p : S <+: S') : Kp w S S' := ⟨p.length_le, fun n c e _ => by
 obtain ⟨T, rfl⟩ := p
 rw [List.getElem?_append_left (List.getElem?_eq_some_iff.1 e).1]
 exact e⟩
theorem Kp.app {w : Nat → Prop} {T : Sto} (a : Kp w S S') : Kp w S (S' ++ T) := a.trans (Kp.pre (List.prefix_append _ _))
theorem Kp.set {w : Nat → Prop} {n : Nat} {c : Ce} (a : Kp w S S') (h : w n ∨ S.length ≤ n) : Kp w S (S'.set n c) := ⟨by simpa using a.1, fun m d e z => by
 rw [List.getElem?_set]
 have hm := (List.getElem?_eq_some_iff.1 e).1
 rw [if_neg fun q => by
  subst q
  rcases h with h | h
  ·exact z h
  ·omega]
 exact a.2 m d e z⟩
theorem at_new {c : Ce} : (S ++ [c])[S.length]? = some c := by simp
theorem at_set {n : Nat} {c c' : Ce} (h : S[n]? = some c) : (S.set n c')[n]? = some c' := by rw [List.getElem?_set, if_pos rfl, if_pos (List.getElem?_eq_some_iff.1 h).1]
theorem at_oth {n m : Nat} {c c' : Ce} (h : S[m]? = some c) (q : n ≠ m) : (S.set n c')[m]? = some c := by rw [List.getElem?_set, if_neg q]; exact h
theorem sz100 {n : Nat} (h : n ≤ 100) : n < sizeLine := Nat.lt_of_le_of_lt h (by decide)
theorem sz999 {n : Nat} (h : n ≤ 999) : n < sizeLine := Nat.lt_of_le_of_lt h (by decide)
noncomputable def LeftAt (ln : Nat) (S : Sto) : Prop := ∃ ns : List Int, S[ln]? = some (.lst (ns.map Xv.int))
theorem LeftAt.keep {w : Nat → Prop} {ln : Nat} (h : LeftAt ln S) (k : Kp w S S') (z : ¬ w ln) : LeftAt ln S' := by
 obtain ⟨ns, e⟩ := h
 exact ⟨ns, k.2 _ _ e z⟩
theorem t_take {ln : Nat} {many : Int} (hl : LeftAt ln S) (hm : 0 < many) : W (tw__law_take fu [.ref ln, .int many] S) fun v S' => ∃ c, v = .int c ∧ 0 ≤ c ∧ c < many ∧ LeftAt ln S' ∧ Kp (· = ln) S S' := by
 obtain ⟨ns, e⟩ := id hl
 walk_at "wr"; unfold tb__law_take; walk_at "w"
 refine wx_if ?_
 walk_at "w"
 refine ox_len (lstAt_of e) ?_
 walk_at "w"
 rw [List.length_map]
 refine wx_ifT (fun h => ?_) (fun h => ?_)
 ·walk_at "w"
  exact ⟨by omega, hm, hl, Kp.refl _⟩
 ·walk_at "w"
  refine wx_mt ?_
  walk_at "w"
  refine ⟨⟨_, lstAt_of e⟩, ?_⟩
  walk_at "w"
  have hn : ns.length - 1 < ns.length := by omega
  refine WO.of (show mPop (.ref ln) [] S = some (.int ns[ns.length - 1], S.set ln (.lst (ns.dropLast.map Xv.int))) by
   unfold mPop
   rw [wlAt_of e]
   dsimp only
   rw [List.length_map, List.getElem?_map, List.getElem?_eq_getElem hn, ← List.map_dropLast]
   rfl) ?_
  walk_at "w"
  refine ox_mod hm ?_
  refine ⟨_, rfl, Int.emod_nonneg _ (by omega), Int.emod_lt_of_pos _ hm, ⟨_, at_set e⟩, (Kp.refl _).set (.inl rfl)⟩
noncomputable def plX : Nat → Xv → Bool
 | _, .int _ => true
 | _, .str _ => true
 | n + 1, .tup l => decide (l.length ≤ 100) && l.all (plX n)
 | _, _ => false
theorem ix_A {l : List Xv} {i : Int} {z : Xv} (h : atI l i = some z) : dIxA (.tup l) (.int i) S = some (z, S) := by
 show (atI l i).map (fun z => (z, S)) = _
 rw [h]; rfl
theorem bols_yes : ∀ n : Nat, bolsX (List.replicate n (Xv.bl true)) = some (List.replicate n true)
 | 0 => rfl
 | n + 1 => by rw [List.replicate_succ, List.replicate_succ]; simp [bolsX, bols_yes n]
theorem ox_all {P : Xv → Sto → Prop} {l : List Xv} {bs : List Bool} (h : lstAt S x = some l) (h2 : bolsX l = some bs) (k : P (.bl (bs.all id)) S) : WO (dAll [x] S) P := .of (by unfold dAll; dsimp only; rw [h, Option.bind_some, h2]; rfl) k
theorem ox_eqSs {P : Xv → Sto → Prop} {a b : Str} (k : P (.bl (decide (a = b))) S) : WO (dEqS false (.str a) (.str b) S) P := .of (by show some (Xv.bl (false != decide (a = b)), S) = _; rw [Bool.false_bne]) k
theorem ox_eqSi {P : Xv → Sto → Prop} {a b : Int} (k : P (.bl (decide (a = b))) S) : WO (dEqS false (.int a) (.int b) S) P := .of (by show some (Xv.bl (false != decide (a = b)), S) = _; rw [Bool.false_bne]) k
theorem t_same : ∀ (n : Nat) {S : Sto} {x : Xv}, plX n x = true → W (tw__law_same fu (n + 1) [x, x] S) fun v S' => v = .bl true ∧ S <+: S' := by
 have flat : ∀ (n : Nat) {S : Sto} {x : Xv}, ((∃ i, x = .int i) ∨ ∃ s, x = .str s) → W (tw__law_same fu (n + 1) [x, x] S) fun v S' => v = .bl true ∧ S <+: S' := by
  intro n S x hx
  rw [tw__law_same_succ]
  walk_at "wr"; unfold tb__law_same
  refine wx_seq (wx_if ?_)
  walk_at "w"
  refine ox_isi (v := false) (by rcases hx with ⟨i, rfl⟩ | ⟨s, rfl⟩ <;> rfl) ?_
  refine ⟨_, rfl, fun z => (by cases z), fun _ => wx_next ?_⟩
  refine wx_seq (wx_if ?_)
  walk_at "w"
  refine ox_isi (v := false) (by rcases hx with ⟨i, rfl⟩ | ⟨s, rfl⟩ <;> rfl) ?_
  refine ⟨_, rfl, fun z => (by cases z), fun _ => wx_next ?_⟩
  refine wx_seq (wx_if ?_)
  walk_at "w"
  refine WO.of (show dIsN x S = some (.bl false, S) by rcases hx with ⟨i, rfl⟩ | ⟨s, rfl⟩ <;> rfl) ?_
  refine ⟨_, rfl, fun z => (by cases z), fun _ => wx_next ?_⟩
  refine wx_seq (wx_if ?_)
  walk_at "w"
  rcases hx with ⟨i, rfl⟩ | ⟨s, rfl⟩
  ·refine ox_isi (v := false) rfl ?_
   refine ⟨_, rfl, fun z => (by cases z), fun _ => wx_next ?_⟩
   refine wx_ret (wx_eAnd ?_)
   walk_at "w"
   refine ox_isi (v := true) rfl ?_
   refine ⟨_, rfl, fun _ => ?_, fun z => (by cases z)⟩
   refine wx_eAnd ?_
   walk_at "w"
   refine ox_isi (v := false) rfl ?_
   refine ⟨_, rfl, _, rfl, fun _ => ?_, fun z => (by cases z)⟩
   walk_at "w"
   refine ox_eqSi ?_
   exact ⟨by rw [decide_eq_true rfl], List.prefix_refl _⟩
  ·refine ox_isi (v := true) rfl ?_
   refine ⟨_, rfl, fun _ => ?_, fun z => (by cases z)⟩
   refine wx_ret (wx_eAnd ?_)
   walk_at "w"
   refine ox_isi (v := true) rfl ?_
   refine ⟨_, rfl, fun _ => ?_, fun z => (by cases z)⟩
   walk_at "w"
   refine ox_eqSs ?_
   exact ⟨by rw [decide_eq_true rfl], List.prefix_refl _⟩
 intro n
 induction n with
 | zero =>
  intro S x h
  refine flat 0 ?_
  cases x <;> first | exact .inl ⟨_, rfl⟩ | exact .inr ⟨_, rfl⟩ | (simp [plX] at h)
 | succ n ih =>
  intro S x h
  cases x with
  | int i => exact flat _ (.inl ⟨_, rfl⟩)
  | str i => exact flat _ (.inr ⟨_, rfl⟩)
  | tup l =>
   unfold plX at h
   rw [Bool.and_eq_true, List.all_eq_true] at h
   obtain ⟨hl, hall⟩ := h
   have hl := of_decide_eq_true hl
   rw [tw__law_same_succ]
   walk_at "wr"; unfold tb__law_same
   refine wx_seq (wx_if ?_)
   walk_at "w"
   refine ox_isi (v := true) rfl ?_
   refine ⟨_, rfl, fun _ => ?_, fun z => (by cases z)⟩
   refine wx_seq (wx_if (wx_or ?_))
   walk_at "w"
   refine ox_isi (v := true) rfl ?_
   refine ⟨_, rfl, fun z => (by cases z), fun _ => ?_⟩
   walk_at "w"
   refine WO.of (show dLen [Xv.tup l] S = some (.int l.length, S) from rfl) ?_
   walk_at "w"
   refine WO.of (show dLen [Xv.tup l] S = some (.int l.length, S) from rfl) ?_
   walk_at "w"
   refine ⟨fun z => ?_, fun _ => wx_next ?_⟩
   ·simp at z
   refine wx_ret (wx_fn (wx_cons ?_))
   refine wx_comp (wx_iR1 ?_)
   walk_at "w"
   refine WO.of (show dLen [Xv.tup l] S = some (.int l.length, S) from rfl) ?_
   refine ⟨_, rfl, ⟨by omega, by omega⟩, _, rfl, ?_⟩
   refine wx_compI (by rw [rangeX_len]; exact Nat.le_of_lt (sz100 (by omega))) (fun i es S2 => S <+: S2 ∧ es = List.replicate i (.bl true)) (fun _ _ _ _ _ => rfl) ?_ ⟨List.prefix_refl _, rfl⟩ ?_
   ·rintro i w es S2 hw hel ⟨p2, rfl⟩
    obtain ⟨hi, rfl⟩ := rangeX_at hw
    have hil : i < l.length := by omega
    have hia : atI l ((0 : Int) + (i : Int)) = some l[i] := by rw [Int.zero_add]; exact atI_nn (by omega) (by rw [Int.toNat_natCast]; exact List.getElem?_eq_getElem hil)
    refine .of rfl ?_
    dsimp only [capR, List.map, List.set]
    walk_at "w"
    refine ⟨rfl, ?_⟩
    walk_at "w"
    refine WO.of (ix_A hia) ?_
    walk_at "w"
    refine WO.of (ix_A hia) ?_
    walk_at "w"
    refine (ih (hall _ (List.getElem_mem hil))).imp ?_
    rintro _ S3 ⟨rfl, p3⟩
    exact ⟨p2.trans p3, by rw [List.replicate_succ']⟩
   ·rintro es S2 _ ⟨p2, rfl⟩
    walk_at "w"
    refine ox_all lstAt_new (bols_yes _) ?_
    refine ⟨by simp, p2.trans (List.prefix_append _ _)⟩
  | _ => simp [plX] at h
end
section
variable {fu : Nat} {S S' S2 : Sto} {x y : Xv}
theorem ox_slT {P : Xv → Sto → Prop} {l : List Xv} {lo hi : Option Int} (k : P (.tup (L2.cutD l lo hi)) S) : WO (dSlT (.tup l) lo hi S) P := .of (by unfold dSlT; rfl) k
theorem atI_nat {l : List Xv} {i : Nat} {z : Xv} (h : l[i]? = some z) : atI l (i : Int) = some z := atI_nn (by omega) (by rw [Int.toNat_natCast]; exact h)
theorem getP {α : Type} {l l' : List α} {i : Nat} {a : α} (p : l <+: l') (h : l[i]? = some a) : l'[i]? = some a := by
 obtain ⟨t, rfl⟩ := p
 rw [List.getElem?_append_left (List.getElem?_eq_some_iff.1 h).1]; exact h
noncomputable def bsV (z : Str) : Xv := .tup [.tup [.str z, .int 8], .tup [.str "x", .int 5], .tup [.str "y", .int 5]]
noncomputable def stV (a b c : Int) : Xv := .tup [.int a, .int b, .int c]
noncomputable def Nm (z : Str) (nm : Str) (i : Nat) : Prop := (nm = z ∧ i = 0) ∨ (nm = "x" ∧ nm ≠ z ∧ i = 1) ∨ (nm = "y" ∧ nm ≠ z ∧ i = 2)
theorem t_place {z nm : Str} {i : Nat} (h : Nm z nm i) : W (tw_place_of fu [bsV z, .str nm] S) fun v S' => v = .int (i : Int) ∧ S <+: S' := by
 walk_at "wr"; unfold tb_place_of
 refine wx_ret (wx_mt (wx_comp (wx_iT ?_)))
 walk_at "w"
 refine wx_compI (xs := [.tup [.str z, .int 8], .tup [.str "x", .int 5], .tup [.str "y", .int 5]]) (show (3 : Nat) ≤ sizeLine by decide) (fun i es S2 => S2 = S ∧ es = ([Xv.str z, .str "x", .str "y"]).take i) (fun _ _ _ _ _ => rfl) ?_ ⟨rfl, rfl⟩ ?_
 ·rintro i w es S2 hw hel ⟨rfl, rfl⟩
  match i, hw with
  | 0, hw =>
   cases hw
   refine .of rfl ?_
   dsimp only [capR, List.map, List.set]
   walk_at "w"
   refine ⟨rfl, ?_⟩
   walk_at "w"
   exact ⟨rfl, rfl⟩
  | 1, hw =>
   cases hw
   refine .of rfl ?_
   dsimp only [capR, List.map, List.set]
   walk_at "w"
   refine ⟨rfl, ?_⟩
   walk_at "w"
   exact ⟨rfl, rfl⟩
  | 2, hw =>
   cases hw
   refine .of rfl ?_
   dsimp only [capR, List.map, List.set]
   walk_at "w"
   refine ⟨rfl, ?_⟩
   walk_at "w"
   exact ⟨rfl, rfl⟩
  | i + 3, hw => cases hw
 ·rintro es S2 _ ⟨rfl, rfl⟩
  refine ⟨⟨_, lstAt_new⟩, ?_⟩
  walk_at "w"
  refine ox_index (k := i) (wlAt_of at_new) rfl ?_ ⟨rfl, List.prefix_append _ _⟩
  show List.findIdx? (fun w => eqbX w (.str nm)) [Xv.str z, .str "x", .str "y"] = some i
  have e : ∀ a : Str, eqbX (.str a) (.str nm) = decide (a = nm) := fun a => by
   show (a == nm) = decide (a = nm)
   rw [Bool.eq_iff_iff]; simp
  simp only [List.findIdx?_cons, e]
  rcases h with ⟨rfl, rfl⟩ | ⟨rfl, h, rfl⟩ | ⟨rfl, h, rfl⟩
  ·simp
  ·rw [decide_eq_false (fun q => h q.symm)]
   simp
  ·rw [decide_eq_false (fun q => h q.symm), decide_eq_false (by decide)]
   simp
noncomputable def at3 (a b c : Int) : Nat → Int
 | 0 => a
 | 1 => b
 | _ => c
theorem st_at {a b c : Int} {i : Nat} (h : i < 3) : ([Xv.int a, .int b, .int c])[i]? = some (.int (at3 a b c i)) := by
 match i, h with
 | 0, _ => rfl
 | 1, _ => rfl
 | 2, _ => rfl
theorem Nm.lt {z nm : Str} {i : Nat} (h : Nm z nm i) : i < 3 := by rcases h with ⟨_, rfl⟩ | ⟨_, _, rfl⟩ | ⟨_, _, rfl⟩ <;> decide
noncomputable def Wo (z : Str) (a b c : Int) (o : Xv) (k : Int) : Prop := (o = .int k) ∨ ∃ nm i, o = .str nm ∧ Nm z nm i ∧ k = at3 a b c i
theorem t_worth {z : Str} {a b c k : Int} {o : Xv} (h : Wo z a b c o k) : W (tw_worth fu [bsV z, stV a b c, o] S) fun v S' => v = .int k ∧ S <+: S' := by
 walk_at "wr"; unfold tb_worth
 refine wx_seq (wx_if ?_)
 walk_at "w"
 rcases h with rfl | ⟨nm, i, rfl, hn, rfl⟩
 ·refine ox_isi (v := false) rfl ?_
  refine ⟨_, rfl, (fun z => by cases z), fun _ => wx_next ?_⟩
  walk_at "w"
  exact ⟨rfl, List.prefix_refl _⟩
 ·refine ox_isi (v := true) rfl ?_
  refine ⟨_, rfl, fun _ => ?_, (fun z => by cases z)⟩
  walk_at "w"
  refine (t_place hn).imp ?_
  rintro _ S2 ⟨rfl, p⟩
  exact ox_ixT rfl (atI_nat (st_at hn.lt)) ⟨rfl, p⟩
noncomputable def Te (z : Str) (t : Xv) : Prop := ∃ nm i op k, t = .tup [.str nm, .str op, .int k] ∧ Nm z nm i
theorem t_holds {z : Str} {a b c : Int} {t : Xv} (h : Te z t) : W (tw_holds fu [bsV z, stV a b c, t] S) fun v S' => ∃ q, v = .bl q ∧ S <+: S' := by
 obtain ⟨nm, i, op, k, rfl, hn⟩ := h
 walk_at "wr"; unfold tb_holds
 walk_at "w"
 refine (t_worth (z := z) (a := a) (b := b) (c := c) (.inr ⟨nm, i, rfl, hn, rfl⟩)).imp ?_
 rintro _ S2 ⟨rfl, p2⟩
 walk_at "w"
 refine ox_ixT rfl (show atI [Xv.str nm, .str op, .int k] 2 = some (.int k) from rfl) ?_
 walk_at "w"
 refine (t_worth (z := z) (a := a) (b := b) (c := c) (.inl rfl)).imp ?_
 rintro _ S3 ⟨rfl, p3⟩
 walk_at "w"
 refine wx_if ?_
 walk_at "w"
 refine ox_eqSs ⟨_, rfl, fun _ => ?_, fun _ => wx_next ?_⟩
 ·walk_at "w"
  exact p2.trans p3
 ·refine wx_seq (wx_if ?_)
  walk_at "w"
  refine ox_eqSs ⟨_, rfl, fun _ => ?_, fun _ => wx_next ?_⟩
  ·walk_at "w"
   exact p2.trans p3
  ·walk_at "w"
   exact p2.trans p3
noncomputable def set3 (a b c k : Int) : Nat → Xv
 | 0 => stV (k % 8) b c
 | 1 => stV a (k % 5) c
 | _ => stV a b (k % 5)
theorem t_put {z nm : Str} {a b c k : Int} {i : Nat} (h : Nm z nm i) : W (tw_put_into fu [bsV z, stV a b c, .str nm, .int k] S) fun v S' => v = set3 a b c k i ∧ S <+: S' := by
 walk_at "wr"; unfold tb_put_into
 walk_at "w"
 refine (t_place h).imp ?_
 rintro _ S2 ⟨rfl, p⟩
 have hi := h.lt
 clear h
 walk_at "w"
 match i, hi with
 | 0, _ =>
  refine ox_ixT rfl (show atI _ ((0 : Nat) : Int) = some (.tup [.str z, .int 8]) from rfl) ?_
  walk_at "w"
  refine ox_slT ?_
  walk_at "w"
  refine ox_mod (by decide) ?_
  walk_at "w"
  refine WO.of (S := S2) (show dCatT (.tup (L2.cutD [Xv.int a, .int b, .int c] none (some ((0 : Nat) : Int)))) (.tup [.int (k % 8)]) S2 = some (.tup [.int (k % 8)], S2) from rfl) ?_
  walk_at "w"
  refine ox_slT ?_
  exact WO.of (S := S2) (show dCatT (.tup [.int (k % 8)]) (.tup (L2.cutD [Xv.int a, .int b, .int c] (some (((0 : Nat) : Int) + 1)) none)) S2 = some (stV (k % 8) b c, S2) from rfl) ⟨rfl, p⟩
 | 1, _ =>
  refine ox_ixT rfl (show atI _ ((1 : Nat) : Int) = some (.tup [.str "x", .int 5]) from rfl) ?_
  walk_at "w"
  refine ox_slT ?_
  walk_at "w"
  refine ox_mod (by decide) ?_
  walk_at "w"
  refine WO.of (S := S2) (show dCatT (.tup (L2.cutD [Xv.int a, .int b, .int c] none (some ((1 : Nat) : Int)))) (.tup [.int (k % 5)]) S2 = some (.tup [.int a, .int (k % 5)], S2) from rfl) ?_
  walk_at "w"
  refine ox_slT ?_
  exact WO.of (S := S2) (show dCatT (.tup [.int a, .int (k % 5)]) (.tup (L2.cutD [Xv.int a, .int b, .int c] (some (((1 : Nat) : Int) + 1)) none)) S2 = some (stV a (k % 5) c, S2) from rfl) ⟨rfl, p⟩
 | 2, _ =>
  refine ox_ixT rfl (show atI _ ((2 : Nat) : Int) = some (.tup [.str "y", .int 5]) from rfl) ?_
  walk_at "w"
  refine ox_slT ?_
  walk_at "w"
  refine ox_mod (by decide) ?_
  walk_at "w"
  refine WO.of (S := S2) (show dCatT (.tup (L2.cutD [Xv.int a, .int b, .int c] none (some ((2 : Nat) : Int)))) (.tup [.int (k % 5)]) S2 = some (.tup [.int a, .int b, .int (k % 5)], S2) from rfl) ?_
  walk_at "w"
  refine ox_slT ?_
  exact WO.of (S := S2) (show dCatT (.tup [.int a, .int b, .int (k % 5)]) (.tup (L2.cutD [Xv.int a, .int b, .int c] (some (((2 : Nat) : Int) + 1)) none)) S2 = some (stV a b (k % 5), S2) from rfl) ⟨rfl, p⟩
end
section
variable {fu : Nat} {S S' S2 : Sto} {x y : Xv}
theorem ox_abs {P : Xv → Sto → Prop} {p : Int} (k : P (.int (p.natAbs : Int)) S) : WO (dAbs [.int p] S) P := .of (show dAbs [.int p] S = some (.int (if p < 0 then -p else p), S) from rfl) (by
 rw [show (if p < 0 then -p else p) = (p.natAbs : Int) by split <;> omega]
 exact k)
theorem part_loop : ∀ (n : Nat) (one other : Nat) (a2 : Option Xv), other < n →
  WS (whTw (bE (eOp dNeI (eVar 1) (eC (.int 0)))) (sSeq (sAsg (eOp dMod (eVar 0) (eVar 1)) (gN 2)) (sSeq (sAsg (eVar 1) (gN 0)) (sAsg (eVar 2) (gN 1)))) n [some (.int one), some (.int other), a2] S) (fun ρ S' => ∃ a2, ρ = [some (.int (Nat.gcd one other : Nat)), some (.int 0), a2] ∧ S = S') (fun _ _ => False) := by
 intro n
 induction n with
 | zero => intro one other a2 h; omega
 | succ n ih =>
  intro one other a2 h
  refine wx_turn ?_
  walk_at "w"
  rw [show (!decide ((other : Int) = 0)) = decide (¬ (other : Int) = 0) by simp]
  refine wx_ifT (fun h => ?_) (fun h => ?_)
  ·have h0 : 0 < other := by omega
   walk_at "w"
   refine ox_mod (by omega) ?_
   walk_at "w"
   have := ih other (one % other) (some (.int ((one % other : Nat) : Int))) (by have := Nat.mod_lt one h0; omega)
   rw [show Nat.gcd other (one % other) = Nat.gcd one other by rw [Nat.gcd_comm other, ← Nat.gcd_rec, Nat.gcd_comm]] at this
   rw [Int.natCast_emod] at this
   exact this
  ·have : other = 0 := by omega
   subst this
   exact ⟨a2, by simp, rfl⟩
theorem t_whole {i : Int} : W (tw_is_whole fu [.int i] S) fun v S' => v = .bl true ∧ S = S' := by
 walk_at "wr"; unfold tb_is_whole
 refine wx_ret (wx_eAnd ?_)
 walk_at "w"
 refine ox_isi (v := true) rfl ?_
 refine ⟨_, rfl, fun _ => ?_, fun z => (by cases z)⟩
 walk_at "w"
 refine ox_isi (v := false) rfl ?_
 exact ⟨_, rfl, rfl, rfl⟩
theorem t_fraction {t b : Int} (h0 : 0 < b) (hb : b < 1000000) (hfu : 1000000 ≤ fu) : W (tw_fraction fu [.int t, .int b] S) fun v S' => S = S' := by
 walk_at "wr"; unfold tb_fraction
 refine wx_seq (wx_if (wx_or ?_))
 walk_at "w"
 refine t_whole.imp ?_
 rintro _ _ ⟨rfl, rfl⟩
 refine ⟨_, rfl, (fun z => by cases z), fun _ => ?_⟩
 walk_at "w"
 refine t_whole.imp ?_
 rintro _ _ ⟨rfl, rfl⟩
 refine ⟨_, rfl, (fun z => by cases z), fun _ => wx_next ?_⟩
 refine wx_seq (wx_if ?_)
 walk_at "w"
 refine wx_ifT (fun h => by omega) (fun _ => wx_next ?_)
 walk_at "w"
 walk_at "wr"; unfold tb_lowest
 walk_at "w"
 refine W.imp (P := fun v S' => v = .int (Nat.gcd t.natAbs b.natAbs : Nat) ∧ S = S') ?_ ?_
 ·walk_at "wr"; unfold tb_common_part; walk_at "w"
  refine ox_abs ?_
  walk_at "w"
  refine ox_abs ?_
  walk_at "w"
  refine wx_wh ?_
  rcases part_loop (S := S) fu t.natAbs b.natAbs none (by omega) with ⟨ρ, S', e, a2, rfl, rfl⟩ | ⟨_, _, _, z⟩
  ·refine .nx e ?_
   walk_at "w"
   exact ⟨rfl, rfl⟩
  ·exact z.elim
 rintro _ _ ⟨rfl, rfl⟩
 have g0 : 0 < Nat.gcd t.natAbs b.natAbs := Nat.gcd_pos_of_pos_right _ (by omega)
 have gl : Nat.gcd t.natAbs b.natAbs ≤ b.natAbs := Nat.gcd_le_right _ (by omega)
 have gb : ((Nat.gcd t.natAbs b.natAbs : Nat) : Int) ≠ 0 ∧ intBits ((Nat.gcd t.natAbs b.natAbs : Nat) : Int) ≤ 9000 := ⟨by omega, Nat.le_trans (PySem.intBits_le_iff.mpr (show ((Nat.gcd t.natAbs b.natAbs : Nat) : Int).natAbs < 2 ^ 60 by rw [Int.natAbs_natCast]; omega)) (by decide)⟩
 walk_at "w"
 refine wx_if ?_
 walk_at "w"
 refine wx_ifT (fun h => by omega) (fun _ => wx_next ?_)
 walk_at "w"
 refine ox_fdivB gb ?_
 walk_at "w"
 refine ox_fdivB gb ?_
 walk_at "w"
 exact rfl
noncomputable def WayX (w : Xv) : Prop := ∃ q a b c, w = .tup [q, stV a b c]
theorem set3_st {a b c k : Int} {i : Nat} : ∃ a' b' c', set3 a b c k i = stV a' b' c' := by
 match i with
 | 0 => exact ⟨_, _, _, rfl⟩
 | 1 => exact ⟨_, _, _, rfl⟩
 | i + 2 => exact ⟨_, _, _, rfl⟩
theorem ws_sum : ∀ {ws : List Int}, (∀ w ∈ ws, 1 ≤ w ∧ w ≤ 9) → 0 ≤ ws.sum ∧ ws.sum ≤ 9 * ws.length ∧ (ws ≠ [] → 0 < ws.sum)
 | [], _ => by simp
 | w :: r, h => by
  have h1 := h w (List.mem_cons_self ..)
  obtain ⟨a, b, _⟩ := ws_sum fun v hv => h v (List.mem_cons_of_mem _ hv)
  rw [List.sum_cons, List.length_cons]
  refine ⟨by omega, by omega, fun _ => by omega⟩
theorem t_drawn {z nm : Str} {a b c : Int} {i : Nat} {ws : List Int} (h : Nm z nm i) (hw : ∀ w ∈ ws, 1 ≤ w ∧ w ≤ 9) (hl : ws.length ≤ 100) (hfu : 1000000 ≤ fu) : W (tw_drawn fu [bsV z, stV a b c, .str nm, .tup (ws.map Xv.int)] S) fun v S' => ∃ n l, v = .ref n ∧ S'[n]? = some (.lst l) ∧ l.length = ws.length ∧ (∀ w ∈ l, WayX w) ∧ S.length ≤ n ∧ Kp (fun _ => False) S S' := by
 obtain ⟨s0, s1, s2⟩ := ws_sum hw
 walk_at "wr"; unfold tb_drawn
 walk_at "w"
 refine WO.of (show dSumT [Xv.tup (ws.map Xv.int)] S = some (.int ws.sum, S) by
  show ((Xv.tupOf (.tup (ws.map Xv.int))).bind intsX).map _ = _
  show ((intsX (ws.map Xv.int))).map _ = _
  rw [intsX_map]; rfl) ?_
 walk_at "w"
 refine wx_for (W.bind (wx_var rfl (.of rfl ?_)))
 refine ⟨_, rfl, ?_⟩
 refine wx_forI (fun k ρ S2 => ∃ (l : List Xv) (a6 a7 : Option Xv), ρ = [some (bsV z), some (stV a b c), some (.str nm), some (.tup (ws.map Xv.int)), some (.int ws.sum), some (.ref S.length), a6, a7] ∧ l.length = k ∧ (∀ w ∈ l, WayX w) ∧ S2[S.length]? = some (.lst l) ∧ Kp (fun _ => False) S S2) (fun _ _ _ _ _ => rfl) ?_ ?_ ?_
 ·rintro k w ρ S2 hk ⟨l, a6, a7, rfl, hll, hlw, e2, k2⟩
  obtain ⟨x0, ex, rfl⟩ := enumX_at hk
  rw [List.getElem?_map] at ex
  cases hwk : ws[k]? with
  | none => rw [hwk] at ex; cases ex
  | some w0 =>
   rw [hwk] at ex
   cases ex
   have hmem := List.mem_of_getElem? hwk
   have hw0 := hw _ hmem
   have hkl : k < ws.length := (List.getElem?_eq_some_iff.1 hwk).1
   have hne : ws ≠ [] := fun e => by rw [e] at hmem; cases hmem
   refine .of rfl ?_
   dsimp only [List.set]
   refine wx_if ?_
   walk_at "w"
   refine wx_ifT (fun _ => ?_) (fun hc => by omega)
   walk_at "w"
   refine wx_mt ?_
   walk_at "w"
   refine ⟨⟨_, lstAt_of e2⟩, ?_⟩
   walk_at "w"
   refine (t_fraction (s2 hne) (by omega) hfu).imp ?_
   rintro q S3 rfl
   walk_at "w"
   refine (t_put h).imp ?_
   rintro _ S4 ⟨rfl, p4⟩
   walk_at "w"
   have e4 : S4[S.length]? = some (.lst l) := (Kp.pre (w := fun _ => False) p4).2 _ _ e2 id
   refine ox_append (wlAt_of e4) (sz100 (by omega)) ?_
   refine ⟨_, _, _, rfl, by simp [hll], ?_, at_set e4, (k2.trans (Kp.pre p4)).set (.inr (Nat.le_refl _))⟩
   intro w hw'
   rcases List.mem_append.1 hw' with hw' | hw'
   ·exact hlw w hw'
   ·rw [List.mem_singleton] at hw'
    subst hw'
    obtain ⟨a', b', c', e⟩ := set3_st (a := a) (b := b) (c := c) (k := (k : Int)) (i := i)
    exact ⟨q, a', b', c', by rw [e]⟩
 ·exact ⟨[], none, none, rfl, rfl, (fun w hw => by cases hw), at_new, Kp.pre (List.prefix_append _ _)⟩
 ·rintro ρ S2 ⟨l, a6, a7, rfl, hll, hlw, e2, k2⟩
  walk_at "w"
  refine ⟨_, l, rfl, e2, by rw [hll, enumX_len, List.length_map], hlw, Nat.le_refl _, k2⟩
noncomputable def laterX : List Xv → Xv
 | [] => .non
 | d :: r => .tup [d, laterX r]
theorem t_ahead {ds r : List Xv} : W (tw_ahead_of fu [.tup ds, laterX r] S) fun v S' => v = laterX (ds ++ r) ∧ S' = S := by
 walk_at "wr"; unfold tb_ahead_of
 refine wx_seq (wx_for (wx_iRvt ?_))
 walk_at "w"
 refine wx_forI (xs := ds.reverse) (fun i ρ S2 => ∃ (a2 : Option Xv), ρ = [some (.tup ds), some (laterX (ds.drop (ds.length - i) ++ r)), a2] ∧ S2 = S) (fun _ _ _ _ _ => rfl) ?_ ?_ ?_
 ·rintro i w ρ S2 hw ⟨a2, rfl, rfl⟩
  have hi : i < ds.length := by
   have := (List.getElem?_eq_some_iff.1 hw).1
   rwa [List.length_reverse] at this
  rw [List.getElem?_reverse hi] at hw
  obtain ⟨hj, hw⟩ := List.getElem?_eq_some_iff.1 hw
  refine .of rfl ?_
  dsimp only [List.set]
  walk_at "w"
  refine ⟨some w, ?_, rfl⟩
  rw [show ds.length - i = ds.length - 1 - i + 1 by omega, show ds.length - (i + 1) = ds.length - 1 - i by omega, List.drop_eq_getElem_cons hj, hw]
  rfl
 ·exact ⟨none, by rw [Nat.sub_zero, List.drop_length]; rfl, rfl⟩
 ·rintro ρ S2 ⟨a2, rfl, rfl⟩
  walk_at "w"
  rw [List.length_reverse, Nat.sub_self, List.drop_zero]
  exact ⟨rfl, rfl⟩
end
section
variable {fu : Nat} {S S' S2 : Sto} {x y : Xv} {gn : Nat} {z : Str}
noncomputable def growB (fu : Nat) (rp rq : TwF) : TwS := (sSeq (sAsg (eOp dIxT (eVar 1) (eC (.int 0))) (gN 4)) (sSeq (sAsg (eOp dIxT (eVar 1) (eC (.int 1))) (gN 1)) (sSeq (sIf (bE (eOp (dEqS false) (eOp dIxT (eVar 4) (eC (.int 0))) (eC (.str "draw")))) (sRet (eTup [(eC (.str "draw")), (eMethS "Grower" "parts_from" rp (eVar 0) [(eCall (tw_drawn fu) [(eFldS "Grower" "boxes" (eVar 0)), (eVar 2), (eOp dIxT (eVar 4) (eC (.int 1))), (eOp dIxT (eVar 4) (eC (.int 2)))]), (eVar 1), (eVar 3)])])) sNext) (sSeq (sIf (bE (eOp (dEqS false) (eOp dIxT (eVar 4) (eC (.int 0))) (eC (.str "hand")))) (sRet (eTup [(eC (.str "hand")), (eMethS "Grower" "trees_from" rq (eVar 0) [(eOp dIxT (eVar 4) (eC (.int 1))), (eVar 1), (eVar 2), (eVar 3)])])) sNext) (sSeq (sIf (bAnd (bE (eOp (dEqS false) (eOp dIxT (eVar 4) (eC (.int 0))) (eC (.str "look")))) (bNot (bE (eCall (tw_holds fu) [(eFldS "Grower" "boxes" (eVar 0)), (eVar 2), (eOp dIxT (eVar 4) (eC (.int 1)))])))) (sRet (eMethS "Grower" "counted" (tw_Grower_counted fu) (eVar 0) [(eTup [(eC (.str "lost")), (eVar 3)])])) sNext) (sIf (bE (eOp (dEqS false) (eOp dIxT (eVar 4) (eC (.int 0))) (eC (.str "set")))) (sAsg (eCall (tw_put_into fu) [(eFldS "Grower" "boxes" (eVar 0)), (eVar 2), (eOp dIxT (eVar 4) (eC (.int 1))), (eCall (tw_reckoned fu) [(eFldS "Grower" "boxes" (eVar 0)), (eVar 2), (eOp dIxT (eVar 4) (eC (.int 2)))])]) (gN 2)) (sIf (bE (eOp (dEqS false) (eOp dIxT (eVar 4) (eC (.int 0))) (eC (.str "gain")))) (sAsg (eOp dAdd (eVar 3) (eCall (tw_worth fu) [(eFldS "Grower" "boxes" (eVar 0)), (eVar 2), (eOp dIxT (eVar 4) (eC (.int 1)))])) (gN 3)) (sIf (bE (eOp (dEqS false) (eOp dIxT (eVar 4) (eC (.int 0))) (eC (.str "if")))) (sAsg (eCall (tw_ahead_of fu) [(eIf (bE (eCall (tw_holds fu) [(eFldS "Grower" "boxes" (eVar 0)), (eVar 2), (eOp dIxT (eVar 4) (eC (.int 1)))])) (eOp dIxT (eVar 4) (eC (.int 2))) (eOp dIxT (eVar 4) (eC (.int 3)))), (eVar 1)]) (gN 1)) (sIf (bE (eOp (dEqS false) (eOp dIxT (eVar 4) (eC (.int 0))) (eC (.str "times")))) (sFor (iR1 (eOp dIxT (eVar 4) (eC (.int 1)))) (gN 5) (sAsg (eCall (tw_ahead_of fu) [(eOp dIxT (eVar 4) (eC (.int 2))), (eVar 1)]) (gN 1))) sNext)))))))))
theorem tb_grow (rt rp rq : TwF) : tb_Grower_tree_from fu rt rp rq = sSeq (sWh fu (bE (eUn dNotN (eVar 1))) (growB fu rp rq)) (sRet (eMethS "Grower" "counted" (tw_Grower_counted fu) (eVar 0) [(eTup [(eC (.str "end")), (eVar 2), (eVar 3)])])) := rfl
inductive Tr : Xv → Nat → Nat → Prop
 | fin {s g : Xv} {h : Nat} : Tr (.tup [.str "end", s, g]) 1 h
 | lost {g : Xv} {h : Nat} : Tr (.tup [.str "lost", g]) 1 h
 | draw {h : Nat} (ps : List (Xv × Xv × Nat)) : ps ≠ [] → ps.length ≤ 100 → (∀ p ∈ ps, Tr p.2.1 p.2.2 h) → Tr (.tup [.str "draw", .tup (ps.map fun p => .tup [p.1, p.2.1])]) (ps.map fun p => p.2.2).sum (h + 1)
 | hand {h : Nat} (ps : List (Xv × Nat)) : ps ≠ [] → ps.length ≤ 100 → (∀ p ∈ ps, Tr p.1 p.2 h) → Tr (.tup [.str "hand", .tup (ps.map (·.1))]) (ps.map (·.2)).sum (h + 1)
inductive Cnt (z : Str) : Nat → Nat → List Xv → Nat → Prop
 | nil {h w : Nat} : Cnt z h w [] 1
 | pass {h w n : Nat} {r : List Xv} : Cnt z h w r n → Cnt z h (w + 1) (.tup [.str "pass"] :: r) n
 | gain {h w n : Nat} {r : List Xv} {k : Int} : Cnt z h w r n → Cnt z h (w + 1) (.tup [.str "gain", .int k] :: r) n
 | set {h w n i : Nat} {nm : Str} {r : List Xv} {k : Int} : Nm z nm i → Cnt z h w r n → Cnt z h (w + 1) (.tup [.str "set", .str nm, .tup [.int k]] :: r) n
 | look {h w : Nat} {r : List Xv} {t : Xv} : Te z t → Cnt z h w r 1 → Cnt z h (w + 1) (.tup [.str "look", t] :: r) 1
 | draw {h w w' n i : Nat} {nm : Str} {ws : List Int} {r : List Xv} : Nm z nm i → ws ≠ [] → (∀ w ∈ ws, 1 ≤ w ∧ w ≤ 9) → ws.length ≤ 100 → w < 1000 → Cnt z h w r n → Cnt z (h + 1) w' (.tup [.str "draw", .str nm, .tup (ws.map Xv.int)] :: r) (ws.length * n)
 | hand {h w w' : Nat} {r : List Xv} (bs : List (List Xv × Nat)) : bs ≠ [] → bs.length ≤ 100 → w < 1000 → (∀ p ∈ bs, Cnt z h w (p.1 ++ r) p.2) → Cnt z (h + 1) w' (.tup [.str "hand", .tup (bs.map fun p => .tup p.1)] :: r) (bs.map (·.2)).sum
 | times {h w n k : Nat} {ds r : List Xv} : k ≤ 100 → Cnt z h w ((List.replicate k ds).flatten ++ r) n → Cnt z h (w + 1) (.tup [.str "times", .int (k : Int), .tup ds] :: r) n
theorem Cnt.more {h w n h' w' : Nat} {r : List Xv} (c : Cnt z h w r n) (hh : h ≤ h') (hw : w ≤ w') : Cnt z h' w' r n := by
 induction c generalizing h' w' with
 | nil => exact .nil
 | pass _ ih =>
  obtain ⟨k, rfl⟩ : ∃ k, w' = k + 1 := ⟨w' - 1, by omega⟩
  exact .pass (ih hh (by omega))
 | gain _ ih =>
  obtain ⟨k, rfl⟩ : ∃ k, w' = k + 1 := ⟨w' - 1, by omega⟩
  exact .gain (ih hh (by omega))
 | set a _ ih =>
  obtain ⟨k, rfl⟩ : ∃ k, w' = k + 1 := ⟨w' - 1, by omega⟩
  exact .set a (ih hh (by omega))
 | look a _ ih =>
  obtain ⟨k, rfl⟩ : ∃ k, w' = k + 1 := ⟨w' - 1, by omega⟩
  exact .look a (ih hh (by omega))
 | draw a1 a2 a3 a4 a5 _ ih =>
  obtain ⟨k, rfl⟩ : ∃ k, h' = k + 1 := ⟨h' - 1, by omega⟩
  exact .draw a1 a2 a3 a4 a5 (ih (by omega) (Nat.le_refl _))
 | hand bs a1 a2 a3 _ ih =>
  obtain ⟨k, rfl⟩ : ∃ k, h' = k + 1 := ⟨h' - 1, by omega⟩
  exact .hand bs a1 a2 a3 fun p hp => ih p hp (by omega) (Nat.le_refl _)
 | times a _ ih =>
  obtain ⟨k, rfl⟩ : ∃ k, w' = k + 1 := ⟨w' - 1, by omega⟩
  exact .times a (ih hh (by omega))
noncomputable def GrAt (gn : Nat) (z : Str) (c : Nat) (S : Sto) : Prop := S[gn]? = some (.ins "Grower" [("boxes", bsV z), ("leaves", .int (c : Int))])
theorem t_counted {c : Nat} {leaf : Xv} (g : GrAt gn z c S) : WE (tw_Grower_counted fu [.ref gn, leaf] S) (fun v S' => v = leaf ∧ c + 1 ≤ 400 ∧ GrAt gn z (c + 1) S' ∧ Kp (· = gn) S S') fun cl S' => cl = "TooMany" ∧ 400 < c + 1 ∧ Kp (· = gn) S S' := by
 refine we_run rfl rfl ?_
 dsimp only [List.map, HAppend.hAppend, Append.append, List.append, List.replicate]
 unfold tb_Grower_counted
 refine wse_seq (.ws (wx_augS ?_))
 walk_at "w"
 refine ⟨_, _, _, rfl, g, rfl, ?_⟩
 walk_at "w"
 refine ⟨_, _, rfl, g, (show (2 : Nat) < 1000 by decide), ?_⟩
 have g2 : GrAt gn z (c + 1) (S.set gn (.ins "Grower" (putS "leaves" (.int ((c : Int) + 1)) [("boxes", bsV z), ("leaves", .int (c : Int))]))) := at_set g
 have k2 : Kp (· = gn) S (S.set gn (.ins "Grower" (putS "leaves" (.int ((c : Int) + 1)) [("boxes", bsV z), ("leaves", .int (c : Int))]))) := (Kp.refl _).set (.inl rfl)
 generalize S.set gn (.ins "Grower" (putS "leaves" (.int ((c : Int) + 1)) [("boxes", bsV z), ("leaves", .int (c : Int))])) = S2 at g2 k2 ⊢
 refine wse_seq (wse_if ?_)
 walk_at "w"
 refine wx_fld ?_
 walk_at "w"
 refine ⟨_, _, _, rfl, g2, rfl, ?_⟩
 walk_at "w"
 refine wx_ifT (fun hc => ?_) (fun hc => wse_next ?_)
 ·refine wse_raise ?_
  walk_at "w"
  exact ⟨rfl, by omega, k2⟩
 ·refine .ws ?_
  walk_at "w"
  exact ⟨rfl, by omega, g2, k2⟩
end
section
variable {fu : Nat} {S S' S2 : Sto} {x y : Xv} {gn : Nat} {z : Str}
theorem WSE.imp' {r : Option Fl} {N N' : Rho → Sto → Prop} {R R' : Xv → Sto → Prop} {X X' : Str → Sto → Prop} (h : WSE r N R X) (a : ∀ ρ S, N ρ S → N' ρ S) (b : ∀ x S, R x S → R' x S) (c : ∀ x S, X x S → X' x S) : WSE r N' R' X' := by
 rcases h with ⟨ρ, S, e, h⟩ | ⟨x, S, e, h⟩ | ⟨x, S, e, h⟩
 ·exact .inl ⟨ρ, S, e, a _ _ h⟩
 ·exact .inr (.inl ⟨x, S, e, b _ _ h⟩)
 ·exact .inr (.inr ⟨x, S, e, c _ _ h⟩)
noncomputable def LoopOk (fu gn : Nat) (z : Str) (h w : Nat) (r : List Xv) (n : Nat) : Prop := ∀ (k m c : Nat) (a b d g : Int) (a4 a5 : Option Xv) (S : Sto), w < k → 2 * h ≤ m → c ≤ 400 → GrAt gn z c S →
 WSE (whTw (bE (eUn dNotN (eVar 1))) (growB fu (tw_Grower_parts_from fu m) (tw_Grower_trees_from fu m)) k [some (.ref gn), some (laterX r), some (stV a b d), some (.int g), a4, a5] S)
  (fun ρ S' => ∃ a b d g a4 a5, ρ = [some (.ref gn), some .non, some (stV a b d), some (.int g), a4, a5] ∧ n = 1 ∧ GrAt gn z c S' ∧ Kp (· = gn) S S')
  (fun v S' => c + n ≤ 400 ∧ Tr v n h ∧ GrAt gn z (c + n) S' ∧ Kp (· = gn) S S') fun cl S' => cl = "TooMany" ∧ 400 < c + n ∧ Kp (· = gn) S S'
noncomputable def TreeOk (fu gn : Nat) (z : Str) (h : Nat) (r : List Xv) (n : Nat) : Prop := ∀ (m c : Nat) (a b d g : Int) (S : Sto), 2 * h < m → c ≤ 400 → GrAt gn z c S →
 WE (tw_Grower_tree_from fu m [.ref gn, laterX r, stV a b d, .int g] S) (fun v S' => c + n ≤ 400 ∧ Tr v n h ∧ GrAt gn z (c + n) S' ∧ Kp (· = gn) S S') fun cl S' => cl = "TooMany" ∧ 400 < c + n ∧ Kp (· = gn) S S'
theorem GrAt.pre {c : Nat} (g : GrAt gn z c S) (p : S <+: S') : GrAt gn z c S' := (Kp.pre (w := fun _ => False) p).2 _ _ g id
theorem GrAt.keep {c : Nat} {w : Nat → Prop} (g : GrAt gn z c S) (k : Kp w S S') (h : ¬ w gn) : GrAt gn z c S' := k.2 _ _ g h
theorem Kp.pre1 {w : Nat → Prop} (p : S <+: S') (k : Kp w S' S2) : Kp w S S2 := (Kp.pre p).trans k
theorem of_loop {h w n : Nat} {r : List Xv} (hw : w < fu) (l : LoopOk fu gn z h w r n) : TreeOk fu gn z h r n := by
 intro m c a b d g S hm hc hg
 obtain ⟨m, rfl⟩ : ∃ k, m = k + 1 := ⟨m - 1, by omega⟩
 rw [tw_Grower_tree_from_succ]
 refine we_run rfl rfl ?_
 dsimp only [List.map, HAppend.hAppend, Append.append, List.append, List.replicate]
 rw [tb_grow]
 refine wse_seq (wse_cut _ (l fu m c a b d g none none S hw (by omega) hc hg) ?_)
 rintro _ S2 ⟨a, b, d, g, a4, a5, rfl, rfl, g2, k2⟩
 refine wse_ret (we_meth (.w ?_))
 walk_at "w"
 refine ⟨_, _, rfl, g2, rfl, .w ?_⟩
 walk_at "w"
 refine (t_counted g2).imp ?_ fun _ _ h => ⟨h.1, h.2.1, k2.trans h.2.2⟩
 rintro _ S3 ⟨rfl, h1, g3, k3⟩
 exact ⟨h1, .fin, g3, k2.trans k3⟩
theorem sum_const {α : Type} {f : α → Nat} {n : Nat} : ∀ {l : List α}, (∀ p ∈ l, f p = n) → (l.map f).sum = l.length * n
 | [], _ => by simp
 | p :: r, h => by
  rw [List.map_cons, List.sum_cons, h p (List.mem_cons_self ..), sum_const fun q hq => h q (List.mem_cons_of_mem _ hq), List.length_cons, Nat.add_mul]
  omega
theorem t_parts {h n wn m c : Nat} {r l : List Xv} {g : Int} (t : TreeOk fu gn z h r n) (hm : 2 * h + 1 < m) (hc : c ≤ 400) (hg : GrAt gn z c S) (hw : S[wn]? = some (.lst l)) (hwg : wn ≠ gn) (hway : ∀ w ∈ l, WayX w) (hl : l.length ≤ 100) :
  WE (tw_Grower_parts_from fu m [.ref gn, .ref wn, laterX r, .int g] S) (fun v S' => ∃ ps : List (Xv × Xv × Nat), v = .tup (ps.map fun p => .tup [p.1, p.2.1]) ∧ ps.length = l.length ∧ (∀ p ∈ ps, Tr p.2.1 p.2.2 h ∧ p.2.2 = n) ∧ c + l.length * n ≤ 400 ∧ GrAt gn z (c + l.length * n) S' ∧ Kp (· = gn) S S') fun cl S' => cl = "TooMany" ∧ 400 < c + l.length * n ∧ Kp (· = gn) S S' := by
 obtain ⟨m, rfl⟩ : ∃ k, m = k + 1 := ⟨m - 1, by omega⟩
 rw [tw_Grower_parts_from_succ]
 have hgl := (List.getElem?_eq_some_iff.1 hg).1
 have hwl := (List.getElem?_eq_some_iff.1 hw).1
 refine we_run rfl rfl ?_
 dsimp only [List.map, HAppend.hAppend, Append.append, List.append, List.replicate]
 unfold tb_Grower_parts_from
 refine wse_seq (.ws ?_)
 walk_at "w"
 refine wse_seq (wse_for (wx_iL ?_))
 walk_at "w"
 have hw1 := getP (List.prefix_append S [Ce.lst []]) hw
 refine ⟨_, lstAt_of hw1, _, lstAt_of hw1, ?_⟩
 refine wse_forI (fun i ρ S2 => ∃ (ps : List (Xv × Xv × Nat)) (a5 a6 : Option Xv), ρ = [some (.ref gn), some (.ref wn), some (laterX r), some (.int g), some (.ref S.length), a5, a6] ∧ ps.length = i ∧ (∀ p ∈ ps, Tr p.2.1 p.2.2 h ∧ p.2.2 = n) ∧ c + i * n ≤ 400 ∧ GrAt gn z (c + i * n) S2 ∧ S2[S.length]? = some (.lst (ps.map fun p => .tup [p.1, p.2.1])) ∧ Kp (· = gn) S S2) ?_ ?_ ?_ ?_
 ·rintro i ρ S2 _ ⟨ps, a5, a6, _, _, _, _, _, _, k2⟩
  exact lstAt_of (k2.2 _ _ hw hwg)
 ·rintro i w ρ S2 hwi ⟨ps, a5, a6, rfl, hpl, hps, h4, g2, e2, k2⟩
  obtain ⟨q, a, b, d, rfl⟩ := hway w (List.mem_of_getElem? hwi)
  have hil : i < l.length := (List.getElem?_eq_some_iff.1 hwi).1
  refine .of rfl ?_
  dsimp only [List.set]
  refine wse_expr (we_mt (.w ?_))
  walk_at "w"
  refine ⟨⟨_, lstAt_of e2⟩, ?_⟩
  refine we_cons (we_tup (we_cons (.w ?_)))
  walk_at "w"
  refine we_cons (we_meth (.w ?_))
  walk_at "w"
  refine ⟨_, _, rfl, g2, rfl, .w ?_⟩
  walk_at "w"
  refine (t m (c + i * n) a b d g S2 (by omega) h4 g2).imp ?_ ?_
  ·rintro v S3 ⟨h5, tr, g3, k3⟩
   refine we_nil (we_nil ?_)
   have e3 : S3[S.length]? = some (.lst (ps.map fun p => .tup [p.1, p.2.1])) := k3.2 _ _ e2 (show ¬ S.length = gn by omega)
   refine ox_append (wlAt_of e3) (by rw [List.length_map]; exact sz100 (by omega)) ?_
   have en : c + (i + 1) * n = c + i * n + n := by rw [Nat.add_mul, Nat.one_mul, Nat.add_assoc]
   refine ⟨ps ++ [(q, v, n)], _, _, rfl, by simp [hpl], ?_, by rw [en]; exact h5, ?_, ?_, (k2.trans k3).set (.inr (Nat.le_refl _))⟩
   ·intro p hp
    rcases List.mem_append.1 hp with hp | hp
    ·exact hps p hp
    ·rw [List.mem_singleton] at hp
     subst hp
     exact ⟨tr, rfl⟩
   ·rw [en]
    exact at_oth g3 (by omega)
   ·rw [at_set e3, List.map_append]; rfl
  ·rintro cl S3 ⟨rfl, h5, k3⟩
   refine ⟨rfl, ?_, k2.trans k3⟩
   have : (i + 1) * n ≤ l.length * n := Nat.mul_le_mul_right _ (by omega)
   rw [Nat.add_mul] at this
   omega
 ·exact ⟨[], none, none, rfl, rfl, (fun p hp => by cases hp), by omega, by rw [Nat.zero_mul]; exact hg.pre (List.prefix_append _ _), at_new, Kp.pre (List.prefix_append _ _)⟩
 ·rintro ρ S2 ⟨ps, a5, a6, rfl, hpl, hps, h4, g2, e2, k2⟩
  refine .ws ?_
  walk_at "w"
  refine WO.of (show dTuple [.ref S.length] S2 = some (.tup (ps.map fun p => .tup [p.1, p.2.1]), S2) by unfold dTuple; dsimp only; rw [lstAt_of e2]; rfl) ?_
  exact ⟨ps, rfl, hpl, hps, h4, g2, k2⟩
noncomputable def lsum (bs : List (List Xv × Nat)) : Nat := (bs.map (·.2)).sum
theorem lsum_take {bs : List (List Xv × Nat)} {i : Nat} {p : List Xv × Nat} (h : bs[i]? = some p) : lsum (bs.take (i + 1)) = lsum (bs.take i) + p.2 ∧ lsum (bs.take (i + 1)) ≤ lsum bs := by
 obtain ⟨hi, e⟩ := List.getElem?_eq_some_iff.1 h
 have e1 : lsum (bs.take (i + 1)) = lsum (bs.take i) + p.2 := by
  unfold lsum
  rw [List.take_succ_eq_append_getElem hi, List.map_append, List.sum_append, e]
  simp
 refine ⟨e1, ?_⟩
 have : lsum bs = lsum (bs.take (i + 1)) + lsum (bs.drop (i + 1)) := by
  unfold lsum
  rw [← List.sum_append, ← List.map_append, List.take_append_drop]
 omega
theorem t_trees {h m c : Nat} {r : List Xv} {bs : List (List Xv × Nat)} {a b d g : Int} (t : ∀ p ∈ bs, TreeOk fu gn z h (p.1 ++ r) p.2) (hm : 2 * h + 1 < m) (hc : c ≤ 400) (hg : GrAt gn z c S) (hl : bs.length ≤ 100) :
  WE (tw_Grower_trees_from fu m [.ref gn, .tup (bs.map fun p => .tup p.1), laterX r, stV a b d, .int g] S) (fun v S' => ∃ ps : List (Xv × Nat), v = .tup (ps.map (·.1)) ∧ ps.map (·.2) = bs.map (·.2) ∧ (∀ p ∈ ps, Tr p.1 p.2 h) ∧ c + lsum bs ≤ 400 ∧ GrAt gn z (c + lsum bs) S' ∧ Kp (· = gn) S S') fun cl S' => cl = "TooMany" ∧ 400 < c + lsum bs ∧ Kp (· = gn) S S' := by
 obtain ⟨m, rfl⟩ : ∃ k, m = k + 1 := ⟨m - 1, by omega⟩
 rw [tw_Grower_trees_from_succ]
 have hgl := (List.getElem?_eq_some_iff.1 hg).1
 refine we_run rfl rfl ?_
 dsimp only [List.map, HAppend.hAppend, Append.append, List.append, List.replicate]
 unfold tb_Grower_trees_from
 refine wse_seq (.ws ?_)
 walk_at "w"
 refine wse_seq (wse_for (wx_iT ?_))
 walk_at "w"
 refine wse_forI (xs := bs.map fun p => .tup p.1) (fun i ρ S2 => ∃ (ps : List (Xv × Nat)) (a6 : Option Xv), ρ = [some (.ref gn), some (.tup (bs.map fun p => .tup p.1)), some (laterX r), some (stV a b d), some (.int g), some (.ref S.length), a6] ∧ ps.map (·.2) = (bs.take i).map (·.2) ∧ ps.length ≤ i ∧ (∀ p ∈ ps, Tr p.1 p.2 h) ∧ c + lsum (bs.take i) ≤ 400 ∧ GrAt gn z (c + lsum (bs.take i)) S2 ∧ S2[S.length]? = some (.lst (ps.map (·.1))) ∧ Kp (· = gn) S S2) (fun _ _ _ _ _ => rfl) ?_ ?_ ?_
 ·rintro i w ρ S2 hwi ⟨ps, a6, rfl, hpe, hpl, hps, h4, g2, e2, k2⟩
  rw [List.getElem?_map] at hwi
  cases hbi : bs[i]? with
  | none => rw [hbi] at hwi; cases hwi
  | some p =>
   rw [hbi] at hwi
   cases hwi
   have hil : i < bs.length := (List.getElem?_eq_some_iff.1 hbi).1
   obtain ⟨ls1, ls2⟩ := lsum_take hbi
   refine .of rfl ?_
   dsimp only [List.set]
   refine wse_expr (we_mt (.w ?_))
   walk_at "w"
   refine ⟨⟨_, lstAt_of e2⟩, ?_⟩
   refine we_cons (we_meth (.w ?_))
   walk_at "w"
   refine ⟨_, _, rfl, g2, rfl, .w ?_⟩
   walk_at "w"
   refine t_ahead.imp ?_
   rintro _ _ ⟨rfl, rfl⟩
   walk_at "w"
   refine (t p (List.mem_of_getElem? hbi) m _ a b d g _ (by omega) h4 g2).imp ?_ ?_
   ·rintro v S3 ⟨h5, tr, g3, k3⟩
    refine we_nil ?_
    have e3 := k3.2 _ _ e2 (show ¬ S.length = gn by omega)
    refine ox_append (wlAt_of e3) (by rw [List.length_map]; exact sz100 (by omega)) ?_
    refine ⟨ps ++ [(v, p.2)], _, rfl, ?_, by simp; omega, ?_, by rw [ls1]; omega, ?_, ?_, (k2.trans k3).set (.inr (Nat.le_refl _))⟩
    ·obtain ⟨_, e⟩ := List.getElem?_eq_some_iff.1 hbi
     rw [List.map_append, hpe, List.take_succ_eq_append_getElem hil, List.map_append, e]
     rfl
    ·intro q hq
     rcases List.mem_append.1 hq with hq | hq
     ·exact hps q hq
     ·rw [List.mem_singleton] at hq
      subst hq
      exact tr
    ·rw [ls1, ← Nat.add_assoc]
     exact at_oth g3 (by omega)
    ·rw [at_set e3, List.map_append]; rfl
   ·rintro cl S3 ⟨rfl, h5, k3⟩
    exact ⟨rfl, by omega, k2.trans k3⟩
 ·exact ⟨[], none, rfl, rfl, Nat.zero_le _, (fun p hp => by cases hp), by show c + 0 ≤ 400; omega, hg.pre (List.prefix_append _ _), at_new, Kp.pre (List.prefix_append _ _)⟩
 ·rintro ρ S2 ⟨ps, a6, rfl, hpe, hpl, hps, h4, g2, e2, k2⟩
  rw [List.length_map, List.take_length] at hpe h4 g2
  refine .ws ?_
  walk_at "w"
  refine WO.of (show dTuple [.ref S.length] S2 = some (.tup (ps.map (·.1)), S2) by unfold dTuple; dsimp only; rw [lstAt_of e2]; rfl) ?_
  exact ⟨ps, rfl, hpe, hps, h4, g2, k2⟩
end
section
variable {fu : Nat} {S S' S2 : Sto} {x y : Xv} {gn : Nat} {z : Str}
theorem kp_of {w : Nat → Prop} (k : Kp (fun _ => False) S S') : Kp w S S' := k.mono fun _ h => h.elim
theorem ne_word {a b : Str} (h : a ≠ b) {P : Xv → Sto → Prop} (k : P (.bl false) S) : WO (dEqS false (.str a) (.str b) S) P := ox_eqSs (by rw [decide_eq_false h]; exact k)
theorem eq_word {a : Str} {P : Xv → Sto → Prop} (k : P (.bl true) S) : WO (dEqS false (.str a) (.str a) S) P := ox_eqSs (by rw [decide_eq_true rfl]; exact k)
theorem t_reck {a b c k : Int} : W (tw_reckoned fu [bsV z, stV a b c, .tup [.int k]] S) fun v S' => v = .int k ∧ S <+: S' := by
 walk_at "wr"; unfold tb_reckoned
 walk_at "w"
 refine (t_worth (z := z) (a := a) (b := b) (c := c) (.inl rfl)).imp ?_
 rintro _ S2 ⟨rfl, p2⟩
 walk_at "w"
 refine wx_if ?_
 walk_at "w"
 refine WO.of (show dLen [Xv.tup [.int k]] S2 = some (.int 1, S2) from rfl) ?_
 walk_at "w"
 refine ⟨fun _ => ?_, fun z => absurd z (by decide)⟩
 walk_at "w"
 exact ⟨rfl, p2⟩
section
variable {rp rq : TwF} {a b d g : Int} {a4 a5 : Option Xv} {r : List Xv} {N : Rho → Sto → Prop} {R : Xv → Sto → Prop} {X : Str → Sto → Prop} {rest : List Xv} {kd : Str}
theorem turn_head {k : Nat} (h : WSE (growB fu rp rq [some (.ref gn), some (laterX (.tup (.str kd :: rest) :: r)), some (stV a b d), some (.int g), a4, a5] S) (fun ρ2 S2 => WSE (whTw (bE (eUn dNotN (eVar 1))) (growB fu rp rq) k ρ2 S2) N R X) R X) : WSE (whTw (bE (eUn dNotN (eVar 1))) (growB fu rp rq) (k + 1) [some (.ref gn), some (laterX (.tup (.str kd :: rest) :: r)), some (stV a b d), some (.int g), a4, a5] S) N R X := by
 refine wse_turn ?_
 walk_at "w"
 refine WO.of (show dNotN (laterX (.tup (.str kd :: rest) :: r)) S = some (.bl true, S) from rfl) ?_
 exact ⟨_, rfl, fun _ => h, fun z => by cases z⟩
theorem turn_rest (n1 : kd ≠ "draw") (n2 : kd ≠ "hand") (h : WSE ((sSeq (sIf (bAnd (bE (eOp (dEqS false) (eOp dIxT (eVar 4) (eC (.int 0))) (eC (.str "look")))) (bNot (bE (eCall (tw_holds fu) [(eFldS "Grower" "boxes" (eVar 0)), (eVar 2), (eOp dIxT (eVar 4) (eC (.int 1)))])))) (sRet (eMethS "Grower" "counted" (tw_Grower_counted fu) (eVar 0) [(eTup [(eC (.str "lost")), (eVar 3)])])) sNext) (sIf (bE (eOp (dEqS false) (eOp dIxT (eVar 4) (eC (.int 0))) (eC (.str "set")))) (sAsg (eCall (tw_put_into fu) [(eFldS "Grower" "boxes" (eVar 0)), (eVar 2), (eOp dIxT (eVar 4) (eC (.int 1))), (eCall (tw_reckoned fu) [(eFldS "Grower" "boxes" (eVar 0)), (eVar 2), (eOp dIxT (eVar 4) (eC (.int 2)))])]) (gN 2)) (sIf (bE (eOp (dEqS false) (eOp dIxT (eVar 4) (eC (.int 0))) (eC (.str "gain")))) (sAsg (eOp dAdd (eVar 3) (eCall (tw_worth fu) [(eFldS "Grower" "boxes" (eVar 0)), (eVar 2), (eOp dIxT (eVar 4) (eC (.int 1)))])) (gN 3)) (sIf (bE (eOp (dEqS false) (eOp dIxT (eVar 4) (eC (.int 0))) (eC (.str "if")))) (sAsg (eCall (tw_ahead_of fu) [(eIf (bE (eCall (tw_holds fu) [(eFldS "Grower" "boxes" (eVar 0)), (eVar 2), (eOp dIxT (eVar 4) (eC (.int 1)))])) (eOp dIxT (eVar 4) (eC (.int 2))) (eOp dIxT (eVar 4) (eC (.int 3)))), (eVar 1)]) (gN 1)) (sIf (bE (eOp (dEqS false) (eOp dIxT (eVar 4) (eC (.int 0))) (eC (.str "times")))) (sFor (iR1 (eOp dIxT (eVar 4) (eC (.int 1)))) (gN 5) (sAsg (eCall (tw_ahead_of fu) [(eOp dIxT (eVar 4) (eC (.int 2))), (eVar 1)]) (gN 1))) sNext))))) [some (.ref gn), some (laterX r), some (stV a b d), some (.int g), some (.tup (.str kd :: rest)), a5] S) N R X) : WSE (growB fu rp rq [some (.ref gn), some (laterX (.tup (.str kd :: rest) :: r)), some (stV a b d), some (.int g), a4, a5] S) N R X := by
 unfold growB
 refine wse_seq (.ws ?_)
 walk_at "w"
 refine ox_ixT rfl (show atI [Xv.tup (.str kd :: rest), laterX r] 0 = some (.tup (.str kd :: rest)) from rfl) ?_
 walk_at "w"
 refine wse_seq (.ws ?_)
 walk_at "w"
 refine ox_ixT rfl (show atI [Xv.tup (.str kd :: rest), laterX r] 1 = some (laterX r) from rfl) ?_
 walk_at "w"
 refine wse_seq (wse_if ?_)
 walk_at "w"
 refine ne_word n1 ⟨_, rfl, (fun z => by cases z), fun _ => wse_next ?_⟩
 refine wse_seq (wse_if ?_)
 walk_at "w"
 refine ne_word n2 ⟨_, rfl, (fun z => by cases z), fun _ => wse_next ?_⟩
 exact h
theorem rest_nolook {t : TwS} (n3 : kd ≠ "look") {ρ : Rho} (hρ : ρ[4]? = some (some (.tup (.str kd :: rest)))) (h : WSE (t ρ S) N R X) : WSE (sSeq (sIf (bAnd (bE (eOp (dEqS false) (eOp dIxT (eVar 4) (eC (.int 0))) (eC (.str "look")))) (bNot (bE (eCall (tw_holds fu) [(eFldS "Grower" "boxes" (eVar 0)), (eVar 2), (eOp dIxT (eVar 4) (eC (.int 1)))])))) (sRet (eMethS "Grower" "counted" (tw_Grower_counted fu) (eVar 0) [(eTup [(eC (.str "lost")), (eVar 3)])])) sNext) t ρ S) N R X := by
 refine wse_seq (wse_if (wx_and (wx_bE (wx_op (wx_op (wx_var hρ ?_))))))
 walk_at "w"
 refine ne_word n3 ⟨_, rfl, (fun z => by cases z), fun _ => ⟨(fun z => by cases z), fun _ => wse_next h⟩⟩
theorem if_no {w : Str} {s t : TwS} {ρ : Rho} (hn : kd ≠ w) (hρ : ρ[4]? = some (some (.tup (.str kd :: rest)))) (h : WSE (t ρ S) N R X) : WSE (sIf (bE (eOp (dEqS false) (eOp dIxT (eVar 4) (eC (.int 0))) (eC (.str w)))) s t ρ S) N R X := by
 refine wse_if (wx_bE (wx_op (wx_op (wx_var hρ ?_))))
 walk_at "w"
 exact ne_word hn ⟨_, rfl, (fun z => by cases z), fun _ => h⟩
theorem if_yes {s t : TwS} {ρ : Rho} (hρ : ρ[4]? = some (some (.tup (.str kd :: rest)))) (h : WSE (s ρ S) N R X) : WSE (sIf (bE (eOp (dEqS false) (eOp dIxT (eVar 4) (eC (.int 0))) (eC (.str kd)))) s t ρ S) N R X := by
 refine wse_if (wx_bE (wx_op (wx_op (wx_var hρ ?_))))
 walk_at "w"
 exact eq_word ⟨_, rfl, fun _ => h, (fun z => by cases z)⟩
end
theorem all_loop (hfu : 1000000 ≤ fu) {h w n : Nat} {r : List Xv} (c : Cnt z h w r n) : LoopOk fu gn z h w r n := by
 induction c with
 | nil =>
  intro k m c a b d g a4 a5 S hk hm hc hg
  obtain ⟨k, rfl⟩ : ∃ q, k = q + 1 := ⟨k - 1, by omega⟩
  refine wse_turn ?_
  walk_at "w"
  refine WO.of (show dNotN (laterX []) S = some (.bl false, S) from rfl) ?_
  exact ⟨_, rfl, (fun z => by cases z), fun _ => ⟨a, b, d, g, a4, a5, rfl, rfl, hg, Kp.refl _⟩⟩
 | pass _ ih =>
  intro k m c a b d g a4 a5 S hk hm hc hg
  obtain ⟨k, rfl⟩ : ∃ q, k = q + 1 := ⟨k - 1, by omega⟩
  refine turn_head (turn_rest (by decide) (by decide) (rest_nolook (by decide) rfl ?_))
  refine if_no (by decide) rfl (if_no (by decide) rfl (if_no (by decide) rfl (if_no (by decide) rfl (wse_next ?_))))
  exact ih k m c a b d g _ _ S (by omega) hm hc hg
 | gain _ ih =>
  intro k m c a b d g a4 a5 S hk hm hc hg
  obtain ⟨k, rfl⟩ : ∃ q, k = q + 1 := ⟨k - 1, by omega⟩
  refine turn_head (turn_rest (by decide) (by decide) (rest_nolook (by decide) rfl ?_))
  refine if_no (by decide) rfl (if_yes rfl (.ws ?_))
  walk_at "w"
  refine wx_fld ?_
  walk_at "w"
  refine ⟨_, _, _, rfl, hg, rfl, ?_⟩
  walk_at "w"
  refine (t_worth (z := z) (a := a) (b := b) (c := d) (.inl rfl)).imp ?_
  rintro _ S2 ⟨rfl, p2⟩
  walk_at "w"
  refine WSE.imp' (ih k m c a b d _ _ _ S2 (by omega) hm hc (hg.pre p2)) ?_ ?_ fun _ _ h => ⟨h.1, h.2.1, Kp.pre1 p2 h.2.2⟩
  ·rintro ρ S3 ⟨a, b, d, g, a4, a5, e, e1, g3, k3⟩
   exact ⟨a, b, d, g, a4, a5, e, e1, g3, Kp.pre1 p2 k3⟩
  ·rintro v S3 ⟨e1, e2, g3, k3⟩
   exact ⟨e1, e2, g3, Kp.pre1 p2 k3⟩
 | set hn _ ih =>
  intro k m c a b d g a4 a5 S hk hm hc hg
  obtain ⟨k, rfl⟩ : ∃ q, k = q + 1 := ⟨k - 1, by omega⟩
  refine turn_head (turn_rest (by decide) (by decide) (rest_nolook (by decide) rfl ?_))
  refine if_yes rfl (.ws ?_)
  walk_at "w"
  refine wx_fld ?_
  walk_at "w"
  refine ⟨_, _, _, rfl, hg, rfl, ?_⟩
  walk_at "w"
  refine wx_fld ?_
  walk_at "w"
  refine ⟨_, _, _, rfl, hg, rfl, ?_⟩
  walk_at "w"
  refine ox_ixT rfl (show atI _ 2 = some (.tup [.int _]) from rfl) ?_
  walk_at "w"
  refine t_reck.imp ?_
  rintro _ S2 ⟨rfl, p2⟩
  walk_at "w"
  refine (t_put hn).imp ?_
  rintro _ S3 ⟨rfl, p3⟩
  rename_i i nm r kk _ 
  obtain ⟨a', b', d', e⟩ := set3_st (a := a) (b := b) (c := d) (k := kk) (i := i)
  rw [e]
  refine WSE.imp' (ih k m c a' b' d' g _ _ S3 (by omega) hm hc (hg.pre (p2.trans p3))) ?_ ?_ fun _ _ h => ⟨h.1, h.2.1, Kp.pre1 (p2.trans p3) h.2.2⟩
  ·rintro ρ S3 ⟨a, b, d, g, a4, a5, e, e1, g3, k3⟩
   exact ⟨a, b, d, g, a4, a5, e, e1, g3, Kp.pre1 (p2.trans p3) k3⟩
  ·rintro v S3 ⟨e1, e2, g3, k3⟩
   exact ⟨e1, e2, g3, Kp.pre1 (p2.trans p3) k3⟩
 | look ht _ ih =>
  intro k m c a b d g a4 a5 S hk hm hc hg
  obtain ⟨k, rfl⟩ : ∃ q, k = q + 1 := ⟨k - 1, by omega⟩
  refine turn_head (turn_rest (by decide) (by decide) ?_)
  refine wse_seq (wse_if (wx_and ?_))
  walk_at "w"
  refine eq_word ⟨_, rfl, fun _ => ?_, (fun z => by cases z)⟩
  walk_at "w"
  refine wx_fld ?_
  walk_at "w"
  refine ⟨_, _, _, rfl, hg, rfl, ?_⟩
  walk_at "w"
  refine (t_holds ht).imp ?_
  rintro _ S2 ⟨q, rfl, p2⟩
  walk_at "w"
  have g2 := hg.pre p2
  refine ⟨fun _ => ?_, fun _ => wse_next ?_⟩
  ·refine wse_ret (we_meth (.w ?_))
   walk_at "w"
   refine ⟨_, _, rfl, g2, rfl, .w ?_⟩
   walk_at "w"
   refine (t_counted g2).imp ?_ fun _ _ h => ⟨h.1, h.2.1, Kp.pre1 p2 h.2.2⟩
   rintro _ S3 ⟨rfl, h1, g3, k3⟩
   exact ⟨h1, .lost, g3, Kp.pre1 p2 k3⟩
  ·refine if_no (by decide) rfl (if_no (by decide) rfl (if_no (by decide) rfl (if_no (by decide) rfl (wse_next ?_))))
   refine WSE.imp' (ih k m c a b d g _ _ S2 (by omega) hm hc g2) ?_ ?_ fun _ _ h => ⟨h.1, h.2.1, Kp.pre1 p2 h.2.2⟩
   ·rintro ρ S3 ⟨a, b, d, g, a4, a5, e, e1, g3, k3⟩
    exact ⟨a, b, d, g, a4, a5, e, e1, g3, Kp.pre1 p2 k3⟩
   ·rintro v S3 ⟨e1, e2, g3, k3⟩
    exact ⟨e1, e2, g3, Kp.pre1 p2 k3⟩
 | @times h w n kk ds r hk9 _ ih =>
  intro k m c a b d g a4 a5 S hk hm hc hg
  obtain ⟨k, rfl⟩ : ∃ q, k = q + 1 := ⟨k - 1, by omega⟩
  refine turn_head (turn_rest (by decide) (by decide) (rest_nolook (by decide) rfl ?_))
  refine if_no (by decide) rfl (if_no (by decide) rfl (if_no (by decide) rfl (if_yes rfl (.ws ?_))))
  refine wx_for (wx_iR1 ?_)
  walk_at "w"
  refine ⟨⟨by omega, by omega⟩, _, rfl, ?_⟩
  refine wx_forI (fun i ρ S2 => ∃ a5 : Option Xv, ρ = [some (.ref gn), some (laterX ((List.replicate i ds).flatten ++ r)), some (stV a b d), some (.int g), some (.tup [.str "times", .int (kk : Int), .tup ds]), a5] ∧ S2 = S) (fun _ _ _ _ _ => rfl) ?_ ?_ ?_
  ·rintro i w' ρ S2 hw ⟨a5, rfl, rfl⟩
   refine .of rfl ?_
   dsimp only [List.set]
   walk_at "w"
   refine ox_ixT rfl (show atI [Xv.str "times", .int (kk : Int), .tup ds] 2 = some (.tup ds) from rfl) ?_
   walk_at "w"
   refine t_ahead.imp ?_
   rintro _ _ ⟨rfl, rfl⟩
   refine ⟨some w', ?_, rfl⟩
   rw [List.replicate_succ, List.flatten_cons, List.append_assoc]
  ·exact ⟨_, rfl, rfl⟩
  ·rintro ρ S2 ⟨a5, rfl, rfl⟩
   rw [rangeX_len, Int.toNat_natCast]
   exact ih k m c a b d g _ _ _ (by omega) hm hc hg
 | @draw h w w' n i nm ws r hn hne hws hwl hw9 _ ih =>
  intro k m c a b d g a4 a5 S hk hm hc hg
  obtain ⟨k, rfl⟩ : ∃ q, k = q + 1 := ⟨k - 1, by omega⟩
  have tr := of_loop (by omega) ih
  refine turn_head ?_
  unfold growB
  refine wse_seq (.ws ?_)
  walk_at "w"
  refine ox_ixT rfl (show atI [Xv.tup [.str "draw", .str nm, .tup (ws.map Xv.int)], laterX r] 0 = some (.tup [.str "draw", .str nm, .tup (ws.map Xv.int)]) from rfl) ?_
  walk_at "w"
  refine wse_seq (.ws ?_)
  walk_at "w"
  refine ox_ixT rfl (show atI [Xv.tup [.str "draw", .str nm, .tup (ws.map Xv.int)], laterX r] 1 = some (laterX r) from rfl) ?_
  walk_at "w"
  refine wse_seq (if_yes rfl ?_)
  refine wse_ret (we_tup (we_cons (.w ?_)))
  walk_at "w"
  refine we_cons (we_meth (.w ?_))
  walk_at "w"
  refine ⟨_, _, rfl, hg, rfl, .w ?_⟩
  walk_at "w"
  refine wx_fld ?_
  walk_at "w"
  refine ⟨_, _, _, rfl, hg, rfl, ?_⟩
  walk_at "w"
  refine ox_ixT rfl (show atI [Xv.str "draw", .str nm, .tup (ws.map Xv.int)] 2 = some (.tup (ws.map Xv.int)) from rfl) ?_
  walk_at "w"
  refine (t_drawn hn hws hwl hfu).imp ?_
  rintro _ S2 ⟨wn, l, rfl, e2, hl2, hway, hwn, k2⟩
  walk_at "w"
  have hgl := (List.getElem?_eq_some_iff.1 hg).1
  refine (t_parts tr (by omega) hc (hg.keep k2 id) e2 (by omega) hway (by omega)).imp ?_ ?_
  ·rintro _ S3 ⟨ps, rfl, hpl, hps, h4, g3, k3⟩
   refine we_nil ?_
   rw [hl2] at h4 g3 hpl
   refine ⟨h4, ?_, g3, (kp_of k2).trans k3⟩
   have := Tr.draw ps (fun e => by rw [e] at hpl; exact hne (List.length_eq_zero_iff.1 hpl.symm)) (by omega) fun p hp => (hps p hp).1
   rw [sum_const fun p hp => (hps p hp).2, hpl] at this
   exact this
  ·rintro cl S3 ⟨rfl, h4, k3⟩
   rw [hl2] at h4
   exact ⟨rfl, h4, (kp_of k2).trans k3⟩
 | @hand h w w' r bs hne hbl hw9 _ ih =>
  intro k m c a b d g a4 a5 S hk hm hc hg
  obtain ⟨k, rfl⟩ : ∃ q, k = q + 1 := ⟨k - 1, by omega⟩
  have tr : ∀ p ∈ bs, TreeOk fu gn z h (p.1 ++ r) p.2 := fun p hp => of_loop (by omega) (ih p hp)
  refine turn_head ?_
  unfold growB
  refine wse_seq (.ws ?_)
  walk_at "w"
  refine ox_ixT rfl (show atI [Xv.tup [.str "hand", .tup (bs.map fun p => .tup p.1)], laterX r] 0 = some (.tup [.str "hand", .tup (bs.map fun p => .tup p.1)]) from rfl) ?_
  walk_at "w"
  refine wse_seq (.ws ?_)
  walk_at "w"
  refine ox_ixT rfl (show atI [Xv.tup [.str "hand", .tup (bs.map fun p => .tup p.1)], laterX r] 1 = some (laterX r) from rfl) ?_
  walk_at "w"
  refine wse_seq (if_no (by decide) rfl (wse_next ?_))
  refine wse_seq (if_yes rfl ?_)
  refine wse_ret (we_tup (we_cons (.w ?_)))
  walk_at "w"
  refine we_cons (we_meth (.w ?_))
  walk_at "w"
  refine ⟨_, _, rfl, hg, rfl, .w ?_⟩
  walk_at "w"
  refine (t_trees tr (by omega) hc hg hbl).imp ?_ ?_
  ·rintro _ S3 ⟨ps, rfl, hpe, hps, h4, g3, k3⟩
   refine we_nil ?_
   refine ⟨h4, ?_, g3, k3⟩
   have hpl : ps.length = bs.length := by have := congrArg List.length hpe; simpa using this
   have := Tr.hand ps (fun e => by rw [e] at hpl; exact hne (List.length_eq_zero_iff.1 hpl.symm)) (by omega) hps
   rw [hpe] at this
   exact this
  ·rintro cl S3 ⟨rfl, h4⟩
   exact ⟨rfl, h4⟩
end
section
variable {fu : Nat} {S S' S2 : Sto} {x y : Xv} {gn : Nat} {z : Str}
noncomputable def BlOf (kd : Str) (rest : List Xv) (subs : List (List Xv)) : Prop :=
 (kd = "if" ∧ ∃ t a b, rest = [t, .tup a, .tup b] ∧ subs = [a, b]) ∨ ((kd = "while" ∨ kd = "times") ∧ ∃ t a, rest = [t, .tup a] ∧ subs = [a]) ∨ (kd = "hand" ∧ rest = [.tup (subs.map Xv.tup)]) ∨ (kd ≠ "if" ∧ kd ≠ "while" ∧ kd ≠ "times" ∧ kd ≠ "hand" ∧ subs = [])
theorem t_blocks {kd : Str} {rest : List Xv} {subs : List (List Xv)} (h : BlOf kd rest subs) : W (tw_blocks_of fu [.tup (.str kd :: rest)] S) fun v S' => v = .tup (subs.map Xv.tup) ∧ S = S' := by
 walk_at "wr"; unfold tb_blocks_of
 refine wx_seq (wx_if ?_)
 walk_at "w"
 rcases h with ⟨rfl, t, a, b, rfl, rfl⟩ | ⟨h, t, a, rfl, rfl⟩ | ⟨rfl, rfl⟩ | ⟨h1, h2, h3, h4, rfl⟩
 ·refine eq_word ⟨_, rfl, fun _ => ?_, (fun z => by cases z)⟩
  walk_at "w"
  refine ox_ixT rfl (show atI [Xv.str "if", t, .tup a, .tup b] 2 = some (.tup a) from rfl) ?_
  walk_at "w"
  refine ox_ixT rfl (show atI [Xv.str "if", t, .tup a, .tup b] 3 = some (.tup b) from rfl) ?_
  walk_at "w"
  exact ⟨rfl, rfl⟩
 ·refine ne_word (by rcases h with rfl | rfl <;> decide) ⟨_, rfl, (fun z => by cases z), fun _ => wx_next ?_⟩
  refine wx_seq (wx_if (wx_or ?_))
  walk_at "w"
  rcases h with rfl | rfl
  ·refine eq_word ⟨_, rfl, fun _ => ⟨fun _ => ?_, (fun z => by cases z)⟩, (fun z => by cases z)⟩
   walk_at "w"
   refine ox_ixT rfl (show atI [Xv.str "while", t, .tup a] 2 = some (.tup a) from rfl) ?_
   walk_at "w"
   exact ⟨rfl, rfl⟩
  ·refine ne_word (by decide) ⟨_, rfl, (fun z => by cases z), fun _ => ?_⟩
   walk_at "w"
   refine eq_word ⟨_, rfl, fun _ => ?_, (fun z => by cases z)⟩
   walk_at "w"
   refine ox_ixT rfl (show atI [Xv.str "times", t, .tup a] 2 = some (.tup a) from rfl) ?_
   walk_at "w"
   exact ⟨rfl, rfl⟩
 ·refine ne_word (by decide) ⟨_, rfl, (fun z => by cases z), fun _ => wx_next ?_⟩
  refine wx_seq (wx_if (wx_or ?_))
  walk_at "w"
  refine ne_word (by decide) ⟨_, rfl, (fun z => by cases z), fun _ => ?_⟩
  walk_at "w"
  refine ne_word (by decide) ⟨_, rfl, (fun z => by cases z), fun _ => wx_next ?_⟩
  refine wx_seq (wx_if ?_)
  walk_at "w"
  refine eq_word ⟨_, rfl, fun _ => ?_, (fun z => by cases z)⟩
  walk_at "w"
  exact ⟨rfl, rfl⟩
 ·refine ne_word h1 ⟨_, rfl, (fun z => by cases z), fun _ => wx_next ?_⟩
  refine wx_seq (wx_if (wx_or ?_))
  walk_at "w"
  refine ne_word h2 ⟨_, rfl, (fun z => by cases z), fun _ => ?_⟩
  walk_at "w"
  refine ne_word h3 ⟨_, rfl, (fun z => by cases z), fun _ => wx_next ?_⟩
  refine wx_seq (wx_if ?_)
  walk_at "w"
  refine ne_word h4 ⟨_, rfl, (fun z => by cases z), fun _ => wx_next ?_⟩
  walk_at "w"
  exact ⟨rfl, rfl⟩
noncomputable abbrev Itm := Str × List Xv × List (List Xv × List Str)
noncomputable def itmX (p : Itm) : Xv := .tup (.str p.1 :: p.2.1)
noncomputable def itmH (p : Itm) : List Str := p.1 :: (p.2.2.map (·.2)).flatten
inductive Bl : Nat → List Xv → List Str → Prop
 | mk {h : Nat} (its : List Itm) : (∀ p ∈ its, BlOf p.1 p.2.1 (p.2.2.map (·.1))) → (∀ p ∈ its, ∀ q ∈ p.2.2, Bl h q.1 q.2) → Bl (h + 1) (its.map itmX) (its.map itmH).flatten
noncomputable def HeadsOf (L : List Xv) (hs : List Str) : Prop := ∃ ps : List (Str × List Xv), L = ps.map (fun p => .tup (.str p.1 :: p.2)) ∧ hs = ps.map (·.1)
theorem HeadsOf.len {L : List Xv} {hs : List Str} (h : HeadsOf L hs) : L.length = hs.length := by
 obtain ⟨ps, rfl, rfl⟩ := h
 simp
theorem HeadsOf.app {L L' : List Xv} {hs hs' : List Str} (h : HeadsOf L hs) (h' : HeadsOf L' hs') : HeadsOf (L ++ L') (hs ++ hs') := by
 obtain ⟨ps, rfl, rfl⟩ := h
 obtain ⟨qs, rfl, rfl⟩ := h'
 exact ⟨ps ++ qs, by simp, by simp⟩
theorem flat_take {α β : Type} {f : α → List β} {l : List α} {i : Nat} {a : α} (h : l[i]? = some a) : ((l.take (i + 1)).map f).flatten = ((l.take i).map f).flatten ++ f a ∧ ((l.take (i + 1)).map f).flatten.length ≤ (l.map f).flatten.length := by
 obtain ⟨hi, e⟩ := List.getElem?_eq_some_iff.1 h
 refine ⟨by rw [List.take_succ_eq_append_getElem hi, List.map_append, List.flatten_append, e]; simp, ?_⟩
 have : (l.map f).flatten = ((l.take (i + 1)).map f).flatten ++ ((l.drop (i + 1)).map f).flatten := by rw [← List.flatten_append, ← List.map_append, List.take_append_drop]
 rw [this, List.length_append]
 omega
theorem sz2000 {n : Nat} (h : n ≤ 2000) : n ≤ sizeLine := Nat.le_trans h (by decide)
theorem t_within {h : Nat} {ds : List Xv} {hs : List Str} (b : Bl h ds hs) : ∀ (m : Nat) (S : Sto), h ≤ m → hs.length ≤ 1000 → W (tw_deeds_within fu m [.tup ds] S) fun v S' => ∃ n L, v = .ref n ∧ S'[n]? = some (.lst L) ∧ HeadsOf L hs ∧ S.length ≤ n ∧ Kp (fun _ => False) S S' := by
 induction b with
 | @mk h its hb _ ih =>
  intro m S hm hl
  obtain ⟨m, rfl⟩ : ∃ q, m = q + 1 := ⟨m - 1, by omega⟩
  rw [tw_deeds_within_succ]
  walk_at "wr"; unfold tb_deeds_within
  walk_at "w"
  refine wx_for (wx_iT ?_)
  walk_at "w"
  refine wx_forI (xs := its.map itmX) (fun i ρ S2 => ∃ (L : List Xv) (a2 a3 : Option Xv), ρ = [some (.tup (its.map itmX)), some (.ref S.length), a2, a3] ∧ HeadsOf L ((its.take i).map itmH).flatten ∧ S2[S.length]? = some (.lst L) ∧ Kp (fun _ => False) S S2) (fun _ _ _ _ _ => rfl) ?_ ?_ ?_
  ·rintro i w ρ S2 hw ⟨L, a2, a3, rfl, hL, e2, k2⟩
   rw [List.getElem?_map] at hw
   cases hp : its[i]? with
   | none => rw [hp] at hw; cases hw
   | some p =>
    rw [hp] at hw
    cases hw
    have hmem := List.mem_of_getElem? hp
    obtain ⟨f1, f2⟩ := flat_take (f := itmH) hp
    rw [f1, List.length_append] at f2
    have hpl : (itmH p).length = (p.2.2.map (·.2)).flatten.length + 1 := by unfold itmH; simp
    refine .of rfl ?_
    dsimp only [List.set]
    walk_at "w"
    refine wx_mt ?_
    walk_at "w"
    refine ⟨⟨_, lstAt_of e2⟩, ?_⟩
    walk_at "w"
    have hLl := hL.len
    refine ox_append (wlAt_of e2) (Nat.lt_of_lt_of_le (show L.length < 2000 by omega) (by decide)) ?_
    have k3 : Kp (fun _ => False) S (S2.set S.length (.lst (L ++ [itmX p]))) := k2.set (.inr (Nat.le_refl _))
    have e3 := at_set (c' := .lst (L ++ [itmX p])) e2
    generalize S2.set S.length (.lst (L ++ [itmX p])) = S3 at k3 e3 ⊢
    refine wx_for (wx_iT ?_)
    walk_at "w"
    refine (t_blocks (hb p hmem)).imp ?_
    rintro _ S4 ⟨rfl, rfl⟩
    refine ⟨_, rfl, _, rfl, ?_⟩
    refine wx_forI (xs := (p.2.2.map (·.1)).map Xv.tup) (fun j ρ S5 => ∃ (L5 : List Xv) (a3 : Option Xv), ρ = [some (.tup (its.map itmX)), some (.ref S.length), some (itmX p), a3] ∧ HeadsOf L5 (((its.take i).map itmH).flatten ++ p.1 :: ((p.2.2.take j).map (·.2)).flatten) ∧ S5[S.length]? = some (.lst L5) ∧ Kp (fun _ => False) S S5) (fun _ _ _ _ _ => rfl) ?_ ?_ ?_
    ·rintro j w ρ S5 hw ⟨L5, a3, rfl, hL5, e5, k5⟩
     rw [List.getElem?_map, List.getElem?_map] at hw
     cases hq : p.2.2[j]? with
     | none => rw [hq] at hw; cases hw
     | some q =>
      rw [hq] at hw
      cases hw
      obtain ⟨f3, f4⟩ := flat_take (f := fun q : List Xv × List Str => q.2) hq
      rw [f3, List.length_append] at f4
      refine .of rfl ?_
      dsimp only [List.set]
      walk_at "w"
      refine wx_mt ?_
      walk_at "w"
      refine ⟨⟨_, lstAt_of e5⟩, ?_⟩
      walk_at "w"
      refine (ih p hmem q (List.mem_of_getElem? hq) m S5 (by omega) (by omega)).imp ?_
      rintro _ S6 ⟨n6, L6, rfl, e6, hL6, hn6, k6⟩
      walk_at "w"
      have e5' := k6.2 _ _ e5 id
      have l5 := hL5.len
      have l6 := hL6.len
      rw [List.length_append, List.length_cons] at l5
      refine WO.of (show mExtend (.ref S.length) [.ref n6] S6 = some (.non, S6.set S.length (.lst (L5 ++ L6))) by
       unfold mExtend
       rw [wlAt_of e5']
       dsimp only
       rw [show seqAt S6 (.ref n6) = some L6 from lstAt_of e6, Option.bind_some, if_pos (sz2000 (by omega))]) ?_
      refine ⟨L5 ++ L6, _, rfl, ?_, at_set e5', (k5.trans k6).set (.inr (Nat.le_refl _))⟩
      rw [f3]
      have := hL5.app hL6
      simpa using this
    ·refine ⟨L ++ [itmX p], a3, rfl, ?_, e3, k3⟩
     exact hL.app ⟨[(p.1, p.2.1)], rfl, rfl⟩
    ·rintro ρ S5 ⟨L5, a3, rfl, hL5, e5, k5⟩
     rw [List.length_map, List.length_map, List.take_length] at hL5
     exact ⟨L5, _, _, rfl, by rw [f1]; exact hL5, e5, k5⟩
  ·exact ⟨[], none, none, rfl, ⟨[], rfl, rfl⟩, at_new, Kp.pre (List.prefix_append _ _)⟩
  ·rintro ρ S2 ⟨L, a2, a3, rfl, hL, e2, k2⟩
   rw [List.length_map, List.take_length] at hL
   walk_at "w"
   exact ⟨_, L, rfl, e2, hL, Nat.le_refl _, k2⟩
theorem bols_map : ∀ bs : List Bool, bolsX (bs.map Xv.bl) = some bs
 | [] => rfl
 | b :: r => by rw [List.map_cons]; simp [bolsX, bols_map r]
theorem t_bounded {h : Nat} {ds : List Xv} {hs : List Str} (b : Bl h ds hs) (hh : h ≤ 12) (hl : hs.length ≤ 1000) : W (tw_is_bounded fu [.tup ds] S) fun v S' => v = .bl (!decide ((Str.ofString "while") ∈ hs)) ∧ Kp (fun _ => False) S S' := by
 walk_at "wr"; unfold tb_is_bounded
 walk_at "w"
 refine W.imp (P := fun v S' => v = .bl (decide ((Str.ofString "while") ∈ hs)) ∧ Kp (fun _ => False) S S') ?_ ?_
 ·walk_at "wr"; unfold tb_stands_in
  refine wx_ret (wx_fn (wx_cons (wx_comp (wx_iL ?_))))
  walk_at "w"
  refine (t_within b 12 S hh hl).imp ?_
  rintro _ S2 ⟨n, L, rfl, e2, ⟨ps, rfl, rfl⟩, hn, k2⟩
  refine ⟨_, lstAt_of e2, _, lstAt_of e2, ?_⟩
  refine wx_compI (by simpa using sz2000 (by simp at hl; omega)) (fun i es S3 => S3 = S2 ∧ es = ((ps.take i).map fun p => decide (p.1 = Str.ofString "while")).map Xv.bl) ?_ ?_ ⟨rfl, rfl⟩ ?_
  ·rintro i es _ _ ⟨rfl, _⟩
   exact lstAt_of e2
  ·rintro i w es _ hw hel ⟨rfl, rfl⟩
   rw [List.getElem?_map] at hw
   cases hp : ps[i]? with
   | none => rw [hp] at hw; cases hw
   | some p =>
    rw [hp] at hw
    cases hw
    refine .of rfl ?_
    dsimp only [capR, List.map, List.set]
    walk_at "w"
    refine ⟨rfl, ?_⟩
    walk_at "w"
    refine ox_eqSs ⟨rfl, ?_⟩
    obtain ⟨hi, e⟩ := List.getElem?_eq_some_iff.1 hp
    rw [List.take_succ_eq_append_getElem hi, List.map_append, List.map_append, e]
    rfl
  ·rintro es S3 _ ⟨rfl, rfl⟩
   rw [List.length_map, List.take_length]
   walk_at "w"
   refine WO.of (show dAny [.ref S3.length] _ = some (.bl ((ps.map fun p => decide (p.1 = Str.ofString "while")).any id), _) by
    unfold dAny; dsimp only; rw [lstAt_new, Option.bind_some, bols_map]; rfl) ?_
   refine ⟨?_, k2.app⟩
   congr 1
   rw [Bool.eq_iff_iff, decide_eq_true_iff, List.any_eq_true]
   constructor
   ·rintro ⟨b, hb, hb2⟩
    obtain ⟨p, hp, rfl⟩ := List.mem_map.1 hb
    exact List.mem_map.2 ⟨p, hp, of_decide_eq_true hb2⟩
   ·intro h
    obtain ⟨p, hp, e⟩ := List.mem_map.1 h
    exact ⟨_, List.mem_map.2 ⟨p, hp, rfl⟩, decide_eq_true e⟩
 ·rintro _ S2 ⟨rfl, k2⟩
  walk_at "w"
  exact ⟨rfl, k2⟩
end
section
variable {fu : Nat} {S S' S2 : Sto} {x y : Xv} {gn : Nat} {z : Str}
theorem t_init {n : Nat} {bx : Xv} (h : S[n]? = some (.ins "Grower" [])) : W (tw_Grower___init__ fu [.ref n, bx] S) fun v S' => v = .non ∧ S'[n]? = some (.ins "Grower" [("boxes", bx), ("leaves", .int 0)]) ∧ Kp (· = n) S S' := by
 walk_at "wr"; unfold tb_Grower___init__
 walk_at "w"
 refine wx_putS ?_
 walk_at "w"
 refine ⟨_, _, rfl, h, by decide, ?_⟩
 refine wx_putS ?_
 walk_at "w"
 refine ⟨_, _, rfl, at_set h, (show (1 : Nat) < 1000 by decide), rfl, at_set (at_set h), ((Kp.refl (· = n)).set (.inl rfl)).set (.inl rfl)⟩
theorem Kp.fresh {n : Nat} (k : Kp (fun _ => False) S S2) (k2 : Kp (· = n) S2 S') (h : S.length ≤ n) : Kp (fun _ => False) S S' := ⟨Nat.le_trans k.1 k2.1, fun m c e _ => k2.2 m c (k.2 m c e id) (fun q => by have := (List.getElem?_eq_some_iff.1 e).1; omega)⟩
noncomputable def prog (z : Str) (ds : List Xv) : Xv := .tup [bsV z, .tup ds]
theorem tree_no {h : Nat} {ds : List Xv} {hs : List Str} {st : Xv} (b : Bl h ds hs) (hh : h ≤ 12) (hl : hs.length ≤ 1000) (hw : (Str.ofString "while") ∈ hs) : WE (tw_tree_of fu [prog z ds, st] S) (fun _ _ => False) fun cl S' => cl = "NoBound" ∧ Kp (fun _ => False) S S' := by
 refine we_run rfl rfl ?_
 dsimp only [List.map, HAppend.hAppend, Append.append, List.append, List.replicate]
 unfold tb_tree_of
 refine wse_seq (wse_if ?_)
 walk_at "w"
 refine ox_ixT rfl (show atI [bsV z, .tup ds] 1 = some (.tup ds) from rfl) ?_
 walk_at "w"
 refine (t_bounded b hh hl).imp ?_
 rintro _ S2 ⟨rfl, k2⟩
 rw [decide_eq_true hw]
 refine ⟨_, rfl, fun _ => wse_raise ?_, (fun z => by cases z)⟩
 walk_at "w"
 exact ⟨rfl, k2⟩
theorem tree_begin {h : Nat} {ds : List Xv} {hs : List Str} {st : Xv} {P : Xv → Sto → Prop} {X : Str → Sto → Prop} (b : Bl h ds hs) (hh : h ≤ 12) (hl : hs.length ≤ 1000) (hw : (Str.ofString "while") ∉ hs)
  (k : ∀ S2 gn, GrAt gn z 0 S2 → S.length ≤ gn → Kp (fun _ => False) S S2 → WE (tw_Grower_tree_from fu 80 [.ref gn, laterX ds, st, .int 0] S2) P X) : WE (tw_tree_of fu [prog z ds, st] S) P X := by
 refine we_run rfl rfl ?_
 dsimp only [List.map, HAppend.hAppend, Append.append, List.append, List.replicate]
 unfold tb_tree_of
 refine wse_seq (wse_if ?_)
 walk_at "w"
 refine ox_ixT rfl (show atI [bsV z, .tup ds] 1 = some (.tup ds) from rfl) ?_
 walk_at "w"
 refine (t_bounded b hh hl).imp ?_
 rintro _ S2 ⟨rfl, k2⟩
 rw [decide_eq_false hw]
 refine ⟨_, rfl, (fun z => by cases z), fun _ => wse_next ?_⟩
 refine wse_ret (we_meth (.w ?_))
 refine wx_make ?_
 walk_at "w"
 refine ox_ixT rfl (show atI [bsV z, .tup ds] 0 = some (bsV z) from rfl) ?_
 walk_at "w"
 refine (t_init at_new).imp ?_
 rintro _ S3 ⟨rfl, g3, k3⟩
 refine ⟨rfl, _, _, rfl, g3, rfl, .w ?_⟩
 walk_at "w"
 refine ox_ixT rfl (show atI [bsV z, .tup ds] 1 = some (.tup ds) from rfl) ?_
 walk_at "w"
 have := t_ahead (fu := fu) (S := S3) (ds := ds) (r := [])
 rw [List.append_nil] at this
 refine this.imp ?_
 rintro _ _ ⟨rfl, rfl⟩
 walk_at "w"
 exact k _ _ g3 k2.1 ((k2.app (T := [.ins "Grower" []])).fresh k3 k2.1)
theorem tree_ok (hfu : 1000000 ≤ fu) {h g w n : Nat} {ds : List Xv} {hs : List Str} {a b d : Int} (bl : Bl h ds hs) (hh : h ≤ 12) (hl : hs.length ≤ 1000) (hw : (Str.ofString "while") ∉ hs) (c : Cnt z g w ds n) (hg : g < 40) (hw2 : w < 1000) :
  WE (tw_tree_of fu [prog z ds, stV a b d] S) (fun v S' => n ≤ 400 ∧ Tr v n g ∧ Kp (fun _ => False) S S') fun cl S' => cl = "TooMany" ∧ 400 < n ∧ Kp (fun _ => False) S S' := by
 refine tree_begin bl hh hl hw fun S2 gn g2 hn k2 => ?_
 refine (of_loop (by omega) (all_loop hfu c) 80 0 a b d 0 S2 (by omega) (by omega) g2).imp ?_ ?_
 ·rintro v S3 ⟨h1, tr, g3, k3⟩
  exact ⟨by omega, tr, k2.fresh k3 hn⟩
 ·rintro cl S3 ⟨rfl, h1, k3⟩
  exact ⟨rfl, by omega, k2.fresh k3 hn⟩
end
section
variable {fu : Nat} {S S' S2 : Sto} {x y : Xv} {gn : Nat} {z : Str}
noncomputable def wordX (c : Str) : Xv := .tup [.bl (decide (c = "NoBound")), .bl (decide (c = "TooMany")), .bl false, .bl true]
theorem t_told {pg st : Xv} {P : Xv → Sto → Prop} {X : Str → Sto → Prop} (h : WE (tw_tree_of fu [pg, st] S) P X) (hx : ∀ c S', X c S' → c = "NoBound" ∨ c = "TooMany") : W (tw__law_told fu [pg, st] S) fun v S' => (∃ t, P t S' ∧ v = .tup [.tup [], t]) ∨ (∃ c S2, X c S2 ∧ S' = S2 ++ [.exc c] ∧ v = .tup [wordX c, .non]) := by
 walk_at "wr"; unfold tb__law_told
 walk_at "w"
 refine wx_cut (fun ρ S' => ∃ a5 w t, ρ = [some pg, some st, some w, some t, none, a5] ∧ ((P t S' ∧ w = .tup []) ∨ ∃ c S2, X c S2 ∧ S' = S2 ++ [.exc c] ∧ w = wordX c ∧ t = .non)) (wx_try (xs := [pg, st]) rfl (h.imp ?_ ?_)) ?_
 ·intro v S2 hp
  exact ⟨none, .tup [], v, rfl, .inl ⟨hp, rfl⟩⟩
 ·intro c S2 hc
  have hcc := hx c S2 hc
  refine ⟨by rcases hcc with rfl | rfl <;> simp, ?_⟩
  dsimp only [List.set]
  have e0 : (S2 ++ [Ce.exc c])[S2.length]? = some (.exc c) := at_new
  have hd : WS ((sSeq (sAsg (eUn (dIsE (tblOf [("NoBound", false), ("TooMany", false)])) (eVar 4)) (gN 5)) (sAsg (eTup [(eUn (dIsE (tblOf [("NoBound", true), ("TooMany", false)])) (eVar 4)), (eUn (dIsE (tblOf [("NoBound", false), ("TooMany", true)])) (eVar 4)), (eVar 5), (eUn (dIsE (tblOf [("NoBound", true), ("TooMany", true)])) (eVar 4))]) (gN 2))) [some pg, some st, some (.tup []), some .non, some (.ref S2.length), none] (S2 ++ [Ce.exc c])) (fun ρ' S' => ρ' = [some pg, some st, some (wordX c), some .non, some (.ref S2.length), some (.bl false)] ∧ S' = S2 ++ [Ce.exc c]) (fun _ _ => False) := by
   rcases hcc with rfl | rfl
   ·walk_at "w"
    refine ox_isE (v := false) e0 rfl ?_
    walk_at "w"
    refine ox_isE (v := true) e0 rfl ?_
    walk_at "w"
    refine ox_isE (v := false) e0 rfl ?_
    walk_at "w"
    refine ox_isE (v := true) e0 rfl ?_
    walk_at "w"
    exact ⟨rfl, rfl⟩
   ·walk_at "w"
    refine ox_isE (v := false) e0 rfl ?_
    walk_at "w"
    refine ox_isE (v := false) e0 rfl ?_
    walk_at "w"
    refine ox_isE (v := true) e0 rfl ?_
    walk_at "w"
    refine ox_isE (v := true) e0 rfl ?_
    walk_at "w"
    exact ⟨rfl, rfl⟩
  rcases hd with ⟨ρ', S', e, rfl, rfl⟩ | ⟨_, _, _, z⟩
  ·exact ⟨_, _, e, some (.bl false), wordX c, .non, rfl, .inr ⟨c, S2, hc, rfl, rfl, rfl⟩⟩
  ·exact z.elim
 ·rintro _ S2 ⟨a5, w, t, rfl, h⟩
  walk_at "w"
  rcases h with ⟨hp, rfl⟩ | ⟨c, S3, hc, rfl, rfl, rfl⟩
  ·exact .inl ⟨t, hp, rfl⟩
  ·exact .inr ⟨c, S3, hc, rfl, rfl⟩
theorem Tr.pos {v : Xv} {n h : Nat} (t : Tr v n h) : 1 ≤ n := by
 induction t with
 | fin => exact Nat.le_refl _
 | lost => exact Nat.le_refl _
 | draw ps hne _ _ ih =>
  cases ps with
  | nil => exact absurd rfl hne
  | cons p r =>
   have := ih p (List.mem_cons_self ..)
   rw [List.map_cons, List.sum_cons]
   omega
 | hand ps hne _ _ ih =>
  cases ps with
  | nil => exact absurd rfl hne
  | cons p r =>
   have := ih p (List.mem_cons_self ..)
   rw [List.map_cons, List.sum_cons]
   omega
noncomputable abbrev St3 := List (Xv × Nat × Nat)
noncomputable def sN (l : St3) : Nat := (l.map fun p => p.2.1).sum
noncomputable def sM (l : St3) : Nat := (l.map fun p => p.2.1 * (p.2.2 + 1)).sum
theorem sN_app (l m : St3) : sN (l ++ m) = sN l + sN m := by unfold sN; rw [List.map_append, List.sum_append]
theorem sM_app (l m : St3) : sM (l ++ m) = sM l + sM m := by unfold sM; rw [List.map_append, List.sum_append]
theorem sN_len : ∀ {l : St3}, (∀ p ∈ l, Tr p.1 p.2.1 p.2.2) → l.length ≤ sN l
 | [], _ => by simp
 | p :: r, h => by
  have h1 := (h p (List.mem_cons_self ..)).pos
  have := sN_len fun q hq => h q (List.mem_cons_of_mem _ hq)
  unfold sN at this ⊢
  rw [List.map_cons, List.sum_cons, List.length_cons]
  omega
theorem sM_const {h : Nat} : ∀ {l : St3}, (∀ p ∈ l, p.2.2 = h) → sM l = sN l * (h + 1)
 | [], _ => by simp [sM, sN]
 | p :: r, hh => by
  have := sM_const (h := h) fun q hq => hh q (List.mem_cons_of_mem _ hq)
  unfold sN sM at this ⊢
  rw [List.map_cons, List.sum_cons, List.map_cons, List.sum_cons, this, hh p (List.mem_cons_self ..), Nat.add_mul]
noncomputable def leavesB : TwS := (sSeq (sAsg (eMt mPop (eVar 2) []) (gN 3)) (sIf (bE (eOp (dEqS false) (eOp dIxT (eVar 3) (eC (.int 0))) (eC (.str "draw")))) (sExpr (eMt mExtend (eVar 2) [(eComp [none] (iT (eOp dIxT (eVar 3) (eC (.int 1)))) (gN 0) bTrue (eOp dIxT (eVar 0) (eC (.int 1))))])) (sIf (bE (eOp (dEqS false) (eOp dIxT (eVar 3) (eC (.int 0))) (eC (.str "hand")))) (sExpr (eMt mExtend (eVar 2) [(eOp dIxT (eVar 3) (eC (.int 1)))])) (sAsg (eOp dAdd (eVar 1) (eC (.int 1))) (gN 1)))))
theorem leaves_loop {v0 : Xv} {ln : Nat} {T0 : Sto} : ∀ (k : Nat) (l : St3) (m : Nat) (a3 : Option Xv) (S : Sto), sM l < k → (∀ p ∈ l, Tr p.1 p.2.1 p.2.2) → sN l ≤ 400 → S[ln]? = some (.lst (l.map (·.1))) → T0.length ≤ ln → Kp (fun _ => False) T0 S →
  WS (whTw (bE (eOp dGt (eFn dLen [(eVar 2)]) (eC (.int 0)))) leavesB k [some v0, some (.int (m : Int)), some (.ref ln), a3] S) (fun ρ S' => ∃ a3, ρ = [some v0, some (.int ((m + sN l : Nat) : Int)), some (.ref ln), a3] ∧ Kp (fun _ => False) T0 S') (fun _ _ => False) := by
 intro k
 induction k with
 | zero => intro l m a3 S h; omega
 | succ k ih =>
  intro l m a3 S hk hl h4 e hT kT
  refine wx_turn ?_
  walk_at "w"
  refine ox_len (lstAt_of e) ?_
  walk_at "w"
  rw [List.length_map]
  refine wx_ifT (fun hc => ?_) (fun hc => ?_)
  ·unfold leavesB
   have hne : l ≠ [] := fun q => by rw [q] at hc; simp at hc
   obtain ⟨r, p, rfl⟩ : ∃ r p, l = r ++ [p] := ⟨l.dropLast, l.getLast hne, (List.dropLast_concat_getLast hne).symm⟩
   obtain ⟨v, n, h⟩ := p
   have tr : Tr v n h := hl _ (List.mem_append_right _ (List.mem_singleton.2 rfl))
   have hr : ∀ p ∈ r, Tr p.1 p.2.1 p.2.2 := fun p hp => hl p (List.mem_append_left _ hp)
   have np := tr.pos
   rw [sM_app] at hk
   rw [sN_app] at h4 ⊢
   have m1 : sM [(v, n, h)] = n * (h + 1) := by simp [sM]
   have n1 : sN [(v, n, h)] = n := by simp [sN]
   rw [m1] at hk
   rw [n1] at h4 ⊢
   have rl := sN_len hr
   walk_at "w"
   refine wx_mt ?_
   walk_at "w"
   refine ⟨⟨_, lstAt_of e⟩, ?_⟩
   walk_at "w"
   refine WO.of (show mPop (.ref ln) [] S = some (v, S.set ln (.lst (r.map (·.1)))) by
    unfold mPop
    rw [wlAt_of e]
    dsimp only
    rw [List.map_append, List.map_cons, List.map_nil, List.length_append, List.length_singleton, Nat.add_sub_cancel, List.getElem?_append_right (Nat.le_refl _), Nat.sub_self, List.dropLast_concat]
    rfl) ?_
   have e2 := at_set (c' := .lst (r.map (·.1))) e
   have k2 : Kp (fun _ => False) T0 (S.set ln (.lst (r.map (·.1)))) := kT.set (.inr hT)
   generalize S.set ln (.lst (r.map (·.1))) = S2 at e2 k2 ⊢
   refine wx_if ?_
   walk_at "w"
   have nonleaf : ∀ {P : Prop}, 1 ≤ n → (1 = n → P) → P ∨ 1 < n := fun h1 h2 => by
    rcases Nat.lt_or_ge 1 n with h | h
    ·exact .inr h
    ·exact .inl (h2 (by omega))
   cases tr with
   | @fin s g h =>
    refine ox_ixT rfl (show atI [Xv.str "end", s, g] 0 = some (.str "end") from rfl) ?_
    walk_at "w"
    refine ne_word (by decide) ⟨_, rfl, (fun z => by cases z), fun _ => ?_⟩
    refine wx_if ?_
    walk_at "w"
    refine ne_word (by decide) ⟨_, rfl, (fun z => by cases z), fun _ => ?_⟩
    walk_at "w"
    have := ih r (m + 1) (some (.tup [.str "end", s, g])) S2 (by omega) hr (by omega) e2 hT k2
    rw [show m + 1 + sN r = m + (sN r + 1) by omega] at this
    exact this
   | @lost g h =>
    refine ox_ixT rfl (show atI [Xv.str "lost", g] 0 = some (.str "lost") from rfl) ?_
    walk_at "w"
    refine ne_word (by decide) ⟨_, rfl, (fun z => by cases z), fun _ => ?_⟩
    refine wx_if ?_
    walk_at "w"
    refine ne_word (by decide) ⟨_, rfl, (fun z => by cases z), fun _ => ?_⟩
    walk_at "w"
    have := ih r (m + 1) (some (.tup [.str "lost", g])) S2 (by omega) hr (by omega) e2 hT k2
    rw [show m + 1 + sN r = m + (sN r + 1) by omega] at this
    exact this
   | @draw h ps hne hpl hps =>
    refine ox_ixT rfl (show atI [Xv.str "draw", .tup (ps.map fun p => .tup [p.1, p.2.1])] 0 = some (.str "draw") from rfl) ?_
    walk_at "w"
    refine eq_word ⟨_, rfl, fun _ => ?_, (fun z => by cases z)⟩
    walk_at "w"
    refine wx_mt ?_
    walk_at "w"
    refine ⟨⟨_, lstAt_of e2⟩, ?_⟩
    refine wx_cons (wx_comp (wx_iT ?_))
    walk_at "w"
    refine wx_compI (by rw [List.length_map]; exact Nat.le_of_lt (sz100 hpl)) (fun i es S3 => S3 = S2 ∧ es = (ps.take i).map fun p => p.2.1) (fun _ _ _ _ _ => rfl) ?_ ⟨rfl, rfl⟩ ?_
    ·rintro i w es S3 hw hel ⟨rfl, rfl⟩
     rw [List.getElem?_map] at hw
     cases hp : ps[i]? with
     | none => rw [hp] at hw; cases hw
     | some p =>
      rw [hp] at hw
      cases hw
      refine .of rfl ?_
      dsimp only [capR, List.map, List.set]
      walk_at "w"
      refine ⟨rfl, ?_⟩
      walk_at "w"
      refine ⟨rfl, ?_⟩
      obtain ⟨hi, e⟩ := List.getElem?_eq_some_iff.1 hp
      rw [List.take_succ_eq_append_getElem hi, List.map_append, e]
      rfl
    ·rintro es S3 _ ⟨e3, rfl⟩
     rw [e3]
     clear e3
     rw [List.length_map, List.take_length]
     walk_at "w"
     have e4 := getP (List.prefix_append S2 [Ce.lst (ps.map fun p => p.2.1)]) e2
     have s1 : sN (ps.map fun p => (p.2.1, p.2.2, h)) = (ps.map fun p => p.2.2).sum := by unfold sN; rw [List.map_map]; rfl
     refine WO.of (show mExtend (.ref ln) [.ref S2.length] _ = some (.non, (S2 ++ [Ce.lst (ps.map fun p => p.2.1)]).set ln (.lst (r.map (·.1) ++ ps.map fun p => p.2.1))) by
      unfold mExtend
      rw [wlAt_of e4]
      dsimp only
      rw [show seqAt _ (.ref S2.length) = some (ps.map fun p => p.2.1) from lstAt_new, Option.bind_some, if_pos (sz2000 (by rw [List.length_map, List.length_map]; omega))]) ?_
     have := ih (r ++ ps.map fun p => (p.2.1, p.2.2, h)) m (some (.tup [.str "draw", .tup (ps.map fun p => .tup [p.1, p.2.1])])) _ ?_ ?_ ?_ ?_ hT ((k2.app (T := [Ce.lst (ps.map fun p => p.2.1)])).set (n := ln) (c := .lst (r.map (·.1) ++ ps.map fun p => p.2.1)) (.inr hT))
     ·rw [sN_app, s1] at this
      exact this
     ·have s2 : sM (ps.map fun p => (p.2.1, p.2.2, h)) = (ps.map fun p => p.2.2).sum * (h + 1) := by rw [sM_const (h := h) (fun p hp => by obtain ⟨q, _, rfl⟩ := List.mem_map.1 hp; rfl), s1]
      rw [sM_app, s2]
      rw [Nat.mul_add, Nat.mul_one] at hk
      omega
     ·intro p hp
      rcases List.mem_append.1 hp with hp | hp
      ·exact hr p hp
      ·obtain ⟨q, hq, rfl⟩ := List.mem_map.1 hp
       exact hps q hq
     ·rw [sN_app, s1]
      exact h4
     ·rw [at_set e4, List.map_append, List.map_map]
      rfl
   | @hand h ps hne hpl hps =>
    refine ox_ixT rfl (show atI [Xv.str "hand", .tup (ps.map (·.1))] 0 = some (.str "hand") from rfl) ?_
    walk_at "w"
    refine ne_word (by decide) ⟨_, rfl, (fun z => by cases z), fun _ => ?_⟩
    refine wx_if ?_
    walk_at "w"
    refine eq_word ⟨_, rfl, fun _ => ?_, (fun z => by cases z)⟩
    walk_at "w"
    refine wx_mt ?_
    walk_at "w"
    refine ⟨⟨_, lstAt_of e2⟩, ?_⟩
    walk_at "w"
    have s1 : sN (ps.map fun p => (p.1, p.2, h)) = (ps.map (·.2)).sum := by unfold sN; rw [List.map_map]; rfl
    refine WO.of (show mExtend (.ref ln) [.tup (ps.map (·.1))] S2 = some (.non, S2.set ln (.lst (r.map (·.1) ++ ps.map (·.1)))) by
     unfold mExtend
     rw [wlAt_of e2]
     dsimp only
     rw [show seqAt _ (.tup (ps.map (·.1))) = some (ps.map (·.1)) from rfl, Option.bind_some, if_pos (sz2000 (by rw [List.length_map, List.length_map]; omega))]) ?_
    have := ih (r ++ ps.map fun p => (p.1, p.2, h)) m (some (.tup [.str "hand", .tup (ps.map (·.1))])) _ ?_ ?_ ?_ ?_ hT (k2.set (n := ln) (c := .lst (r.map (·.1) ++ ps.map (·.1))) (.inr hT))
    ·rw [sN_app, s1] at this
     exact this
    ·have s2 : sM (ps.map fun p => (p.1, p.2, h)) = (ps.map (·.2)).sum * (h + 1) := by rw [sM_const (h := h) (fun p hp => by obtain ⟨q, _, rfl⟩ := List.mem_map.1 hp; rfl), s1]
     rw [sM_app, s2]
     rw [Nat.mul_add, Nat.mul_one] at hk
     omega
    ·intro p hp
     rcases List.mem_append.1 hp with hp | hp
     ·exact hr p hp
     ·obtain ⟨q, hq, rfl⟩ := List.mem_map.1 hp
      exact hps q hq
    ·rw [sN_app, s1]
     exact h4
    ·rw [at_set e2, List.map_append, List.map_map]
     rfl
  ·have : l = [] := List.length_eq_zero_iff.1 (by omega)
   subst this
   exact ⟨a3, by simp [sN], kT⟩
theorem t_leaves {v : Xv} {n h : Nat} (t : Tr v n h) (hn : n ≤ 400) (hh : h ≤ 100) (hfu : 1000000 ≤ fu) : W (tw__law_leaves fu [v] S) fun r S' => r = .int (n : Int) := by
 walk_at "wr"; unfold tb__law_leaves
 walk_at "w"
 refine wx_wh ?_
 have m1 : sM [(v, n, h)] = n * (h + 1) := by simp [sM]
 have n1 : sN [(v, n, h)] = n := by simp [sN]
 have hb : n * (h + 1) ≤ 400 * 101 := Nat.mul_le_mul hn (by omega)
 rcases leaves_loop (v0 := v) (ln := S.length) (T0 := S) fu [(v, n, h)] 0 none (S ++ [.lst [v]]) (by omega) (fun p hp => by rw [List.mem_singleton] at hp; subst hp; exact t) (by omega) at_new (Nat.le_refl _) (Kp.pre (List.prefix_append _ _)) with ⟨ρ, S', e, a3, rfl, _⟩ | ⟨_, _, _, z⟩
 ·refine .nx e ?_
  walk_at "w"
  rw [n1, Nat.zero_add]
 ·exact z.elim
end
section
variable {fu : Nat} {S S' S2 : Sto} {x y : Xv} {ln : Nat} {z : Str}
theorem Bl.more {h h' : Nat} {ds : List Xv} {hs : List Str} (b : Bl h ds hs) (hh : h ≤ h') : Bl h' ds hs := by
 induction b generalizing h' with
 | @mk h its a1 _ ih =>
  obtain ⟨k, rfl⟩ : ∃ k, h' = k + 1 := ⟨h' - 1, by omega⟩
  exact .mk its a1 fun p hp q hq => ih p hp q hq (by omega)
structure BlI (h : Nat) (its : List Itm) (b : Nat) (q : Bool) : Prop where
 of : ∀ p ∈ its, BlOf p.1 p.2.1 (p.2.2.map (·.1))
 sub : ∀ p ∈ its, ∀ r ∈ p.2.2, Bl h r.1 r.2
 wh : decide (Str.ofString "while" ∈ (its.map itmH).flatten) = q
 len : (its.map itmH).flatten.length ≤ b
theorem BlI.bl {h b : Nat} {its : List Itm} {q : Bool} (i : BlI h its b q) : Bl (h + 1) (its.map itmX) (its.map itmH).flatten := .mk its i.of i.sub
theorem BlI.nil {h : Nat} : BlI h [] 0 false := ⟨(fun p hp => by cases hp), (fun p hp => by cases hp), rfl, Nat.le_refl _⟩
theorem BlI.more {h b h' b' : Nat} {its : List Itm} {q : Bool} (i : BlI h its b q) (hh : h ≤ h') (hb : b ≤ b') : BlI h' its b' q := ⟨i.of, fun p hp r hr => (i.sub p hp r hr).more hh, i.wh, Nat.le_trans i.len hb⟩
theorem BlI.app {h b b' : Nat} {its its' : List Itm} {q q' : Bool} (i : BlI h its b q) (j : BlI h its' b' q') : BlI h (its ++ its') (b + b') (q || q') := by
 refine ⟨fun p hp => ?_, fun p hp => ?_, ?_, ?_⟩
 ·rcases List.mem_append.1 hp with hp | hp
  ·exact i.of p hp
  ·exact j.of p hp
 ·rcases List.mem_append.1 hp with hp | hp
  ·exact i.sub p hp
  ·exact j.sub p hp
 ·rw [List.map_append, List.flatten_append, ← i.wh, ← j.wh]
  rw [Bool.eq_iff_iff, Bool.or_eq_true, decide_eq_true_iff, decide_eq_true_iff, decide_eq_true_iff, List.mem_append]
 ·rw [List.map_append, List.flatten_append, List.length_append]
  have := i.len
  have := j.len
  omega
theorem BlI.one {h b : Nat} {p : Itm} (h1 : BlOf p.1 p.2.1 (p.2.2.map (·.1))) (h2 : ∀ r ∈ p.2.2, Bl h r.1 r.2) (h3 : (itmH p).length ≤ b) : BlI h [p] b (decide (Str.ofString "while" ∈ itmH p)) := by
 refine ⟨fun q hq => ?_, fun q hq => ?_, ?_, ?_⟩
 ·rw [List.mem_singleton] at hq; subst hq; exact h1
 ·rw [List.mem_singleton] at hq; subst hq; exact h2
 ·simp
 ·simpa using h3
theorem plain_of {kd : Str} {rest : List Xv} (h : kd ≠ "if" ∧ kd ≠ "while" ∧ kd ≠ "times" ∧ kd ≠ "hand") : BlOf kd rest [] := .inr (.inr (.inr ⟨h.1, h.2.1, h.2.2.1, h.2.2.2, rfl⟩))
theorem BlI.plain {h : Nat} {kd : Str} (rest : List Xv) (hk : kd ≠ "if" ∧ kd ≠ "while" ∧ kd ≠ "times" ∧ kd ≠ "hand") : BlI h [(kd, rest, [])] 1 false := by
 have := BlI.one (h := h) (b := 1) (p := (kd, rest, [])) (plain_of hk) (fun r hr => by cases hr) (by simp [itmH])
 rwa [decide_eq_false] at this
 intro q
 simp [itmH] at q
 exact hk.2.1 q.symm
noncomputable def smallB (nm : Str) (k : Int) : List (List Itm) := [[], [("pass", [], [])], [("gain", [.int 7], [])], [("set", [.str nm, .tup [.int k]], [])]]
theorem small_bl {nm : Str} {k : Int} {its : List Itm} (h : its ∈ smallB nm k) : BlI 0 its 1 false := by
 unfold smallB at h
 simp only [List.mem_cons, List.not_mem_nil, or_false] at h
 rcases h with rfl | rfl | rfl | rfl
 ·exact BlI.nil.more (Nat.le_refl _) (by decide)
 ·exact BlI.plain _ (by decide)
 ·exact BlI.plain _ (by decide)
 ·exact BlI.plain _ (by decide)
theorem small_cnt {nm : Str} {k : Int} {its : List Itm} {h w n i : Nat} {r : List Xv} (hn : Nm z nm i) (hi : its ∈ smallB nm k) (c : Cnt z h w r n) : Cnt z h (w + 1) (its.map itmX ++ r) n := by
 unfold smallB at hi
 simp only [List.mem_cons, List.not_mem_nil, or_false] at hi
 rcases hi with rfl | rfl | rfl | rfl
 ·exact c.more (Nat.le_refl _) (by omega)
 ·exact .pass c
 ·exact .gain c
 ·exact .set hn c
theorem BlI.hand {h b : Nat} (bls : List (List Itm)) (hb : ∀ its ∈ bls, BlI h its b false) : BlI (h + 1) [("hand", [.tup (bls.map fun its => .tup (its.map itmX))], bls.map fun its => (its.map itmX, (its.map itmH).flatten))] (bls.length * b + 1) false := by
 have hl : ∀ bls : List (List Itm), (∀ its ∈ bls, BlI h its b false) → ((bls.map fun its => (its.map itmH).flatten).flatten.length ≤ bls.length * b ∧ Str.ofString "while" ∉ (bls.map fun its => (its.map itmH).flatten).flatten) := by
  intro bls
  induction bls with
  | nil => intro _; simp
  | cons a r ih =>
   intro hb
   obtain ⟨h1, h2⟩ := ih fun q hq => hb q (List.mem_cons_of_mem _ hq)
   have ha := hb a (List.mem_cons_self ..)
   have hw := of_decide_eq_false ha.wh
   have := ha.len
   rw [List.map_cons, List.flatten_cons, List.length_append, List.length_cons, Nat.add_mul]
   refine ⟨by omega, fun q => ?_⟩
   rcases List.mem_append.1 q with q | q
   ·exact hw q
   ·exact h2 q
 obtain ⟨l1, l2⟩ := hl bls hb
 have e : ((bls.map fun its => (its.map itmX, (its.map itmH).flatten)).map (·.2)) = bls.map fun its => (its.map itmH).flatten := by rw [List.map_map]; rfl
 have e2 : itmH ((Str.ofString "hand"), [.tup (bls.map fun its => .tup (its.map itmX))], bls.map fun its => (its.map itmX, (its.map itmH).flatten)) = Str.ofString "hand" :: (bls.map fun its => (its.map itmH).flatten).flatten := by
  rw [← e]
  rfl
 have := BlI.one (h := h + 1) (b := bls.length * b + 1) (p := ("hand", [.tup (bls.map fun its => .tup (its.map itmX))], bls.map fun its => (its.map itmX, (its.map itmH).flatten))) (.inr (.inr (.inl ⟨rfl, by rw [List.map_map, List.map_map]; rfl⟩))) (fun r hr => by
  obtain ⟨its, hi, rfl⟩ := List.mem_map.1 hr
  exact (hb its hi).bl) (by
  rw [e2, List.length_cons]
  omega)
 rwa [decide_eq_false] at this
 intro q
 rw [e2] at q
 rcases List.mem_cons.1 q with q | q
 ·exact absurd q (by decide)
 ·exact l2 q
structure GoodB (z : Str) (its : List Itm) (m k b : Nat) : Prop where
 cnt : ∀ h w r n, Cnt z h w r n → w ≤ 900 → Cnt z (h + m) 900 (its.map itmX ++ r) (k * n)
 bl : BlI 1 its b false
theorem GoodB.nil : GoodB z [] 0 1 0 := ⟨fun h w r n c hw => by rw [Nat.one_mul]; exact c.more (by omega) hw, BlI.nil⟩
theorem GoodB.snoc {its : List Itm} {p : Itm} {m k b k' b' : Nat} (g : GoodB z its m k b) (hp : ∀ h w r n, Cnt z h w r n → w ≤ 900 → Cnt z (h + 1) 900 (itmX p :: r) (k' * n)) (hb : BlI 1 [p] b' false) : GoodB z (its ++ [p]) (m + 1) (k * k') (b + b') := by
 refine ⟨fun h w r n c hw => ?_, g.bl.app hb⟩
 rw [List.map_append, List.append_assoc, Nat.mul_assoc]
 have := g.cnt (h + 1) 900 (itmX p :: r) (k' * n) (hp h w r n c hw) (Nat.le_refl _)
 rw [show h + (m + 1) = h + 1 + m by omega]
 exact this
theorem draw_good {nm : Str} {i : Nat} {ws : List Int} (hn : Nm z nm i) (h0 : ws ≠ []) (hw : ∀ w ∈ ws, 1 ≤ w ∧ w ≤ 9) (hl : ws.length ≤ 100) : (∀ h w r n, Cnt z h w r n → w ≤ 900 → Cnt z (h + 1) 900 (itmX ("draw", [.str nm, .tup (ws.map Xv.int)], []) :: r) (ws.length * n)) ∧ BlI 1 [("draw", [.str nm, .tup (ws.map Xv.int)], [])] 10 false :=
 ⟨fun h w r n c hw9 => .draw hn h0 hw hl (by omega) c, (BlI.plain _ (by decide)).more (Nat.le_refl _) (by decide)⟩
theorem hand_good {nm : Str} {i : Nat} {k : Int} {bls : List (List Itm)} (hn : Nm z nm i) (h0 : bls ≠ []) (hl : bls.length ≤ 9) (hb : ∀ its ∈ bls, its ∈ smallB nm k) : (∀ h w r n, Cnt z h w r n → w ≤ 900 → Cnt z (h + 1) 900 (itmX ("hand", [.tup (bls.map fun its => .tup (its.map itmX))], bls.map fun its => (its.map itmX, (its.map itmH).flatten)) :: r) (bls.length * n)) ∧ BlI 1 [("hand", [.tup (bls.map fun its => .tup (its.map itmX))], bls.map fun its => (its.map itmX, (its.map itmH).flatten))] 10 false := by
 refine ⟨fun h w r n c hw9 => ?_, (BlI.hand bls fun its hi => small_bl (hb its hi)).more (Nat.le_refl _) (by omega)⟩
 have := Cnt.hand (z := z) (h := h) (w := 901) (w' := 900) (r := r) (bls.map fun its => (its.map itmX, n)) (by simpa using h0) (by simpa using (show bls.length ≤ 100 by omega)) (by decide) (fun p hp => by
  obtain ⟨its, hi, rfl⟩ := List.mem_map.1 hp
  exact (small_cnt hn (hb its hi) c).more (Nat.le_refl _) (by omega))
 rw [List.map_map, List.map_map] at this
 have e : (List.map ((fun x : List Xv × Nat => x.2) ∘ fun its => (its.map itmX, n)) bls).sum = bls.length * n := sum_const fun p _ => rfl
 rw [e] at this
 exact this
end
section
variable {fu : Nat} {S S' S2 : Sto} {x y : Xv} {ln : Nat} {z : Str}
theorem LeftAt.app {T : Sto} (h : LeftAt ln S) : LeftAt ln (S ++ T) := h.keep (Kp.pre (w := fun _ => False) (List.prefix_append _ _)) id
theorem LeftAt.lt (h : LeftAt ln S) : ln < S.length := by
 obtain ⟨ns, en⟩ := h
 exact (List.getElem?_eq_some_iff.1 en).1
theorem ox_tuple {P : Xv → Sto → Prop} {n : Nat} {l : List Xv} (h : S[n]? = some (.lst l)) (k : P (.tup l) S) : WO (dTuple [.ref n] S) P := .of (by unfold dTuple; dsimp only; rw [lstAt_of h]; rfl) k
theorem ox_catT {P : Xv → Sto → Prop} {a b : List Xv} (h : a.length + b.length ≤ 999) (k : P (.tup (a ++ b)) S) : WO (dCatT (.tup a) (.tup b) S) P := .of (by unfold dCatT; exact if_pos (Nat.le_of_lt (sz999 h))) k
theorem t_compL {P : Xv → Sto → Prop} {Q : Xv → Prop} {size : Nat} {ρ : Rho} {cap : List (Option Nat)} {e n : TwE} (hl : LeftAt ln S) (hs : size ≤ 100)
  (hn : W (n ρ S) fun v S' => v = .int (size : Int) ∧ S' = S)
  (he : ∀ (k : Nat) (S2 : Sto), LeftAt ln S2 → Kp (· = ln) S S2 → W (e ((capR cap ρ).set 0 (some (.int (k : Int)))) S2) fun v S' => Q v ∧ LeftAt ln S' ∧ Kp (· = ln) S2 S')
  (k : ∀ (es : List Xv) S2, es.length = size → (∀ x ∈ es, Q x) → LeftAt ln S2 → Kp (· = ln) S S2 → P (.ref S2.length) (S2 ++ [.lst es])) : W (eComp cap (iR1 n) (gN 0) bTrue e ρ S) P := by
 refine wx_comp (wx_iR1 (hn.imp ?_))
 rintro _ S1 ⟨rfl, rfl⟩
 refine ⟨_, rfl, ⟨by omega, by omega⟩, _, rfl, ?_⟩
 refine wx_compI (by rw [rangeX_len]; exact Nat.le_of_lt (sz100 (by omega))) (fun i es S2 => (∀ x ∈ es, Q x) ∧ LeftAt ln S2 ∧ Kp (· = ln) S1 S2) (fun _ _ _ _ _ => rfl) ?_ ⟨(fun p hp => by cases hp), hl, Kp.refl _⟩ ?_
 ·rintro i w es S2 hw hel ⟨hp, l2, k2⟩
  obtain ⟨hi, rfl⟩ := rangeX_at hw
  rw [Int.zero_add]
  refine .of rfl ?_
  walk_at "w"
  refine ⟨rfl, ?_⟩
  refine (he i S2 l2 k2).imp ?_
  rintro v S3 ⟨hv, l3, k3⟩
  refine ⟨fun p h => ?_, l3, k2.trans k3⟩
  rcases List.mem_append.1 h with h | h
  ·exact hp p h
  ·rw [List.mem_singleton] at h
   subst h
   exact hv
 ·rintro es S2 hlen ⟨hp, l2, k2⟩
  rw [rangeX_len, Int.toNat_natCast] at hlen
  exact k es S2 hlen hp l2 k2
theorem pull {α : Type} {f : α → Xv} {p : α → Prop} : ∀ {es : List Xv}, (∀ e ∈ es, ∃ a, p a ∧ e = f a) → ∃ l : List α, es = l.map f ∧ ∀ a ∈ l, p a
 | [], _ => ⟨[], rfl, (fun a ha => by cases ha)⟩
 | e :: r, h => by
  obtain ⟨a, ha, rfl⟩ := h e (List.mem_cons_self ..)
  obtain ⟨l, rfl, hl⟩ := pull fun q hq => h q (List.mem_cons_of_mem _ hq)
  exact ⟨a :: l, rfl, fun b hb => by
   rcases List.mem_cons.1 hb with rfl | hb
   ·exact ha
   ·exact hl b hb⟩
noncomputable def nmAt (z : Str) : Nat → Str
 | 0 => z
 | 1 => "x"
 | _ => "y"
structure Zok (z : Str) : Prop where
 x : Str.ofString "x" ≠ z
 y : Str.ofString "y" ≠ z
theorem Zok.nm (h : Zok z) {i : Nat} (hi : i < 3) : Nm z (nmAt z i) i := by
 match i, hi with
 | 0, _ => exact .inl ⟨rfl, rfl⟩
 | 1, _ => exact .inr (.inl ⟨rfl, h.x, rfl⟩)
 | 2, _ => exact .inr (.inr ⟨rfl, h.y, rfl⟩)
noncomputable def szAt : Nat → Nat
 | 0 => 8
 | _ => 5
theorem box_at {i : Nat} (hi : i < 3) : ([Xv.tup [.str z, .int 8], .tup [.str "x", .int 5], .tup [.str "y", .int 5]])[i]? = some (.tup [.str (nmAt z i), .int (szAt i : Int)]) := by
 match i, hi with
 | 0, _ => rfl
 | 1, _ => rfl
 | 2, _ => rfl
theorem l012 {i : Nat} (hi : i < 3) : ([Xv.int 0, .int 1, .int 2])[i]? = some (.int (i : Int)) := by
 match i, hi with
 | 0, _ => rfl
 | 1, _ => rfl
 | 2, _ => rfl
noncomputable def pr : List Nat → Nat
 | [] => 1
 | a :: r => a * pr r
theorem pr_app : ∀ (l : List Nat) (a : Nat), pr (l ++ [a]) = pr l * a
 | [], a => by simp [pr]
 | b :: r, a => by
  show b * pr (r ++ [a]) = b * pr r * a
  rw [pr_app r a, Nat.mul_assoc]
theorem nat_of {c : Int} {m : Nat} (h0 : 0 ≤ c) (h1 : c < (m : Int)) : ∃ n : Nat, c = (n : Int) ∧ n < m := ⟨c.toNat, by omega, by omega⟩
theorem t_many (hz : Zok z) {sn : Nat} {szs : List Nat} (hl : LeftAt ln S) (hs : S[sn]? = some (.lst (szs.map fun (k : Nat) => Xv.int (k : Int)))) (hsl : sn ≠ ln) (h9 : ∀ k ∈ szs, 1 ≤ k ∧ k ≤ 9) (hlen : szs.length ≤ 9) : W (tw__law_many fu [.ref ln, bsV z, .ref sn] S) fun v S' => ∃ its, v = .tup (its.map itmX) ∧ GoodB z its szs.length (pr szs) (10 * szs.length) ∧ LeftAt ln S' ∧ Kp (· = ln) S S' := by
 walk_at "wr"; unfold tb__law_many
 walk_at "w"
 refine wx_for (wx_iL ?_)
 walk_at "w"
 refine ⟨_, lstAt_of hs, _, lstAt_of hs, ?_⟩
 refine wx_forI (xs := szs.map fun (k : Nat) => Xv.int (k : Int)) (fun i ρ S2 => ∃ (its : List Itm) (a4 a5 a6 a7 : Option Xv), ρ = [some (.ref ln), some (bsV z), some (.ref sn), some (.tup (its.map itmX)), a4, a5, a6, a7] ∧ its.length = i ∧ GoodB z its i (pr (szs.take i)) (10 * i) ∧ LeftAt ln S2 ∧ Kp (· = ln) S S2) ?_ ?_ ?_ ?_
 ·rintro i ρ S2 _ ⟨its, a4, a5, a6, a7, _, _, _, _, k2⟩
  exact lstAt_of (k2.2 _ _ hs hsl)
 ·rintro i w ρ S2 hw ⟨its, a4, a5, a6, a7, rfl, hil, g, l2, k2⟩
  rw [List.getElem?_map] at hw
  cases hk : szs[i]? with
  | none => rw [hk] at hw; cases hw
  | some sz =>
   rw [hk] at hw
   cases hw
   have hsz := h9 sz (List.mem_of_getElem? hk)
   have hi : i < szs.length := (List.getElem?_eq_some_iff.1 hk).1
   have hpr : pr (szs.take (i + 1)) = pr (szs.take i) * sz := by
    obtain ⟨hi, e⟩ := List.getElem?_eq_some_iff.1 hk
    rw [List.take_succ_eq_append_getElem hi, pr_app, e]
   refine .of rfl ?_
   dsimp only [List.set]
   walk_at "w"
   refine (t_take l2.app (by decide)).imp ?_
   rintro _ S3 ⟨c, rfl, c0, c1, l3, k3⟩
   obtain ⟨at_, rfl, hat⟩ := nat_of (m := 3) c0 c1
   have hnl : ¬ S2.length = ln := by have := l2.lt; omega
   have e3 := k3.2 _ _ at_new hnl
   refine ox_ixL (lstAt_of e3) (atI_nat (l012 hat)) ?_
   have k23 : Kp (· = ln) S S3 := k2.trans ((Kp.pre (List.prefix_append _ _)).trans k3)
   have hnm := hz.nm hat
   walk_at "w"
   refine wx_if (wx_and ?_)
   walk_at "w"
   refine (t_take l3 (by decide)).imp ?_
   rintro _ S4 ⟨c, rfl, c0, c1, l4, k4⟩
   walk_at "w"
   have k24 := k23.trans k4
   have hnd : ∀ {N : Rho → Sto → Prop} {R : Xv → Sto → Prop}, (∀ its' a6 a7 S9, (GoodB z its' (i + 1) (pr (szs.take (i + 1))) (10 * (i + 1)) ∧ its'.length = i + 1) → LeftAt ln S9 → Kp (· = ln) S S9 → N [some (.ref ln), some (bsV z), some (.ref sn), some (.tup (its'.map itmX)), some (.int (sz : Int)), some (.int (at_ : Int)), a6, a7] S9) → WS ((sSeq (sAsg (eLst [(eTup []), (eTup [(eTup [(eC (.str "pass"))])]), (eTup [(eTup [(eC (.str "gain")), (eC (.int 7))])]), (eTup [(eTup [(eC (.str "set")), (eOp dIxT (eOp dIxT (eVar 1) (eVar 5)) (eC (.int 0))), (eTup [(eC (.int 3))])])])]) (gN 7)) (sAsg (eOp dCatT (eVar 3) (eTup [(eTup [(eC (.str "hand")), (eFn dTuple [(eComp [none, some 7, some 0] (iR1 (eVar 4)) (gN 0) bTrue (eOp dIxL (eVar 1) (eCall (tw__law_take fu) [(eVar 2), (eC (.int 4))])))])])])) (gN 3))) [some (.ref ln), some (bsV z), some (.ref sn), some (.tup (its.map itmX)), some (.int (sz : Int)), some (.int (at_ : Int)), a6, a7] S4) N R := by
    intro N R fin
    walk_at "w"
    refine ox_ixT rfl (atI_nat (box_at hat)) ?_
    walk_at "w"
    have e5 : (S4 ++ [Ce.lst [.tup [], .tup [.tup [.str "pass"]], .tup [.tup [.str "gain", .int 7]], .tup [.tup [.str "set", .str (nmAt z at_), .tup [.int 3]]]]])[S4.length]? = some (.lst ((smallB (nmAt z at_) 3).map fun its => .tup (its.map itmX))) := at_new
    have k5 := (k24.app (T := [Ce.lst [.tup [], .tup [.tup [.str "pass"]], .tup [.tup [.str "gain", .int 7]], .tup [.tup [.str "set", .str (nmAt z at_), .tup [.int 3]]]]]))
    have l5 := l4.app (T := [Ce.lst [.tup [], .tup [.tup [.str "pass"]], .tup [.tup [.str "gain", .int 7]], .tup [.tup [.str "set", .str (nmAt z at_), .tup [.int 3]]]]])
    generalize S4 ++ [Ce.lst [.tup [], .tup [.tup [.str "pass"]], .tup [.tup [.str "gain", .int 7]], .tup [.tup [.str "set", .str (nmAt z at_), .tup [.int 3]]]]] = S5 at e5 k5 l5 ⊢
    have hn4 : ¬ S4.length = ln := by have := l4.lt; omega
    refine t_compL (ln := ln) (size := sz) (Q := fun v => ∃ a, a ∈ smallB (nmAt z at_) 3 ∧ v = .tup (a.map itmX)) l5 (by omega) (by walk_at "w"; exact ⟨rfl, rfl⟩) ?_ ?_
    ·intro k S6 l6 k6
     dsimp only [capR, List.map, List.set]
     walk_at "w"
     refine (t_take l6 (by decide)).imp ?_
     rintro _ S7 ⟨c, rfl, c0, c1, l7, k7⟩
     obtain ⟨cn, rfl, hcn⟩ := nat_of (m := 4) c0 c1
     have e7 := k7.2 _ _ (k6.2 _ _ e5 hn4) hn4
     have hb : (smallB (nmAt z at_) 3)[cn]? = some ((smallB (nmAt z at_) 3)[cn]'(by unfold smallB; simpa using hcn)) := List.getElem?_eq_getElem _
     refine ox_ixL (lstAt_of e7) (atI_nat (by rw [List.getElem?_map, hb]; rfl)) ?_
     exact ⟨⟨_, List.mem_of_getElem? hb, rfl⟩, l7, k7⟩
    ·intro es S6 hes hQ l6 k6
     obtain ⟨bls, rfl, hbls⟩ := pull hQ
     rw [List.length_map] at hes
     walk_at "w"
     refine ox_tuple at_new ?_
     walk_at "w"
     refine ox_catT (by rw [List.length_map]; simp; omega) ?_
     obtain ⟨g1, g2⟩ := hand_good (k := 3) hnm (fun e => by rw [e] at hes; simp at hes; omega) (by omega) hbls
     rw [hes] at g1
     have gg := g.snoc g1 g2
     have := fin _ a6 (some (.ref S4.length)) (S6 ++ [Ce.lst (bls.map fun its => .tup (its.map itmX))]) ⟨by rw [hpr]; exact gg, by simp [hil]⟩ l6.app ((k5.trans k6).app)
     rw [List.map_append] at this
     exact this
   refine wx_ifT (fun hc => ?_) (fun hc => ⟨(fun z => by cases z), fun _ => hnd fun its' a6 a7 S9 g9 l9 k9 => ⟨its', _, _, _, _, rfl, g9.2, g9.1, l9, k9⟩⟩)
   walk_at "w"
   refine ox_ixT rfl (atI_nat (box_at hat)) ?_
   walk_at "w"
   refine wx_ifT (fun hc => ?_) (fun hc => hnd fun its' a6 a7 S9 g9 l9 k9 => ⟨its', _, _, _, _, rfl, g9.2, g9.1, l9, k9⟩)
   refine wx_seq (wx_set ?_)
   refine t_compL (ln := ln) (size := sz) (Q := fun v => ∃ a : Int, (1 ≤ a ∧ a ≤ 9) ∧ v = .int a) l4 (by omega) (by walk_at "w"; exact ⟨rfl, rfl⟩) ?_ ?_
   ·intro k S6 l6 k6
    dsimp only [capR, List.map, List.set]
    walk_at "w"
    refine (t_take l6 (by decide)).imp ?_
    rintro _ S7 ⟨c, rfl, c0, c1, l7, k7⟩
    walk_at "w"
    exact ⟨⟨_, ⟨by omega, by omega⟩, rfl⟩, l7, k7⟩
   ·intro es S6 hes hQ l6 k6
    obtain ⟨ws, rfl, hws⟩ := pull hQ
    rw [List.length_map] at hes
    dsimp only [List.set]
    walk_at "w"
    refine ox_ixT rfl (atI_nat (box_at hat)) ?_
    walk_at "w"
    refine ox_tuple at_new ?_
    walk_at "w"
    refine ox_catT (by rw [List.length_map]; simp; omega) ?_
    obtain ⟨g1, g2⟩ := draw_good (z := z) hnm (fun e => by rw [e] at hes; simp at hes; omega) hws (by omega)
    rw [hes] at g1
    have gg := g.snoc g1 g2
    refine ⟨its ++ [((Str.ofString "draw", [Xv.str (nmAt z at_), Xv.tup (ws.map Xv.int)], []) : Itm)], some (.int (sz : Int)), some (.int (at_ : Int)), some (.ref S6.length), a7, ?_, by simp [hil], by rw [hpr]; exact gg, l6.app, (k24.trans k6).app⟩
    rw [List.map_append]
    rfl
 ·exact ⟨[], none, none, none, none, rfl, rfl, GoodB.nil, hl, Kp.refl _⟩
 ·rintro ρ S2 ⟨its, a4, a5, a6, a7, rfl, hil, g, l2, k2⟩
  rw [List.length_map, List.take_length] at g
  walk_at "w"
  exact ⟨g, l2, k2⟩
end
section
variable {fu : Nat} {S S' S2 : Sto} {x y : Xv} {ln : Nat} {z : Str}
noncomputable def blkX (its : List Itm) : Xv := .tup (its.map itmX)
structure Third (z : Str) (bs : List (List Itm × Nat)) (m : Nat) : Prop where
 sum : (bs.map (·.2)).sum = m
 len : bs.length ≤ 1
 cnt : ∀ p ∈ bs, ∀ h w r, Cnt z h w r 1 → w ≤ 900 → Cnt z (h + 1) 901 (p.1.map itmX ++ r) p.2
 bl : ∀ p ∈ bs, BlI 1 p.1 20 false
theorem gains_cnt {h w : Nat} {r : List Xv} (c : Cnt z h w r 1) (hw : w ≤ 900) {m : Nat} (h0 : 0 < m) (hm : m ≤ 9) : Cnt z (h + 1) 901 (.tup [.str "hand", .tup ((List.range m).map fun (k : Nat) => .tup [.tup [.str "gain", .int (k : Int)]])] :: r) m := by
 have := Cnt.hand (z := z) (h := h) (w := 901) (w' := 901) (r := r) ((List.range m).map fun (k : Nat) => ([.tup [.str "gain", .int (k : Int)]], 1)) (by intro e; have := congrArg List.length e; simp at this; omega) (by simp; omega) (by decide) (fun p hp => by
  obtain ⟨k, _, rfl⟩ := List.mem_map.1 hp
  exact (Cnt.gain c).more (Nat.le_refl _) (by omega))
 rw [List.map_map, List.map_map] at this
 have e : (List.map ((fun x : List Xv × Nat => x.2) ∘ fun (k : Nat) => ([Xv.tup [.str "gain", .int (k : Int)]], 1)) (List.range m)).sum = m := by
  have := sum_const (f := ((fun x : List Xv × Nat => x.2) ∘ fun (k : Nat) => ([Xv.tup [.str "gain", .int (k : Int)]], 1))) (n := 1) (l := List.range m) (fun p _ => rfl)
  rw [this, List.length_range, Nat.mul_one]
 rw [e] at this
 exact this
noncomputable def gainsI (m : Nat) : Itm := ("hand", [.tup (((List.range m).map fun (k : Nat) => [((Str.ofString "gain", [Xv.int (k : Int)], []) : Itm)]).map fun its => .tup (its.map itmX))], ((List.range m).map fun (k : Nat) => [((Str.ofString "gain", [Xv.int (k : Int)], []) : Itm)]).map fun its => (its.map itmX, (its.map itmH).flatten))
theorem t_third {m : Nat} (hm : m ≤ 8) : W (tw__law_third fu [.int (m : Int)] S) fun v S' => ∃ bs, v = .tup (bs.map fun p => blkX p.1) ∧ Third z bs m ∧ S <+: S' := by
 walk_at "wr"; unfold tb__law_third
 refine wx_seq (wx_if ?_)
 walk_at "w"
 refine wx_ifT (fun h => ?_) (fun h => wx_next ?_)
 ·walk_at "w"
  refine ⟨[], rfl, ⟨by simp; omega, by simp, (fun p hp => by cases hp), (fun p hp => by cases hp)⟩, List.prefix_refl _⟩
 refine wx_seq (wx_if ?_)
 walk_at "w"
 refine wx_ifT (fun h => ?_) (fun h => wx_next ?_)
 ·walk_at "w"
  refine ⟨[([], 1)], rfl, ⟨by simp; omega, by simp, fun p hp h w r c hw => ?_, fun p hp => ?_⟩, List.prefix_refl _⟩
  ·rw [List.mem_singleton] at hp
   subst hp
   exact c.more (by omega) (by omega)
  ·rw [List.mem_singleton] at hp
   subst hp
   exact (BlI.nil (h := 0)).more (by omega) (by omega)
 walk_at "w"
 refine wx_comp (wx_iR1 ?_)
 walk_at "w"
 refine ⟨⟨by omega, by omega⟩, _, rfl, ?_⟩
 refine wx_compI (by rw [rangeX_len]; exact Nat.le_of_lt (sz100 (by omega))) (fun i es S2 => S2 = S ∧ es = (List.range i).map fun (k : Nat) => .tup [.tup [.str "gain", .int (k : Int)]]) (fun _ _ _ _ _ => rfl) ?_ ⟨rfl, rfl⟩ ?_
 ·rintro i w es S2 hw hel ⟨rfl, rfl⟩
  obtain ⟨hi, rfl⟩ := rangeX_at hw
  rw [Int.zero_add]
  refine .of rfl ?_
  dsimp only [capR, List.map, List.set]
  walk_at "w"
  refine ⟨rfl, ?_⟩
  walk_at "w"
  refine ⟨rfl, ?_⟩
  rw [List.range_succ, List.map_append]
  rfl
 ·rintro es S2 _ ⟨rfl, rfl⟩
  rw [rangeX_len, Int.toNat_natCast]
  walk_at "w"
  refine ox_tuple at_new ?_
  walk_at "w"
  refine ⟨[([gainsI m], m)], ?_, ⟨by simp, by simp, fun p hp h w r c hw => ?_, fun p hp => ?_⟩, List.prefix_append _ _⟩
  ·show Xv.tup [.tup [.tup [.str "hand", .tup ((List.range m).map _)]]] = .tup [.tup [itmX (gainsI m)]]
   unfold gainsI itmX
   rw [List.map_map]
   rfl
  ·rw [List.mem_singleton] at hp
   subst hp
   have := gains_cnt c hw (m := m) (by omega) (by omega)
   have e : itmX (gainsI m) = .tup [.str "hand", .tup ((List.range m).map fun (k : Nat) => .tup [.tup [.str "gain", .int (k : Int)]])] := by
    unfold gainsI itmX
    rw [List.map_map]
    rfl
   show Cnt z (h + 1) 901 (itmX (gainsI m) :: r) m
   rw [e]
   exact this
  ·rw [List.mem_singleton] at hp
   subst hp
   refine (BlI.hand (h := 0) (b := 1) ((List.range m).map fun (k : Nat) => [((Str.ofString "gain", [Xv.int (k : Int)], []) : Itm)]) fun its hi => ?_).more (Nat.le_refl _) (by simp; omega)
   obtain ⟨k, _, rfl⟩ := List.mem_map.1 hi
   exact BlI.plain _ (by decide)
theorem BlI.wrap {h b : Nat} {q : Bool} {its : List Itm} {kd : Str} (t : Xv) (hk : kd = "while" ∨ kd = "times") (i : BlI h its b q) : BlI (h + 1) [(kd, [t, .tup (its.map itmX)], [(its.map itmX, (its.map itmH).flatten)])] (b + 1) (decide (kd = "while") || q) := by
 have := BlI.one (h := h + 1) (b := b + 1) (p := (kd, [t, .tup (its.map itmX)], [(its.map itmX, (its.map itmH).flatten)])) (.inr (.inl ⟨hk, t, _, rfl, rfl⟩)) (fun r hr => by
  rw [List.mem_singleton] at hr; subst hr; exact i.bl) (by
  have := i.len
  show (kd :: ([(its.map itmH).flatten]).flatten).length ≤ _
  simp
  simp at this
  exact this)
 have e : decide (Str.ofString "while" ∈ itmH (kd, [t, .tup (its.map itmX)], [(its.map itmX, (its.map itmH).flatten)])) = (decide (kd = "while") || q) := by
  show decide (Str.ofString "while" ∈ kd :: ([(its.map itmH).flatten]).flatten) = _
  rw [← i.wh, Bool.eq_iff_iff, Bool.or_eq_true, decide_eq_true_iff, decide_eq_true_iff, decide_eq_true_iff, List.mem_cons]
  simp only [List.flatten_cons, List.flatten_nil, List.append_nil]
  constructor
  ·rintro (h | h)
   ·exact .inl h.symm
   ·exact .inr h
  ·rintro (h | h)
   ·exact .inl h.symm
   ·exact .inr h
 rw [e] at this
 exact this
theorem BlI.two {h b b' : Nat} {q q' : Bool} {its its' : List Itm} {kd : Str} {rest : List Xv} (hk : kd ≠ "while") (hof : BlOf kd rest [its.map itmX, its'.map itmX]) (i : BlI h its b q) (j : BlI h its' b' q') : BlI (h + 1) [(kd, rest, [(its.map itmX, (its.map itmH).flatten), (its'.map itmX, (its'.map itmH).flatten)])] (b + b' + 1) (q || q') := by
 have := BlI.one (h := h + 1) (b := b + b' + 1) (p := (kd, rest, [(its.map itmX, (its.map itmH).flatten), (its'.map itmX, (its'.map itmH).flatten)])) hof (fun r hr => by
  rcases List.mem_cons.1 hr with rfl | hr
  ·exact i.bl
  ·rw [List.mem_singleton] at hr; subst hr; exact j.bl) (by
  have h1 := i.len
  have h2 := j.len
  show (kd :: ([(its.map itmH).flatten, (its'.map itmH).flatten]).flatten).length ≤ _
  rw [List.length_cons, List.flatten_cons, List.flatten_cons, List.flatten_nil, List.append_nil, List.length_append]
  omega)
 have e : decide (Str.ofString "while" ∈ itmH (kd, rest, [(its.map itmX, (its.map itmH).flatten), (its'.map itmX, (its'.map itmH).flatten)])) = (q || q') := by
  show decide (Str.ofString "while" ∈ kd :: ([(its.map itmH).flatten, (its'.map itmH).flatten]).flatten) = _
  rw [← i.wh, ← j.wh, Bool.eq_iff_iff, Bool.or_eq_true, decide_eq_true_iff, decide_eq_true_iff, decide_eq_true_iff, List.mem_cons, List.flatten_cons, List.flatten_cons, List.flatten_nil, List.append_nil, List.mem_append]
  constructor
  ·rintro (h | h)
   ·exact absurd h.symm hk
   ·exact h
  ·exact fun h => .inr h
 rw [e] at this
 exact this
noncomputable def small2 (nm : Str) : List (List Itm) := [[], [("pass", [], [])], [("set", [.str nm, .tup [.int 0]], [])]]
theorem small2_bl {nm : Str} {its : List Itm} (h : its ∈ small2 nm) : BlI 0 its 1 false := by
 unfold small2 at h
 simp only [List.mem_cons, List.not_mem_nil, or_false] at h
 rcases h with rfl | rfl | rfl
 ·exact BlI.nil.more (Nat.le_refl _) (by decide)
 ·exact BlI.plain _ (by decide)
 ·exact BlI.plain _ (by decide)
theorem t_loop (hl : LeftAt ln S) : W (tw__law_loop fu [.ref ln, bsV z] S) fun v S' => ∃ it, v = itmX it ∧ BlI 5 [it] 20 true ∧ LeftAt ln S' ∧ Kp (· = ln) S S' := by
 walk_at "wr"; unfold tb__law_loop
 walk_at "w"
 refine ox_ixT rfl (atI_nat (i := 0) (box_at (by decide))) ?_
 walk_at "w"
 have e1 : (S ++ [Ce.lst [.tup [], .tup [.tup [.str "pass"]], .tup [.tup [.str "set", .str (nmAt z 0), .tup [.int 0]]]]])[S.length]? = some (.lst ((small2 (nmAt z 0)).map fun its => .tup (its.map itmX))) := at_new
 have k1 : Kp (· = ln) S (S ++ [Ce.lst [.tup [], .tup [.tup [.str "pass"]], .tup [.tup [.str "set", .str (nmAt z 0), .tup [.int 0]]]]]) := (Kp.refl _).app
 have l1 := hl.app (T := [Ce.lst [.tup [], .tup [.tup [.str "pass"]], .tup [.tup [.str "set", .str (nmAt z 0), .tup [.int 0]]]]])
 have hnl : ¬ S.length = ln := by have := hl.lt; omega
 generalize S ++ [Ce.lst [.tup [], .tup [.tup [.str "pass"]], .tup [.tup [.str "set", .str (nmAt z 0), .tup [.int 0]]]]] = S1 at e1 k1 l1 ⊢
 refine (t_take l1 (by decide)).imp ?_
 rintro _ S2 ⟨c, rfl, c0, c1, l2, k2⟩
 obtain ⟨i, rfl, hi⟩ := nat_of (m := 3) c0 c1
 refine ox_ixT rfl (atI_nat (box_at hi)) ?_
 walk_at "w"
 refine (t_take l2 (by decide)).imp ?_
 rintro _ S3 ⟨c2, rfl, _, _, l3, k3⟩
 walk_at "w"
 refine (t_take l3 (by decide)).imp ?_
 rintro _ S4 ⟨c3, rfl, c30, c31, l4, k4⟩
 obtain ⟨j, rfl, hj⟩ := nat_of (m := 3) c30 c31
 have e4 := k4.2 _ _ (k3.2 _ _ (k2.2 _ _ e1 hnl) hnl) hnl
 have hb : (small2 (nmAt z 0))[j]? = some ((small2 (nmAt z 0))[j]'(by unfold small2; simpa using hj)) := List.getElem?_eq_getElem _
 have hmem := List.mem_of_getElem? hb
 generalize (small2 (nmAt z 0))[j]'(by unfold small2; simpa using hj) = its0 at hb hmem
 refine ox_ixL (lstAt_of e4) (atI_nat (z := .tup (its0.map itmX)) (by rw [List.getElem?_map, hb]; rfl)) ?_
 have b0 : BlI 1 [((Str.ofString "while", [.tup [.str (nmAt z i), .str "=", .int c2], .tup (its0.map itmX)], [(its0.map itmX, (its0.map itmH).flatten)]) : Itm)] 2 true := BlI.wrap (kd := "while") _ (.inl rfl) (small2_bl hmem)
 generalize hd0 : ((Str.ofString "while", [.tup [.str (nmAt z i), .str "=", .int c2], .tup (its0.map itmX)], [(its0.map itmX, (its0.map itmH).flatten)]) : Itm) = it0 at b0
 have ed : Xv.tup [.str "while", .tup [.str (nmAt z i), .str "=", .int c2], .tup (its0.map itmX)] = itmX it0 := by rw [← hd0]; rfl
 walk_at "w"
 rw [ed]
 have kk := k1.trans (k2.trans (k3.trans k4))
 refine wx_for (wx_iR1 ?_)
 walk_at "w"
 refine (t_take l4 (by decide)).imp ?_
 rintro _ S5 ⟨c5, rfl, c50, c51, l5, k5⟩
 refine ⟨_, rfl, ⟨by omega, by omega⟩, _, rfl, ?_⟩
 have kk5 := kk.trans k5
 have bp : BlI 1 [((Str.ofString "pass", [], []) : Itm)] 1 false := BlI.plain _ (by decide)
 refine wx_forI (fun k ρ S6 => ∃ (it : Itm) (a4 a5 : Option Xv), ρ = [some (.ref ln), some (bsV z), some (.ref S.length), some (itmX it), a4, a5] ∧ BlI (1 + k) [it] (2 + 4 * k) true ∧ LeftAt ln S6 ∧ Kp (· = ln) S S6) (fun _ _ _ _ _ => rfl) ?_ ?_ ?_
 ·rintro k w ρ S6 hw ⟨it, a4, a5, rfl, bi, l6, k6⟩
  obtain ⟨hk, rfl⟩ := rangeX_at hw
  refine .of rfl ?_
  dsimp only [List.set]
  walk_at "w"
  refine (t_take l6 (by decide)).imp ?_
  rintro _ S7 ⟨c7, rfl, c70, c71, l7, k7⟩
  have bi2 : BlI (1 + k) ([it] ++ [((Str.ofString "pass", [], []) : Itm)]) (2 + 4 * k + 1) true := bi.app (bp.more (by omega) (Nat.le_refl _))
  have bi3 : BlI (1 + k) ([((Str.ofString "pass", [], []) : Itm)] ++ [it]) (1 + (2 + 4 * k)) true := (bp.more (by omega) (Nat.le_refl _)).app bi
  have k67 := k6.trans k7
  rcases (show c7 = 0 ∨ c7 = 1 ∨ c7 = 2 ∨ c7 = 3 ∨ c7 = 4 by omega) with rfl | rfl | rfl | rfl | rfl
  ·walk_at "w"
   refine wx_if ?_
   walk_at "w"
   refine ⟨fun _ => ?_, fun z => absurd z (by decide)⟩
   walk_at "w"
   refine (t_take l7 (by decide)).imp ?_
   rintro _ S8 ⟨c8, rfl, _, _, l8, k8⟩
   walk_at "w"
   refine wx_if ?_
   walk_at "w"
   refine ⟨fun z => absurd z (by decide), fun _ => wx_next ?_⟩
   refine wx_seq (wx_if ?_)
   walk_at "w"
   refine ⟨fun z => absurd z (by decide), fun _ => wx_next ?_⟩
   refine wx_seq (wx_if ?_)
   walk_at "w"
   refine ⟨fun z => absurd z (by decide), fun _ => wx_next ?_⟩
   refine wx_if ?_
   walk_at "w"
   refine ⟨fun z => absurd z (by decide), fun _ => wx_next ?_⟩
   exact ⟨_, _, _, rfl, (BlI.wrap (kd := "times") (.int c8) (.inr rfl) bi2).more (by omega) (by omega), l8, k67.trans k8⟩
  ·walk_at "w"
   refine wx_if ?_
   walk_at "w"
   refine ⟨fun z => absurd z (by decide), fun _ => wx_next ?_⟩
   refine wx_seq (wx_if ?_)
   walk_at "w"
   refine ⟨fun _ => ?_, fun z => absurd z (by decide)⟩
   walk_at "w"
   refine (t_take l7 (by decide)).imp ?_
   rintro _ S8 ⟨c8, rfl, _, _, l8, k8⟩
   walk_at "w"
   refine wx_if ?_
   walk_at "w"
   refine ⟨fun z => absurd z (by decide), fun _ => wx_next ?_⟩
   refine wx_seq (wx_if ?_)
   walk_at "w"
   refine ⟨fun z => absurd z (by decide), fun _ => wx_next ?_⟩
   refine wx_if ?_
   walk_at "w"
   refine ⟨fun z => absurd z (by decide), fun _ => wx_next ?_⟩
   exact ⟨_, _, _, rfl, (BlI.two (kd := "if") (rest := [.tup [.int 1, .str "=", .int c8], .tup [.tup [.str "pass"]], .tup [itmX it]]) (by decide) (.inl ⟨rfl, _, _, _, rfl, rfl⟩) (bp.more (h' := 1 + k) (by omega) (Nat.le_refl _)) bi).more (by omega) (by omega), l8, k67.trans k8⟩
  ·walk_at "w"
   refine wx_if ?_
   walk_at "w"
   refine ⟨fun z => absurd z (by decide), fun _ => wx_next ?_⟩
   refine wx_seq (wx_if ?_)
   walk_at "w"
   refine ⟨fun z => absurd z (by decide), fun _ => wx_next ?_⟩
   refine wx_seq (wx_if ?_)
   walk_at "w"
   refine ⟨fun _ => ?_, fun z => absurd z (by decide)⟩
   walk_at "w"
   refine (t_take l7 (by decide)).imp ?_
   rintro _ S8 ⟨c8, rfl, _, _, l8, k8⟩
   walk_at "w"
   refine wx_if ?_
   walk_at "w"
   refine ⟨fun z => absurd z (by decide), fun _ => wx_next ?_⟩
   refine wx_if ?_
   walk_at "w"
   refine ⟨fun z => absurd z (by decide), fun _ => wx_next ?_⟩
   exact ⟨_, _, _, rfl, (BlI.two (kd := "if") (rest := [.tup [.int 1, .str "<", .int c8], .tup [itmX it], .tup []]) (by decide) (.inl ⟨rfl, _, _, _, rfl, rfl⟩) bi BlI.nil).more (by omega) (by omega), l8, k67.trans k8⟩
  ·walk_at "w"
   refine wx_if ?_
   walk_at "w"
   refine ⟨fun z => absurd z (by decide), fun _ => wx_next ?_⟩
   refine wx_seq (wx_if ?_)
   walk_at "w"
   refine ⟨fun z => absurd z (by decide), fun _ => wx_next ?_⟩
   refine wx_seq (wx_if ?_)
   walk_at "w"
   refine ⟨fun z => absurd z (by decide), fun _ => wx_next ?_⟩
   refine wx_seq (wx_if ?_)
   walk_at "w"
   refine ⟨fun _ => ?_, fun z => absurd z (by decide)⟩
   walk_at "w"
   refine wx_if ?_
   walk_at "w"
   refine ⟨fun z => absurd z (by decide), fun _ => wx_next ?_⟩
   exact ⟨_, _, _, rfl, (BlI.two (kd := "hand") (rest := [.tup [.tup [], .tup [.tup [.str "pass"], itmX it]]]) (by decide) (.inr (.inr (.inl ⟨rfl, rfl⟩))) BlI.nil bi3).more (by omega) (by omega), l7, k67⟩
  ·walk_at "w"
   refine wx_if ?_
   walk_at "w"
   refine ⟨fun z => absurd z (by decide), fun _ => wx_next ?_⟩
   refine wx_seq (wx_if ?_)
   walk_at "w"
   refine ⟨fun z => absurd z (by decide), fun _ => wx_next ?_⟩
   refine wx_seq (wx_if ?_)
   walk_at "w"
   refine ⟨fun z => absurd z (by decide), fun _ => wx_next ?_⟩
   refine wx_seq (wx_if ?_)
   walk_at "w"
   refine ⟨fun z => absurd z (by decide), fun _ => wx_next ?_⟩
   refine wx_if ?_
   walk_at "w"
   refine ⟨fun _ => ?_, fun z => absurd z (by decide)⟩
   walk_at "w"
   exact ⟨_, _, _, rfl, (BlI.wrap (kd := "while") (.tup [.int 1, .str "<", .int 0]) (.inl rfl) bi).more (by omega) (by omega), l7, k67⟩
 ·exact ⟨it0, none, none, rfl, b0, l5, kk5⟩
 ·rintro ρ S6 ⟨it, a4, a5, rfl, bi, l6, k6⟩
  rw [rangeX_len] at bi
  walk_at "w"
  exact ⟨bi.more (by omega) (by omega), l6, k6⟩
end
section
variable {fu : Nat} {S S' S2 : Sto} {x y : Xv} {ln : Nat} {z : Str}
noncomputable def smallI : List Itm := [("set", [.str "y", .tup [.str "x", .str "+", .int 3]], []), ("gain", [.str "x"], [])]
theorem smallI_bl {h : Nat} : BlI h smallI 2 false := (BlI.plain (kd := "set") [.str "y", .tup [.str "x", .str "+", .int 3]] (by decide)).app (BlI.plain (kd := "gain") [.str "x"] (by decide))
theorem t_reck2 (hz : Zok z) {a b c : Int} : W (tw_reckoned fu [bsV z, stV a b c, .tup [.str "x", .str "+", .int 3]] S) fun v S' => v = .int (b + 3) ∧ S <+: S' := by
 walk_at "wr"; unfold tb_reckoned
 walk_at "w"
 refine (t_worth (z := z) (a := a) (b := b) (c := c) (k := b) (.inr ⟨_, 1, rfl, hz.nm (i := 1) (by decide), rfl⟩)).imp ?_
 rintro _ S2 ⟨rfl, p2⟩
 walk_at "w"
 refine wx_if ?_
 walk_at "w"
 refine WO.of (show dLen [Xv.tup [.str "x", .str "+", .int 3]] S2 = some (.int 3, S2) from rfl) ?_
 walk_at "w"
 refine ⟨fun z => absurd z (by decide), fun _ => wx_next ?_⟩
 walk_at "w"
 refine ox_ixT rfl (show atI [Xv.str "x", .str "+", .int 3] 2 = some (.int 3) from rfl) ?_
 walk_at "w"
 refine (t_worth (z := z) (a := a) (b := b) (c := c) (k := 3) (.inl rfl)).imp ?_
 rintro _ S3 ⟨rfl, p3⟩
 walk_at "w"
 refine wx_if ?_
 walk_at "w"
 refine eq_word ⟨_, rfl, fun _ => ?_, (fun z => by cases z)⟩
 walk_at "w"
 exact ⟨rfl, p2.trans p3⟩
theorem tree_small (hz : Zok z) (hfu : 1000000 ≤ fu) {a b c : Int} : W (tw_tree_of fu [prog z (smallI.map itmX), stV a b c] S) fun v S' => v = .tup [.str "end", stV a b ((b + 3) % 5), .int b] ∧ Kp (fun _ => False) S S' := by
 have := tree_begin (fu := fu) (z := z) (S := S) (st := stV a b c) (P := fun v S' => v = .tup [.str "end", stV a b ((b + 3) % 5), .int b] ∧ Kp (fun _ => False) S S') (X := fun _ _ => False) (smallI_bl (h := 0)).bl (by decide) (Nat.le_trans (smallI_bl (h := 0)).len (by decide)) (of_decide_eq_false (smallI_bl (h := 0)).wh) (fun S2 gn g2 hn k2 => by
  rw [tw_Grower_tree_from_succ]
  refine we_run rfl rfl ?_
  dsimp only [List.map, HAppend.hAppend, Append.append, List.append, List.replicate]
  rw [tb_grow]
  refine wse_seq ?_
  obtain ⟨q, rfl⟩ : ∃ q, fu = q + 3 := ⟨fu - 3, by omega⟩
  show WSE (whTw _ _ (q + 3) _ _) _ _ _
  refine turn_head (turn_rest (by decide) (by decide) (rest_nolook (by decide) rfl ?_))
  refine if_yes rfl (.ws ?_)
  walk_at "w"
  refine wx_fld ?_
  walk_at "w"
  refine ⟨_, _, _, rfl, g2, rfl, ?_⟩
  walk_at "w"
  refine wx_fld ?_
  walk_at "w"
  refine ⟨_, _, _, rfl, g2, rfl, ?_⟩
  walk_at "w"
  refine ox_ixT rfl (show atI [Xv.str "set", .str "y", .tup [.str "x", .str "+", .int 3]] 2 = some (.tup [.str "x", .str "+", .int 3]) from rfl) ?_
  walk_at "w"
  refine (t_reck2 hz).imp ?_
  rintro _ S3 ⟨rfl, p3⟩
  walk_at "w"
  refine (t_put (hz.nm (i := 2) (by decide))).imp ?_
  rintro _ S4 ⟨rfl, p4⟩
  have g4 := g2.pre (p3.trans p4)
  refine turn_head (turn_rest (by decide) (by decide) (rest_nolook (by decide) rfl ?_))
  refine if_no (by decide) rfl (if_yes rfl (.ws ?_))
  walk_at "w"
  refine wx_fld ?_
  walk_at "w"
  refine ⟨_, _, _, rfl, g4, rfl, ?_⟩
  walk_at "w"
  refine (t_worth (z := z) (a := a) (b := b) (c := (b + 3) % 5) (k := b) (.inr ⟨_, 1, rfl, hz.nm (i := 1) (by decide), rfl⟩)).imp ?_
  rintro _ S5 ⟨rfl, p5⟩
  walk_at "w"
  have g5 := g4.pre p5
  refine wse_turn ?_
  walk_at "w"
  refine WO.of (show dNotN (laterX []) S5 = some (.bl false, S5) from rfl) ?_
  refine ⟨_, rfl, (fun z => by cases z), fun _ => ?_⟩
  refine wse_ret (we_meth (.w ?_))
  walk_at "w"
  refine ⟨_, _, rfl, g5, rfl, .w ?_⟩
  walk_at "w"
  refine (t_counted g5).imp ?_ fun _ _ h => by omega
  rintro _ S6 ⟨rfl, _, _, k6⟩
  refine ⟨by rw [Int.zero_add], ?_⟩
  exact (k2.trans (Kp.pre (p3.trans (p4.trans p5)))).fresh k6 hn)
 rcases this with h | ⟨_, _, _, z⟩
 ·exact h
 ·exact z.elim
end
section
variable {fu : Nat} {S S' S2 : Sto} {x y : Xv} {ln : Nat} {z : Str}
noncomputable def wNo : Xv := .tup [.bl true, .bl false, .bl false, .bl true]
noncomputable def wMany : Xv := .tup [.bl false, .bl true, .bl false, .bl true]
theorem word_no : wordX "NoBound" = wNo := by unfold wordX wNo; rw [decide_eq_true rfl, decide_eq_false (by decide)]
theorem word_many : wordX "TooMany" = wMany := by unfold wordX wMany; rw [decide_eq_true rfl, decide_eq_false (by decide)]
theorem told_true {its : List Itm} {h b : Nat} {st : Xv} (i : BlI h its b true) (hh : h ≤ 10) (hb : b ≤ 1000) : W (tw__law_told fu [prog z (its.map itmX), st] S) fun v S' => v = .tup [wNo, .non] ∧ Kp (fun _ => False) S S' := by
 refine (t_told (tree_no (z := z) (st := st) i.bl (by omega) (Nat.le_trans i.len hb) (of_decide_eq_true i.wh)) fun c S' h => .inl h.1).imp ?_
 rintro _ S2 (⟨t, h, _⟩ | ⟨c, S3, ⟨rfl, k3⟩, rfl, rfl⟩)
 ·exact h.elim
 ·exact ⟨by rw [word_no], k3.app⟩
theorem told_false (hfu : 1000000 ≤ fu) {its : List Itm} {h b g w n : Nat} {a b' c : Int} (i : BlI h its b false) (hh : h ≤ 10) (hb : b ≤ 1000) (cn : Cnt z g w (its.map itmX) n) (hg : g < 40) (hw : w < 1000) : W (tw__law_told fu [prog z (its.map itmX), stV a b' c] S) fun v S' => ((n ≤ 400 ∧ ∃ t, Tr t n g ∧ v = .tup [.tup [], t]) ∨ (400 < n ∧ v = .tup [wMany, .non])) ∧ Kp (fun _ => False) S S' := by
 refine (t_told (tree_ok hfu (a := a) (b := b') (d := c) i.bl (by omega) (Nat.le_trans i.len hb) (of_decide_eq_false i.wh) cn hg hw) fun c S' h => .inr h.1).imp ?_
 rintro _ S2 (⟨t, ⟨h1, tr, k⟩, rfl⟩ | ⟨c, S3, ⟨rfl, h1, k3⟩, rfl, rfl⟩)
 ·exact ⟨.inl ⟨h1, t, tr, rfl⟩, k⟩
 ·exact ⟨.inr ⟨h1, by rw [word_many]⟩, k3.app⟩
noncomputable def lookI (t : Xv) : Itm := ("look", [t], [])
theorem looks_bl {h : Nat} (t : Xv) : ∀ k : Nat, BlI h (List.replicate k (lookI t)) k false
 | 0 => BlI.nil
 | k + 1 => by
  rw [List.replicate_succ']
  exact (looks_bl t k).app (BlI.plain [t] (by decide))
theorem looks_cnt {t : Xv} (ht : Te z t) : ∀ k : Nat, Cnt z 0 k ((List.replicate k (lookI t)).map itmX) 1
 | 0 => .nil
 | k + 1 => by
  rw [List.replicate_succ, List.map_cons]
  exact .look ht (looks_cnt ht k)
theorem flat1 {α : Type} (a : α) : ∀ k : Nat, (List.replicate k [a]).flatten = List.replicate k a
 | 0 => rfl
 | k + 1 => by rw [List.replicate_succ, List.flatten_cons, flat1 a k, List.replicate_succ]; rfl
noncomputable def handI (bls : List (List Itm)) : Itm := ("hand", [.tup (bls.map fun its => .tup (its.map itmX))], bls.map fun its => (its.map itmX, (its.map itmH).flatten))
theorem handI_bl {h b : Nat} (bls : List (List Itm)) (hb : ∀ its ∈ bls, BlI h its b false) : BlI (h + 1) [handI bls] (bls.length * b + 1) false := BlI.hand bls hb
theorem hand_cnt {its1 its2 : List Itm} {bs3 : List (List Itm × Nat)} {m k : Nat} {t : Xv} (g1 : GoodB z its1 3 200 30) (g2 : GoodB z its2 3 200 30) (t3 : Third z bs3 m) (ht : Te z t) (hk : k ≤ 2) : Cnt z 4 900 (itmX (handI (its1 :: its2 :: bs3.map (·.1))) :: (List.replicate k (lookI t)).map itmX) (400 + m) ∧ BlI 3 (handI (its1 :: its2 :: bs3.map (·.1)) :: List.replicate k (lookI t)) 200 false := by
 have cl := looks_cnt ht k
 refine ⟨?_, ?_⟩
 ·have := Cnt.hand (z := z) (h := 3) (w := 901) (w' := 900) (r := (List.replicate k (lookI t)).map itmX) ((its1.map itmX, 200) :: (its2.map itmX, 200) :: bs3.map fun p => (p.1.map itmX, p.2)) (by simp) (by have := t3.len; simp; omega) (by decide) (fun p hp => by
   rcases List.mem_cons.1 hp with rfl | hp
   ·exact (g1.cnt 0 k _ 1 cl (by omega)).more (by omega) (by omega)
   ·rcases List.mem_cons.1 hp with rfl | hp
    ·exact (g2.cnt 0 k _ 1 cl (by omega)).more (by omega) (by omega)
    ·obtain ⟨q, hq, rfl⟩ := List.mem_map.1 hp
     exact (t3.cnt q hq 0 k _ cl (by omega)).more (by omega) (by omega))
  have e : (List.map (fun x : List Xv × Nat => x.2) ((its1.map itmX, 200) :: (its2.map itmX, 200) :: bs3.map fun p => (p.1.map itmX, p.2))).sum = 400 + m := by
   rw [List.map_cons, List.map_cons, List.map_map, List.sum_cons, List.sum_cons, ← t3.sum]
   show 200 + (200 + (List.map (fun p : List Itm × Nat => p.2) bs3).sum) = 400 + _
   omega
  rw [e] at this
  have e2 : itmX (handI (its1 :: its2 :: bs3.map (·.1))) = .tup [.str "hand", .tup (((its1.map itmX, 200) :: (its2.map itmX, 200) :: bs3.map fun p => (p.1.map itmX, p.2)).map fun p => .tup p.1)] := by
   unfold handI
   show Xv.tup [.str "hand", .tup _] = _
   rw [List.map_cons, List.map_cons, List.map_cons, List.map_cons, List.map_map, List.map_map]
   rfl
  rw [e2]
  exact this
 ·have hb : ∀ its ∈ (its1 :: its2 :: bs3.map (·.1)), BlI 1 its 30 false := fun its hi => by
   rcases List.mem_cons.1 hi with rfl | hi
   ·exact g1.bl
   ·rcases List.mem_cons.1 hi with rfl | hi
    ·exact g2.bl
    ·obtain ⟨q, hq, rfl⟩ := List.mem_map.1 hi
     exact (t3.bl q hq).more (Nat.le_refl _) (by decide)
  have b1 := handI_bl _ hb
  have hl : (its1 :: its2 :: bs3.map (·.1)).length ≤ 3 := by have := t3.len; simp; omega
  exact (b1.app (looks_bl t k)).more (by omega) (by omega)
theorem pow_cnt {d : Xv} (hp : ∀ h w r n, Cnt z h w r n → w ≤ 900 → Cnt z (h + 1) 900 (d :: r) (8 * n)) {r : List Xv} {w : Nat} (c : Cnt z 0 w r 1) (hw : w ≤ 900) : ∀ k : Nat, Cnt z k 900 ((List.replicate k [d]).flatten ++ r) (8 ^ k)
 | 0 => c.more (Nat.le_refl _) hw
 | k + 1 => by
  rw [List.replicate_succ, List.flatten_cons, List.append_assoc, Nat.pow_succ, Nat.mul_comm]
  exact hp k 900 _ _ (pow_cnt hp c hw k) (Nat.le_refl _)
theorem times_cnt {p : Itm} {b : Nat} {t : Xv} (hp : ∀ h w r n, Cnt z h w r n → w ≤ 900 → Cnt z (h + 1) 900 (itmX p :: r) (8 * n)) (hb : BlI 1 [p] b false) (hb9 : b ≤ 10) (ht : Te z t) : ∃ its : List Itm, its.map itmX = [.tup [.str "times", .int 30, .tup [itmX p]], .tup [.str "look", t]] ∧ Cnt z 30 901 (its.map itmX) (8 ^ 30) ∧ BlI 3 its 200 false := by
 have b1 := BlI.wrap (kd := "times") (.int 30) (.inr rfl) hb
 have b2 := (b1.app (looks_bl (h := 2) t 1)).more (h' := 3) (b' := 200) (by omega) (by omega)
 refine ⟨_, ?_, ?_, b2⟩
 ·rfl
 ·show Cnt z 30 901 (.tup [.str "times", .int ((30 : Nat) : Int), .tup [itmX p]] :: (List.replicate 1 (lookI t)).map itmX) (8 ^ 30)
  exact Cnt.times (by decide) (pow_cnt hp (looks_cnt ht 1) (by decide) 30)
end
section
variable {fu : Nat} {S S' S2 : Sto} {x y : Xv} {ln : Nat} {z : Str}
theorem ox_revL {P : Xv → Sto → Prop} {l : List Xv} (h : lstAt S x = some l) (k : P (.ref S.length) (S ++ [.lst l.reverse])) : WO (dListRev x S) P := .of (by unfold dListRev; rw [h]; rfl) k
theorem cutD_ints (l : List Int) (lo hi : Option Int) : ∃ m : List Int, L2.cutD (l.map Xv.int) lo hi = m.map Xv.int := by
 unfold L2.cutD
 rw [← List.map_drop, ← List.map_take]
 exact ⟨_, rfl⟩
theorem zok_of {i : Nat} (h : i < 3) : Zok (Txt.slice "abc" (some (i : Int)) none) := by
 match i, h with
 | 0, _ => exact ⟨by decide, by decide⟩
 | 1, _ => exact ⟨by decide, by decide⟩
 | 2, _ => exact ⟨by decide, by decide⟩
theorem op_at {i : Nat} (h : i < 3) : ∃ c : Str, dIxS (.str "=<#") (.int (i : Int)) S = some (.str c, S) := by
 match i, h with
 | 0, _ => exact ⟨_, rfl⟩
 | 1, _ => exact ⟨_, rfl⟩
 | 2, _ => exact ⟨_, rfl⟩
theorem ne_same {P : Xv → Sto → Prop} {v : Xv} {d : D} (h : tell S 40 v = some d) (hs : bothSeq d d = true) (e : eqG 40 d d = some true) (k : P (.bl false) S) : WO (dEqG true v v S) P := ox_eqG h h hs e k
theorem ne_no {P : Xv → Sto → Prop} (k : P (.bl false) S) : WO (dEqG true (.tup [wNo, .non]) (.tup [.tup [.bl true, .bl false, .bl false, .bl true], .non]) S) P :=
 ox_eqG (d := .tup [.tup [.bl true, .bl false, .bl false, .bl true], .non]) (e := .tup [.tup [.bl true, .bl false, .bl false, .bl true], .non]) (b := true) rfl rfl rfl rfl k
theorem ne_word3 {P : Xv → Sto → Prop} {v : Xv} (h : v = .tup [] ∨ v = wNo ∨ v = wMany) (k : P (.bl false) S) : WO (dEqG true v v S) P := by
 rcases h with rfl | rfl | rfl
 ·exact ne_same (d := .tup []) rfl rfl rfl k
 ·exact ne_same (d := .tup [.bl true, .bl false, .bl false, .bl true]) rfl rfl rfl k
 ·exact ne_same (d := .tup [.bl false, .bl true, .bl false, .bl true]) rfl rfl rfl k
theorem LeftAt.kp (h : LeftAt ln S) (k : Kp (fun _ => False) S S') : LeftAt ln S' := h.keep k id
theorem BlI.few {h b : Nat} {its : List Itm} {q : Bool} (i : BlI h its b q) : its.length ≤ b := by
 refine Nat.le_trans ?_ i.len
 clear i
 induction its with
 | nil => simp
 | cons p r ih =>
  rw [List.map_cons, List.flatten_cons, List.length_append, List.length_cons]
  have : 1 ≤ (itmH p).length := by unfold itmH; simp
  omega
theorem pl_end {a b c d : Int} : plX 9 (.tup [.str "end", stV a b c, .int d]) = true := by simp [plX, stV]
theorem w_law (hbg : Big fu) (ns : List Int) : W (tw_law fu [.ref 0] [.frz (ns.map Xv.int)]) fun v _ => v = .bl true := by
 have hfu := hbg.le
 walk_at "wr"; unfold tb_law; walk_at "w"
 refine ox_slL (l := ns.map Xv.int) rfl ?_
 obtain ⟨ms, em⟩ := cutD_ints ns none (some 200)
 rw [em]
 refine ox_revL lstAt_new ?_
 rw [← List.map_reverse]
 have l0 : LeftAt _ (([Ce.frz (ns.map Xv.int)] ++ [Ce.lst (ms.map Xv.int)]) ++ [Ce.lst (ms.reverse.map Xv.int)]) := ⟨ms.reverse, at_new⟩
 generalize ([Ce.frz (ns.map Xv.int)] ++ [Ce.lst (ms.map Xv.int)]).length = ln at l0 ⊢
 generalize (([Ce.frz (ns.map Xv.int)] ++ [Ce.lst (ms.map Xv.int)]) ++ [Ce.lst (ms.reverse.map Xv.int)]) = S0 at l0 ⊢
 walk_at "w"
 refine (t_take l0 (by decide)).imp ?_
 rintro _ S1 ⟨way, rfl, w0, w1, l1, k1⟩
 walk_at "w"
 refine (t_take l1 (by decide)).imp ?_
 rintro _ S2 ⟨c2, rfl, c20, c21, l2, k2⟩
 obtain ⟨more, rfl, hmore⟩ := nat_of (m := 9) c20 c21
 walk_at "w"
 refine (t_take l2 (by decide)).imp ?_
 rintro _ S3 ⟨c3, rfl, c30, c31, l3, k3⟩
 obtain ⟨zi, rfl, hzi⟩ := nat_of (m := 3) c30 c31
 walk_at "w"
 refine WO.of (show dSlS (.str "abc") (some (zi : Int)) none S3 = some (.str (Txt.slice "abc" (some (zi : Int)) none), S3) by unfold dSlS; exact if_pos (by decide)) ?_
 have hz := zok_of hzi
 generalize Txt.slice "abc" (some (zi : Int)) none = z at hz ⊢
 walk_at "w"
 refine (t_take l3 (by decide)).imp ?_
 rintro _ S4 ⟨a, rfl, _, _, l4, k4⟩
 walk_at "w"
 refine (t_take l4 (by decide)).imp ?_
 rintro _ S5 ⟨b, rfl, _, _, l5, k5⟩
 walk_at "w"
 refine (t_take l5 (by decide)).imp ?_
 rintro _ S6 ⟨c, rfl, _, _, l6, k6⟩
 walk_at "w"
 refine (t_loop (z := z) l6).imp ?_
 rintro _ S7 ⟨it, rfl, bit, l7, k7⟩
 walk_at "w"
 refine wx_if ?_
 walk_at "w"
 refine ox_catT (show (2 : Nat) + 1 ≤ 999 by decide) ?_
 walk_at "w"
 refine (told_true (z := z) (its := smallI ++ [it]) (smallI_bl.app bit) (by decide) (by decide)).imp ?_
 rintro _ S8 ⟨rfl, k8⟩
 have l8 := l7.kp k8
 walk_at "w"
 refine ne_no ⟨_, rfl, (fun z => by cases z), fun _ => wx_next ?_⟩
 refine wx_seq (wx_if ?_)
 walk_at "w"
 refine (tree_small (a := a) (b := b) (c := c) hz (by omega)).imp ?_
 rintro _ S9 ⟨rfl, k9⟩
 have l9 := l8.kp k9
 walk_at "w"
 refine ox_slT ?_
 walk_at "w"
 refine ox_mod (by decide) ?_
 walk_at "w"
 refine ox_catT (show (2 : Nat) + 1 ≤ 999 by decide) ?_
 walk_at "w"
 refine (t_same 9 (pl_end (a := a) (b := b) (c := (b + 3) % 5) (d := b))).imp ?_
 rintro _ S10 ⟨rfl, p10⟩
 have l10 := l9.kp (Kp.pre p10)
 refine ⟨_, rfl, (fun z => by cases z), fun _ => wx_next ?_⟩
 walk_at "w"
 have hn10 := l10.lt
 refine (t_many hz (sn := S10.length) (szs := [8, 5, 5]) l10.app at_new (by omega) (by decide) (by decide)).imp ?_
 rintro _ S11 ⟨its1, rfl, g1, l11, k11⟩
 have hn11 := l11.lt
 walk_at "w"
 refine (t_many hz (sn := S11.length) (szs := [5, 8, 5]) l11.app at_new (by omega) (by decide) (by decide)).imp ?_
 rintro _ S12 ⟨its2, rfl, g2, l12, k12⟩
 have g1 : GoodB z its1 3 200 30 := g1
 have g2 : GoodB z its2 3 200 30 := g2
 walk_at "w"
 refine (t_take l12 (by decide)).imp ?_
 rintro _ S13 ⟨c13, rfl, c130, c131, l13, k13⟩
 obtain ⟨ni, rfl, hni⟩ := nat_of (m := 3) c130 c131
 refine ox_ixT rfl (atI_nat (box_at hni)) ?_
 walk_at "w"
 refine (t_take l13 (by decide)).imp ?_
 rintro _ S14 ⟨c14, rfl, c140, c141, l14, k14⟩
 obtain ⟨oi, rfl, hoi⟩ := nat_of (m := 3) c140 c141
 obtain ⟨op, eop⟩ := op_at (S := S14) hoi
 refine WO.of eop ?_
 walk_at "w"
 refine (t_take l14 (by decide)).imp ?_
 rintro _ S15 ⟨c15, rfl, _, _, l15, k15⟩
 have ht : Te z (.tup [.str (nmAt z ni), .str op, .int c15]) := ⟨_, ni, op, c15, rfl, hz.nm hni⟩
 generalize hlk : Xv.tup [.str (nmAt z ni), .str op, .int c15] = t at ht
 walk_at "w"
 rw [hlk]
 refine (t_third (z := z) (m := more) (by omega)).imp ?_
 rintro _ S16 ⟨bs3, rfl, t3, p16⟩
 have l16 := l15.kp (Kp.pre p16)
 refine ox_catT (by have := t3.len; simp; omega) ?_
 walk_at "w"
 refine (t_take l16 (by decide)).imp ?_
 rintro _ S17 ⟨c17, rfl, c170, c171, l17, k17⟩
 obtain ⟨kl, rfl, hkl⟩ := nat_of (m := 3) c170 c171
 refine ox_repT ⟨by omega, by omega, by simp; exact Nat.le_of_lt (sz100 (by omega))⟩ ?_
 rw [Int.toNat_natCast, flat1]
 refine ox_catT (by simp; omega) ?_
 obtain ⟨hc1, hb1⟩ := hand_cnt g1 g2 t3 ht (k := kl) (by omega)
 have eb : ([Xv.tup [.str "hand", .tup ([Xv.tup (its1.map itmX), .tup (its2.map itmX)] ++ bs3.map fun p => blkX p.1)]] ++ List.replicate kl (.tup [.str "look", t])) = (handI (its1 :: its2 :: bs3.map (·.1)) :: List.replicate kl (lookI t)).map itmX := by
  rw [List.map_cons, List.map_replicate]
  show _ :: _ = itmX (handI _) :: _
  unfold handI
  show _ = Xv.tup [.str "hand", .tup _] :: _
  rw [List.map_cons, List.map_cons, List.map_map]
  rfl
 rw [eb]
 refine wx_seq (wx_cut (fun ρ S18 => ∃ (a11 : Option Xv) (its : List Itm) (g n : Nat), ρ = [some (.ref 0), some (.ref ln), some (.int way), some (.int (more : Int)), some (bsV z), some (stV a b c), some (itmX it), some (.tup (smallI.map itmX)), some (.tup [.tup (its1.map itmX), .tup (its2.map itmX)]), some (.tup [.tup [.str "look", t]]), some (.tup (its.map itmX)), a11, none, none, none] ∧ Cnt z g 901 (its.map itmX) n ∧ g < 40 ∧ BlI 3 its 200 false ∧ ((more = 0 ∧ n = 400) ∨ (0 < more ∧ 400 < n)) ∧ LeftAt ln S18) (wx_if ?_) ?_)
 ·walk_at "w"
  refine wx_ifT (fun h8 => ?_) (fun h8 => wx_next ?_)
  ·walk_at "w"
   refine t_compL (ln := ln) (size := 8) (Q := fun v => v = .tup []) l17 (by decide) (by walk_at "w"; exact ⟨rfl, rfl⟩) ?_ ?_
   ·intro k S18 l18 k18
    dsimp only [capR, List.map, List.set]
    walk_at "w"
    exact ⟨rfl, l18, Kp.refl _⟩
   intro es S18 hes hQ l18 k18
   have ees : es = List.replicate 8 (.tup []) := List.eq_replicate_iff.2 ⟨hes, hQ⟩
   subst ees
   walk_at "w"
   refine ox_tuple at_new ?_
   walk_at "w"
   have hd := draw_good (z := z) (nm := z) (i := 0) (ws := [1, 2, 3, 4, 5, 6, 7, 8]) (hz.nm (i := 0) (by decide)) (by decide) (by decide) (by decide)
   have hh := hand_good (z := z) (nm := z) (i := 0) (k := 3) (bls := List.replicate 8 []) (hz.nm (i := 0) (by decide)) (by decide) (by decide) (fun its hi => by rw [List.eq_of_mem_replicate hi]; exact List.mem_cons_self ..)
   have e18 := at_new (S := S18 ++ [Ce.lst (List.replicate 8 (.tup []))]) (c := Ce.lst [Xv.tup [.str "draw", .str z, .tup [.int 1, .int 2, .int 3, .int 4, .int 5, .int 6, .int 7, .int 8]], .tup [.str "hand", .tup (List.replicate 8 (.tup []))]])
   have l19 := (l18.app (T := [Ce.lst (List.replicate 8 (.tup []))])).app (T := [Ce.lst [Xv.tup [.str "draw", .str z, .tup [.int 1, .int 2, .int 3, .int 4, .int 5, .int 6, .int 7, .int 8]], .tup [.str "hand", .tup (List.replicate 8 (.tup []))]]])
   have hl18 := (l18.app (T := [Ce.lst (List.replicate 8 (.tup []))])).lt
   refine (t_take l19 (by decide)).imp ?_
   rintro _ S20 ⟨c20', rfl, q0, q1, l20, k20⟩
   have e20 := k20.2 _ _ e18 (by omega)
   rcases (show c20' = 0 ∨ c20' = 1 by omega) with rfl | rfl
   ·refine ox_ixL (lstAt_of e20) (show atI _ 0 = some (itmX ("draw", [.str z, .tup (([1, 2, 3, 4, 5, 6, 7, 8] : List Int).map Xv.int)], [])) from rfl) ?_
    walk_at "w"
    refine ox_catT (show (1 : Nat) + 1 ≤ 999 by decide) ?_
    obtain ⟨its, ei, cn, bi⟩ := times_cnt (p := ("draw", [.str z, .tup (([1, 2, 3, 4, 5, 6, 7, 8] : List Int).map Xv.int)], [])) hd.1 hd.2 (by decide) ht
    exact ⟨_, its, 30, 8 ^ 30, by rw [ei]; rfl, cn, by decide, bi, .inr ⟨by omega, by decide⟩, l20⟩
   ·refine ox_ixL (lstAt_of e20) (show atI _ 1 = some (itmX ("hand", [.tup ((List.replicate 8 ([] : List Itm)).map fun its => .tup (its.map itmX))], (List.replicate 8 ([] : List Itm)).map fun its => (its.map itmX, (its.map itmH).flatten))) from rfl) ?_
    walk_at "w"
    refine ox_catT (show (1 : Nat) + 1 ≤ 999 by decide) ?_
    obtain ⟨its, ei, cn, bi⟩ := times_cnt (p := ("hand", [.tup ((List.replicate 8 ([] : List Itm)).map fun its => .tup (its.map itmX))], (List.replicate 8 ([] : List Itm)).map fun its => (its.map itmX, (its.map itmH).flatten))) hh.1 hh.2 (by decide) ht
    exact ⟨_, its, 30, 8 ^ 30, by rw [ei]; rfl, cn, by decide, bi, .inr ⟨by omega, by decide⟩, l20⟩
  ·exact ⟨none, _, 4, 400 + more, rfl, hc1.more (Nat.le_refl _) (by decide), by decide, hb1, by omega, l17⟩
 rintro _ S18 ⟨a11, its, g, n, rfl, cn, hg, bi, hn, l18⟩
 refine wx_seq (wx_set ?_)
 walk_at "w"
 refine wx_cut (fun ρ S19 => S19 = S18 ∧ ρ = [some (.ref 0), some (.ref ln), some (.int way), some (.int (more : Int)), some (bsV z), some (stV a b c), some (itmX it), some (.tup (smallI.map itmX)), some (.tup [.tup (its1.map itmX), .tup (its2.map itmX)]), some (.tup [.tup [.str "look", t]]), some (.tup (its.map itmX)), a11, some (if 0 < more then wMany else .tup []), none, none]) (wx_if ?_) ?_
 ·walk_at "w"
  refine wx_ifT (fun h => ?_) (fun h => wx_next ?_)
  ·walk_at "w"
   exact ⟨rfl, by rw [if_pos (by omega)]; rfl⟩
  ·exact ⟨rfl, by rw [if_neg (by omega)]; rfl⟩
 rintro _ S19 ⟨e19, rfl⟩
 rw [e19]
 clear e19
 refine wx_seq (wx_cut (fun ρ S19 => S19 = S18 ∧ ρ = [some (.ref 0), some (.ref ln), some (.int way), some (.int (more : Int)), some (bsV z), some (stV a b c), some (itmX it), some (.tup (smallI.map itmX)), some (.tup [.tup (its1.map itmX), .tup (its2.map itmX)]), some (.tup [.tup [.str "look", t]]), some (.tup ((if way = 1 then its ++ [it] else its).map itmX)), a11, some (if 0 < more then wMany else .tup []), none, none]) (wx_if ?_) ?_)
 ·walk_at "w"
  refine wx_ifT (fun h => ?_) (fun h => wx_next ?_)
  ·walk_at "w"
   refine ox_catT (by have := bi.few; simp; omega) ?_
   exact ⟨rfl, by rw [if_pos h, List.map_append]; rfl⟩
  ·exact ⟨rfl, by rw [if_neg h]⟩
 rintro _ S19 ⟨e19, rfl⟩
 rw [e19]
 clear e19
 refine wx_seq (wx_cut (fun ρ S19 => S19 = S18 ∧ ρ = [some (.ref 0), some (.ref ln), some (.int way), some (.int (more : Int)), some (bsV z), some (stV a b c), some (itmX it), some (.tup (smallI.map itmX)), some (.tup [.tup (its1.map itmX), .tup (its2.map itmX)]), some (.tup [.tup [.str "look", t]]), some (.tup ((if way = 2 then [it] ++ its else if way = 1 then its ++ [it] else its).map itmX)), a11, some (if 0 < more then wMany else .tup []), none, none]) (wx_if ?_) ?_)
 ·walk_at "w"
  refine wx_ifT (fun h => ?_) (fun h => wx_next ?_)
  ·walk_at "w"
   rw [if_neg (by omega)]
   refine ox_catT (by have := bi.few; simp; omega) ?_
   exact ⟨rfl, by rw [if_pos h, List.map_append]; rfl⟩
  ·exact ⟨rfl, by rw [if_neg h]⟩
 rintro _ S19 ⟨e19, rfl⟩
 rw [e19]
 clear e19
 refine wx_seq (wx_cut (fun ρ S19 => S19 = S18 ∧ ρ = [some (.ref 0), some (.ref ln), some (.int way), some (.int (more : Int)), some (bsV z), some (stV a b c), some (itmX it), some (.tup (smallI.map itmX)), some (.tup [.tup (its1.map itmX), .tup (its2.map itmX)]), some (.tup [.tup [.str "look", t]]), some (.tup ((if way = 2 then [it] ++ its else if way = 1 then its ++ [it] else its).map itmX)), a11, some (if 0 < way then wNo else if 0 < more then wMany else .tup []), none, none]) (wx_if ?_) ?_)
 ·walk_at "w"
  refine wx_ifT (fun h => ?_) (fun h => wx_next ?_)
  ·walk_at "w"
   exact ⟨rfl, by rw [if_pos h]; rfl⟩
  ·exact ⟨rfl, by rw [if_neg h]⟩
 rintro _ S19 ⟨e19, rfl⟩
 rw [e19]
 clear e19
 refine wx_seq (wx_if ?_)
 walk_at "w"
 refine W.imp (P := fun v S20 => (∃ w', v = .tup [(if 0 < way then wNo else if 0 < more then wMany else .tup []), w']) ∧ Kp (fun _ => False) S18 S20) ?_ ?_
 ·by_cases h2 : way = 2
  ·rw [if_pos h2, if_pos (by omega)]
   refine (told_true (z := z) (its := [it] ++ its) (bit.app (bi.more (h' := 5) (b' := 200) (by omega) (by omega))) (by decide) (by decide)).imp ?_
   rintro _ T ⟨rfl, k⟩
   exact ⟨⟨_, rfl⟩, k⟩
  ·rw [if_neg h2]
   by_cases h1 : way = 1
   ·rw [if_pos h1, if_pos (by omega)]
    refine (told_true (z := z) (its := its ++ [it]) ((bi.more (h' := 5) (b' := 200) (by omega) (by omega)).app bit) (by decide) (by decide)).imp ?_
    rintro _ T ⟨rfl, k⟩
    exact ⟨⟨_, rfl⟩, k⟩
   ·rw [if_neg h1, if_neg (by omega)]
    refine (told_false (z := z) (by omega) bi (by decide) (by decide) cn hg (by decide)).imp ?_
    rintro _ T ⟨h, k⟩
    refine ⟨?_, k⟩
    rcases h with ⟨h, tr, _, rfl⟩ | ⟨h, rfl⟩
    ·rw [if_neg (by omega)]
     exact ⟨_, rfl⟩
    ·rw [if_pos (by omega)]
     exact ⟨_, rfl⟩
 rintro _ S20 ⟨⟨w', rfl⟩, k20⟩
 walk_at "w"
 have hw3 : (if 0 < way then wNo else if 0 < more then wMany else .tup []) = .tup [] ∨ (if 0 < way then wNo else if 0 < more then wMany else .tup []) = wNo ∨ (if 0 < way then wNo else if 0 < more then wMany else .tup []) = wMany := by
  split
  ·exact .inr (.inl rfl)
  ·split
   ·exact .inr (.inr rfl)
   ·exact .inl rfl
 refine ne_word3 hw3 ⟨_, rfl, (fun z => by cases z), fun _ => wx_next ?_⟩
 refine wx_seq (wx_asg ?_)
 walk_at "w"
 refine ox_catT (show (1 : Nat) + 1 ≤ 999 by decide) ?_
 walk_at "w"
 have t0 : Third z [] 0 := ⟨rfl, by decide, (fun p hp => by cases hp), (fun p hp => by cases hp)⟩
 obtain ⟨hc2, hb2⟩ := hand_cnt g1 g2 t0 ht (k := 1) (by decide)
 refine (told_false (S := S20) (a := a) (b' := b) (c := c) (z := z) (its := handI [its1, its2] :: List.replicate 1 (lookI t)) (by omega) hb2 (by decide) (by decide) hc2 (by decide) (by decide)).imp ?_
 rintro _ S21 ⟨h, k21⟩
 rcases h with ⟨_, tr, htr, rfl⟩ | ⟨h, _⟩
 rotate_left
 ·omega
 refine .of rfl ?_
 dsimp only [List.set]
 refine wx_ret (wx_eAnd ?_)
 walk_at "w"
 refine ox_eqG (d := .tup []) (e := .tup []) (b := true) rfl rfl rfl rfl ?_
 refine ⟨_, rfl, fun _ => ?_, (fun z => by cases z)⟩
 walk_at "w"
 refine (t_leaves htr (by decide) (by decide) (by omega)).imp ?_
 rintro _ S22 rfl
 walk_at "w"
 rfl
theorem t_law (hbg : Big fu) (ns : List Int) (hl : ns.length ≤ 63) : ∃ S, tw_law fu [.ref 0] [.frz (ns.map Xv.int)] = some (.ok (.bl true) S) := by
 obtain ⟨v, S, e, rfl⟩ := w_law hbg ns
 exact ⟨S, e⟩
end
end
noncomputable def lawFuel : Nat := 2 ^ 9000
theorem big_lawFuel : Big lawFuel := by unfold Big lawFuel; exact Nat.le_refl _
theorem ok_law {P : Program} {w : World} {K : PySem.W.Frag} {mg : Str → Option Value} {base : Heap} (T : Tx K mg) : FnOk P w K mg base (CXE P w) 87 T.a_law T.fd_law ["_law_script"] (spLawX K) := law_tw (okT_law (fu := lawFuel) T) fun ns hl => t_law big_lawFuel ns hl
theorem all_mk {l : PySem.W.OpenLaw} {w : World} {K : PySem.W.Frag} {h : Heap} {mg : Str → Option Value} {fa : Addr} (X : K.In h) (G : h.Ns mainGlobals mg) (hfa : mg "law" = some (.ref fa))
  {g_Grower : Addr}  {f0 : Addr} {od0 an0 : Option Addr} {sl0 : Array (Option Value)} {oc0 kV0 dc0 pm0 cd0 ct0 : Value} {f1 : Addr} {od1 an1 : Option Addr} {sl1 : Array (Option Value)} {oc1 kV1 dc1 pm1 cd1 ct1 : Value} {f2 : Addr} {od2 an2 : Option Addr} {sl2 : Array (Option Value)} {oc2 kV2 dc2 pm2 cd2 ct2 : Value} {f3 : Addr} {od3 an3 : Option Addr} {sl3 : Array (Option Value)} {oc3 kV3 dc3 pm3 cd3 ct3 : Value} {f4 : Addr} {od4 an4 : Option Addr} {sl4 : Array (Option Value)} {oc4 kV4 dc4 pm4 cd4 ct4 : Value} {f5 : Addr} {od5 an5 : Option Addr} {sl5 : Array (Option Value)} {oc5 kV5 dc5 pm5 cd5 ct5 : Value} {f6 : Addr} {od6 an6 : Option Addr} {sl6 : Array (Option Value)} {oc6 kV6 dc6 pm6 cd6 ct6 : Value} {f7 : Addr} {od7 an7 : Option Addr} {sl7 : Array (Option Value)} {oc7 kV7 dc7 pm7 cd7 ct7 : Value} {f8 : Addr} {od8 an8 : Option Addr} {sl8 : Array (Option Value)} {oc8 kV8 dc8 pm8 cd8 ct8 : Value} {f9 : Addr} {od9 an9 : Option Addr} {sl9 : Array (Option Value)} {oc9 kV9 dc9 pm9 cd9 ct9 : Value} {f10 : Addr} {od10 an10 : Option Addr} {sl10 : Array (Option Value)} {oc10 kV10 dc10 pm10 cd10 ct10 : Value} {f11 : Addr} {od11 an11 : Option Addr} {sl11 : Array (Option Value)} {oc11 kV11 dc11 pm11 cd11 ct11 : Value} {f12 : Addr} {od12 an12 : Option Addr} {sl12 : Array (Option Value)} {oc12 kV12 dc12 pm12 cd12 ct12 : Value} {f13 : Addr} {od13 an13 : Option Addr} {sl13 : Array (Option Value)} {oc13 kV13 dc13 pm13 cd13 ct13 : Value} {f14 : Addr} {od14 an14 : Option Addr} {sl14 : Array (Option Value)} {oc14 kV14 dc14 pm14 cd14 ct14 : Value} {f15 : Addr} {od15 an15 : Option Addr} {sl15 : Array (Option Value)} {oc15 kV15 dc15 pm15 cd15 ct15 : Value} {f16 : Addr} {od16 an16 : Option Addr} {sl16 : Array (Option Value)} {oc16 kV16 dc16 pm16 cd16 ct16 : Value} {f17 : Addr} {od17 an17 : Option Addr} {sl17 : Array (Option Value)} {oc17 kV17 dc17 pm17 cd17 ct17 : Value} {f18 : Addr} {od18 an18 : Option Addr} {sl18 : Array (Option Value)} {oc18 kV18 dc18 pm18 cd18 ct18 : Value} {f19 : Addr} {od19 an19 : Option Addr} {sl19 : Array (Option Value)} {oc19 kV19 dc19 pm19 cd19 ct19 : Value} {f20 : Addr} {od20 an20 : Option Addr} {sl20 : Array (Option Value)} {oc20 kV20 dc20 pm20 cd20 ct20 : Value} {f21 : Addr} {od21 an21 : Option Addr} {sl21 : Array (Option Value)} {oc21 kV21 dc21 pm21 cd21 ct21 : Value} {f22 : Addr} {od22 an22 : Option Addr} {sl22 : Array (Option Value)} {oc22 kV22 dc22 pm22 cd22 ct22 : Value} {f23 : Addr} {od23 an23 : Option Addr} {sl23 : Array (Option Value)} {oc23 kV23 dc23 pm23 cd23 ct23 : Value} {f24 : Addr} {od24 an24 : Option Addr} {sl24 : Array (Option Value)} {oc24 kV24 dc24 pm24 cd24 ct24 : Value} {f25 : Addr} {od25 an25 : Option Addr} {sl25 : Array (Option Value)} {oc25 kV25 dc25 pm25 cd25 ct25 : Value} {f26 : Addr} {od26 an26 : Option Addr} {sl26 : Array (Option Value)} {oc26 kV26 dc26 pm26 cd26 ct26 : Value} {f27 : Addr} {od27 an27 : Option Addr} {sl27 : Array (Option Value)} {oc27 kV27 dc27 pm27 cd27 ct27 : Value} {f28 : Addr} {od28 an28 : Option Addr} {sl28 : Array (Option Value)} {oc28 kV28 dc28 pm28 cd28 ct28 : Value} {g_LotsError : Addr} {g_NoNumber : Addr} {g_NoText : Addr} {g_NoProgram : Addr} {g_NoBound : Addr} {g_TooMany : Addr} {g_HandLeft : Addr} {g_NoneKept : Addr} {qt_MOST_LEAVES : Tok}
  (a_Grower : PySem.W.nsIn K mainGlobals "Grower" = some (some (.ref g_Grower)))
  (A0 : PySem.W.nsIn K mainGlobals "is_whole" = some (some (.ref f0))) (L0 : K.lookup f0 = some ⟨oc0, od0, .func (PySem.W.fnOf "is_whole" "is_whole" (defArgs s_is_whole) (defBody s_is_whole) (defScope s_is_whole) .none kV0 dc0 pm0 an0 cd0 ct0), sl0⟩) (C0 : PySem.W.codeIn K cd0 "is_whole" = true) (K0 : PySem.W.keepIn K (.ref f0) = true)
  (A1 : PySem.W.nsIn K mainGlobals "common_part" = some (some (.ref f1))) (L1 : K.lookup f1 = some ⟨oc1, od1, .func (PySem.W.fnOf "common_part" "common_part" (defArgs s_common_part) (defBody s_common_part) (defScope s_common_part) .none kV1 dc1 pm1 an1 cd1 ct1), sl1⟩) (C1 : PySem.W.codeIn K cd1 "common_part" = true) (K1 : PySem.W.keepIn K (.ref f1) = true)
  (A2 : PySem.W.nsIn K mainGlobals "lowest" = some (some (.ref f2))) (L2 : K.lookup f2 = some ⟨oc2, od2, .func (PySem.W.fnOf "lowest" "lowest" (defArgs s_lowest) (defBody s_lowest) (defScope s_lowest) .none kV2 dc2 pm2 an2 cd2 ct2), sl2⟩) (C2 : PySem.W.codeIn K cd2 "lowest" = true) (K2 : PySem.W.keepIn K (.ref f2) = true)
  (A3 : PySem.W.nsIn K mainGlobals "fraction" = some (some (.ref f3))) (L3 : K.lookup f3 = some ⟨oc3, od3, .func (PySem.W.fnOf "fraction" "fraction" (defArgs s_fraction) (defBody s_fraction) (defScope s_fraction) .none kV3 dc3 pm3 an3 cd3 ct3), sl3⟩) (C3 : PySem.W.codeIn K cd3 "fraction" = true) (K3 : PySem.W.keepIn K (.ref f3) = true)
  (A4 : PySem.W.nsIn K mainGlobals "place_of" = some (some (.ref f4))) (L4 : K.lookup f4 = some ⟨oc4, od4, .func (PySem.W.fnOf "place_of" "place_of" (defArgs s_place_of) (defBody s_place_of) (defScope s_place_of) .none kV4 dc4 pm4 an4 cd4 ct4), sl4⟩) (C4 : PySem.W.codeIn K cd4 "place_of" = true) (K4 : PySem.W.keepIn K (.ref f4) = true)
  (A5 : PySem.W.nsIn K mainGlobals "worth" = some (some (.ref f5))) (L5 : K.lookup f5 = some ⟨oc5, od5, .func (PySem.W.fnOf "worth" "worth" (defArgs s_worth) (defBody s_worth) (defScope s_worth) .none kV5 dc5 pm5 an5 cd5 ct5), sl5⟩) (C5 : PySem.W.codeIn K cd5 "worth" = true) (K5 : PySem.W.keepIn K (.ref f5) = true)
  (A6 : PySem.W.nsIn K mainGlobals "reckoned" = some (some (.ref f6))) (L6 : K.lookup f6 = some ⟨oc6, od6, .func (PySem.W.fnOf "reckoned" "reckoned" (defArgs s_reckoned) (defBody s_reckoned) (defScope s_reckoned) .none kV6 dc6 pm6 an6 cd6 ct6), sl6⟩) (C6 : PySem.W.codeIn K cd6 "reckoned" = true) (K6 : PySem.W.keepIn K (.ref f6) = true)
  (A7 : PySem.W.nsIn K mainGlobals "holds" = some (some (.ref f7))) (L7 : K.lookup f7 = some ⟨oc7, od7, .func (PySem.W.fnOf "holds" "holds" (defArgs s_holds) (defBody s_holds) (defScope s_holds) .none kV7 dc7 pm7 an7 cd7 ct7), sl7⟩) (C7 : PySem.W.codeIn K cd7 "holds" = true) (K7 : PySem.W.keepIn K (.ref f7) = true)
  (A8 : PySem.W.nsIn K mainGlobals "put_into" = some (some (.ref f8))) (L8 : K.lookup f8 = some ⟨oc8, od8, .func (PySem.W.fnOf "put_into" "put_into" (defArgs s_put_into) (defBody s_put_into) (defScope s_put_into) .none kV8 dc8 pm8 an8 cd8 ct8), sl8⟩) (C8 : PySem.W.codeIn K cd8 "put_into" = true) (K8 : PySem.W.keepIn K (.ref f8) = true)
  (A9 : PySem.W.nsIn K mainGlobals "drawn" = some (some (.ref f9))) (L9 : K.lookup f9 = some ⟨oc9, od9, .func (PySem.W.fnOf "drawn" "drawn" (defArgs s_drawn) (defBody s_drawn) (defScope s_drawn) .none kV9 dc9 pm9 an9 cd9 ct9), sl9⟩) (C9 : PySem.W.codeIn K cd9 "drawn" = true) (K9 : PySem.W.keepIn K (.ref f9) = true)
  (A10 : PySem.W.nsIn K mainGlobals "blocks_of" = some (some (.ref f10))) (L10 : K.lookup f10 = some ⟨oc10, od10, .func (PySem.W.fnOf "blocks_of" "blocks_of" (defArgs s_blocks_of) (defBody s_blocks_of) (defScope s_blocks_of) .none kV10 dc10 pm10 an10 cd10 ct10), sl10⟩) (C10 : PySem.W.codeIn K cd10 "blocks_of" = true) (K10 : PySem.W.keepIn K (.ref f10) = true)
  (A11 : PySem.W.nsIn K mainGlobals "deeds_within" = some (some (.ref f11))) (L11 : K.lookup f11 = some ⟨oc11, od11, .func (PySem.W.fnOf "deeds_within" "deeds_within" (defArgs s_deeds_within) (defBody s_deeds_within) (defScope s_deeds_within) .none kV11 dc11 pm11 an11 cd11 ct11), sl11⟩) (C11 : PySem.W.codeIn K cd11 "deeds_within" = true) (K11 : PySem.W.keepIn K (.ref f11) = true)
  (A12 : PySem.W.nsIn K mainGlobals "stands_in" = some (some (.ref f12))) (L12 : K.lookup f12 = some ⟨oc12, od12, .func (PySem.W.fnOf "stands_in" "stands_in" (defArgs s_stands_in) (defBody s_stands_in) (defScope s_stands_in) .none kV12 dc12 pm12 an12 cd12 ct12), sl12⟩) (C12 : PySem.W.codeIn K cd12 "stands_in" = true) (K12 : PySem.W.keepIn K (.ref f12) = true)
  (A13 : PySem.W.nsIn K mainGlobals "is_bounded" = some (some (.ref f13))) (L13 : K.lookup f13 = some ⟨oc13, od13, .func (PySem.W.fnOf "is_bounded" "is_bounded" (defArgs s_is_bounded) (defBody s_is_bounded) (defScope s_is_bounded) .none kV13 dc13 pm13 an13 cd13 ct13), sl13⟩) (C13 : PySem.W.codeIn K cd13 "is_bounded" = true) (K13 : PySem.W.keepIn K (.ref f13) = true)
  (A14 : PySem.W.nsIn K mainGlobals "tree_of" = some (some (.ref f14))) (L14 : K.lookup f14 = some ⟨oc14, od14, .func (PySem.W.fnOf "tree_of" "tree_of" (defArgs s_tree_of) (defBody s_tree_of) (defScope s_tree_of) .none kV14 dc14 pm14 an14 cd14 ct14), sl14⟩) (C14 : PySem.W.codeIn K cd14 "tree_of" = true) (K14 : PySem.W.keepIn K (.ref f14) = true)
  (A15 : PySem.W.nsIn K mainGlobals "ahead_of" = some (some (.ref f15))) (L15 : K.lookup f15 = some ⟨oc15, od15, .func (PySem.W.fnOf "ahead_of" "ahead_of" (defArgs s_ahead_of) (defBody s_ahead_of) (defScope s_ahead_of) .none kV15 dc15 pm15 an15 cd15 ct15), sl15⟩) (C15 : PySem.W.codeIn K cd15 "ahead_of" = true) (K15 : PySem.W.keepIn K (.ref f15) = true)
  (A16 : PySem.W.findIn K (.ref g_Grower) "__init__" = some (some (.ref f16))) (I16 : PySem.W.isFn K (.ref f16) = true) (L16 : K.lookup f16 = some ⟨oc16, od16, .func (PySem.W.fnOf "__init__" "Grower.__init__" (defArgs s_Grower___init__) (defBody s_Grower___init__) (defScope s_Grower___init__) .none kV16 dc16 pm16 an16 cd16 ct16), sl16⟩) (C16 : PySem.W.codeIn K cd16 "Grower.__init__" = true) (K16 : PySem.W.keepIn K (.ref f16) = true)
  (A17 : PySem.W.findIn K (.ref g_Grower) "counted" = some (some (.ref f17))) (I17 : PySem.W.isFn K (.ref f17) = true) (L17 : K.lookup f17 = some ⟨oc17, od17, .func (PySem.W.fnOf "counted" "Grower.counted" (defArgs s_Grower_counted) (defBody s_Grower_counted) (defScope s_Grower_counted) .none kV17 dc17 pm17 an17 cd17 ct17), sl17⟩) (C17 : PySem.W.codeIn K cd17 "Grower.counted" = true) (K17 : PySem.W.keepIn K (.ref f17) = true)
  (A18 : PySem.W.findIn K (.ref g_Grower) "tree_from" = some (some (.ref f18))) (I18 : PySem.W.isFn K (.ref f18) = true) (L18 : K.lookup f18 = some ⟨oc18, od18, .func (PySem.W.fnOf "tree_from" "Grower.tree_from" (defArgs s_Grower_tree_from) (defBody s_Grower_tree_from) (defScope s_Grower_tree_from) .none kV18 dc18 pm18 an18 cd18 ct18), sl18⟩) (C18 : PySem.W.codeIn K cd18 "Grower.tree_from" = true) (K18 : PySem.W.keepIn K (.ref f18) = true)
  (A19 : PySem.W.findIn K (.ref g_Grower) "parts_from" = some (some (.ref f19))) (I19 : PySem.W.isFn K (.ref f19) = true) (L19 : K.lookup f19 = some ⟨oc19, od19, .func (PySem.W.fnOf "parts_from" "Grower.parts_from" (defArgs s_Grower_parts_from) (defBody s_Grower_parts_from) (defScope s_Grower_parts_from) .none kV19 dc19 pm19 an19 cd19 ct19), sl19⟩) (C19 : PySem.W.codeIn K cd19 "Grower.parts_from" = true) (K19 : PySem.W.keepIn K (.ref f19) = true)
  (A20 : PySem.W.findIn K (.ref g_Grower) "trees_from" = some (some (.ref f20))) (I20 : PySem.W.isFn K (.ref f20) = true) (L20 : K.lookup f20 = some ⟨oc20, od20, .func (PySem.W.fnOf "trees_from" "Grower.trees_from" (defArgs s_Grower_trees_from) (defBody s_Grower_trees_from) (defScope s_Grower_trees_from) .none kV20 dc20 pm20 an20 cd20 ct20), sl20⟩) (C20 : PySem.W.codeIn K cd20 "Grower.trees_from" = true) (K20 : PySem.W.keepIn K (.ref f20) = true)
  (A21 : PySem.W.nsIn K mainGlobals "_law_take" = some (some (.ref f21))) (L21 : K.lookup f21 = some ⟨oc21, od21, .func (PySem.W.fnOf "_law_take" "_law_take" (defArgs s__law_take) (defBody s__law_take) (defScope s__law_take) .none kV21 dc21 pm21 an21 cd21 ct21), sl21⟩) (C21 : PySem.W.codeIn K cd21 "_law_take" = true) (K21 : PySem.W.keepIn K (.ref f21) = true)
  (A22 : PySem.W.nsIn K mainGlobals "_law_same" = some (some (.ref f22))) (L22 : K.lookup f22 = some ⟨oc22, od22, .func (PySem.W.fnOf "_law_same" "_law_same" (defArgs s__law_same) (defBody s__law_same) (defScope s__law_same) .none kV22 dc22 pm22 an22 cd22 ct22), sl22⟩) (C22 : PySem.W.codeIn K cd22 "_law_same" = true) (K22 : PySem.W.keepIn K (.ref f22) = true)
  (A23 : PySem.W.nsIn K mainGlobals "_law_many" = some (some (.ref f23))) (L23 : K.lookup f23 = some ⟨oc23, od23, .func (PySem.W.fnOf "_law_many" "_law_many" (defArgs s__law_many) (defBody s__law_many) (defScope s__law_many) .none kV23 dc23 pm23 an23 cd23 ct23), sl23⟩) (C23 : PySem.W.codeIn K cd23 "_law_many" = true) (K23 : PySem.W.keepIn K (.ref f23) = true)
  (A24 : PySem.W.nsIn K mainGlobals "_law_third" = some (some (.ref f24))) (L24 : K.lookup f24 = some ⟨oc24, od24, .func (PySem.W.fnOf "_law_third" "_law_third" (defArgs s__law_third) (defBody s__law_third) (defScope s__law_third) .none kV24 dc24 pm24 an24 cd24 ct24), sl24⟩) (C24 : PySem.W.codeIn K cd24 "_law_third" = true) (K24 : PySem.W.keepIn K (.ref f24) = true)
  (A25 : PySem.W.nsIn K mainGlobals "_law_loop" = some (some (.ref f25))) (L25 : K.lookup f25 = some ⟨oc25, od25, .func (PySem.W.fnOf "_law_loop" "_law_loop" (defArgs s__law_loop) (defBody s__law_loop) (defScope s__law_loop) .none kV25 dc25 pm25 an25 cd25 ct25), sl25⟩) (C25 : PySem.W.codeIn K cd25 "_law_loop" = true) (K25 : PySem.W.keepIn K (.ref f25) = true)
  (A26 : PySem.W.nsIn K mainGlobals "_law_told" = some (some (.ref f26))) (L26 : K.lookup f26 = some ⟨oc26, od26, .func (PySem.W.fnOf "_law_told" "_law_told" (defArgs s__law_told) (defBody s__law_told) (defScope s__law_told) .none kV26 dc26 pm26 an26 cd26 ct26), sl26⟩) (C26 : PySem.W.codeIn K cd26 "_law_told" = true) (K26 : PySem.W.keepIn K (.ref f26) = true)
  (A27 : PySem.W.nsIn K mainGlobals "_law_leaves" = some (some (.ref f27))) (L27 : K.lookup f27 = some ⟨oc27, od27, .func (PySem.W.fnOf "_law_leaves" "_law_leaves" (defArgs s__law_leaves) (defBody s__law_leaves) (defScope s__law_leaves) .none kV27 dc27 pm27 an27 cd27 ct27), sl27⟩) (C27 : PySem.W.codeIn K cd27 "_law_leaves" = true) (K27 : PySem.W.keepIn K (.ref f27) = true)
  (A28 : PySem.W.nsIn K mainGlobals "law" = some (some (.ref f28))) (L28 : K.lookup f28 = some ⟨oc28, od28, .func (PySem.W.fnOf "law" "law" (defArgs s_law) (defBody s_law) (defScope s_law) .none kV28 dc28 pm28 an28 cd28 ct28), sl28⟩) (C28 : PySem.W.codeIn K cd28 "law" = true) (K28 : PySem.W.keepIn K (.ref f28) = true)
  (g1_Grower : PySem.W.plainGet K g_Grower Str.empty = true) (g2_Grower : PySem.W.hasDictIn K g_Grower = true) (g3_Grower : PySem.W.plainOver K g_Grower = true) (g4_Grower : PySem.W.findIn K (.ref g_Grower) "__setattr__" = some (some (.builtin "object.__setattr__"))) (k_Grower : PySem.W.makesIn K g_Grower = true) (p_Grower : PySem.W.keepIn K (.ref g_Grower) = true)
  (n_Grower_boxes : PySem.W.findIn K (.ref g_Grower) "boxes" = some none)
  (n_Grower_leaves : PySem.W.findIn K (.ref g_Grower) "leaves" = some none)
  (N_ValueError : PySem.W.nsIn K mainGlobals "ValueError" = some none)
  (N_abs : PySem.W.nsIn K mainGlobals "abs" = some none)
  (N_all : PySem.W.nsIn K mainGlobals "all" = some none)
  (N_any : PySem.W.nsIn K mainGlobals "any" = some none)
  (N_bool : PySem.W.nsIn K mainGlobals "bool" = some none)
  (N_enumerate : PySem.W.nsIn K mainGlobals "enumerate" = some none)
  (N_int : PySem.W.nsIn K mainGlobals "int" = some none)
  (N_isinstance : PySem.W.nsIn K mainGlobals "isinstance" = some none)
  (N_len : PySem.W.nsIn K mainGlobals "len" = some none)
  (N_list : PySem.W.nsIn K mainGlobals "list" = some none)
  (N_range : PySem.W.nsIn K mainGlobals "range" = some none)
  (N_reversed : PySem.W.nsIn K mainGlobals "reversed" = some none)
  (N_str : PySem.W.nsIn K mainGlobals "str" = some none)
  (N_sum : PySem.W.nsIn K mainGlobals "sum" = some none)
  (N_tuple : PySem.W.nsIn K mainGlobals "tuple" = some none)
  (sp0 : PySem.W.specialIn K (.builtin "object.__class__") "__get__" = some (some (.builtin "getset_descriptor.__get__"))) (tk0 : PySem.W.takesIn K (.builtin "object.__class__") = some true)
  (a_LotsError : PySem.W.nsIn K mainGlobals "LotsError" = some (some (.ref g_LotsError))) (x_LotsError : PySem.W.excIn K g_LotsError [.type "ValueError", .type "Exception", .type "BaseException", .type "object"] "ValueError.__new__" = true) (p_LotsError : PySem.W.findIn K (.ref g_LotsError) "__getattribute__" = some (some (.builtin "BaseException.__getattribute__"))) (q_LotsError : PySem.W.findIn K (.ref g_LotsError) "__getattr__" = some none) (c_LotsError : PySem.W.isClsIn K g_LotsError = true) (h_LotsError : PySem.W.findIn K (.ref g_LotsError) "__class__" = some (some (.builtin "object.__class__"))) (o_LotsError : PySem.W.mroIn K g_LotsError (.type "object") = some true) (t_LotsError : PySem.W.typeIn K (.ref g_LotsError) = some (.type "type")) (e_LotsError : PySem.W.mroIn K g_LotsError (.type "BaseException") = some true) (v_LotsError : PySem.W.mroIn K g_LotsError (.type "ValueError") = some true)
  (a_NoNumber : PySem.W.nsIn K mainGlobals "NoNumber" = some (some (.ref g_NoNumber))) (x_NoNumber : PySem.W.excIn K g_NoNumber [.type "ValueError", .type "Exception", .type "BaseException", .type "object"] "ValueError.__new__" = true) (p_NoNumber : PySem.W.findIn K (.ref g_NoNumber) "__getattribute__" = some (some (.builtin "BaseException.__getattribute__"))) (q_NoNumber : PySem.W.findIn K (.ref g_NoNumber) "__getattr__" = some none) (c_NoNumber : PySem.W.isClsIn K g_NoNumber = true) (h_NoNumber : PySem.W.findIn K (.ref g_NoNumber) "__class__" = some (some (.builtin "object.__class__"))) (o_NoNumber : PySem.W.mroIn K g_NoNumber (.type "object") = some true) (t_NoNumber : PySem.W.typeIn K (.ref g_NoNumber) = some (.type "type")) (e_NoNumber : PySem.W.mroIn K g_NoNumber (.type "BaseException") = some true) (v_NoNumber : PySem.W.mroIn K g_NoNumber (.type "ValueError") = some true)
  (a_NoText : PySem.W.nsIn K mainGlobals "NoText" = some (some (.ref g_NoText))) (x_NoText : PySem.W.excIn K g_NoText [.type "ValueError", .type "Exception", .type "BaseException", .type "object"] "ValueError.__new__" = true) (p_NoText : PySem.W.findIn K (.ref g_NoText) "__getattribute__" = some (some (.builtin "BaseException.__getattribute__"))) (q_NoText : PySem.W.findIn K (.ref g_NoText) "__getattr__" = some none) (c_NoText : PySem.W.isClsIn K g_NoText = true) (h_NoText : PySem.W.findIn K (.ref g_NoText) "__class__" = some (some (.builtin "object.__class__"))) (o_NoText : PySem.W.mroIn K g_NoText (.type "object") = some true) (t_NoText : PySem.W.typeIn K (.ref g_NoText) = some (.type "type")) (e_NoText : PySem.W.mroIn K g_NoText (.type "BaseException") = some true) (v_NoText : PySem.W.mroIn K g_NoText (.type "ValueError") = some true)
  (a_NoProgram : PySem.W.nsIn K mainGlobals "NoProgram" = some (some (.ref g_NoProgram))) (x_NoProgram : PySem.W.excIn K g_NoProgram [.type "ValueError", .type "Exception", .type "BaseException", .type "object"] "ValueError.__new__" = true) (p_NoProgram : PySem.W.findIn K (.ref g_NoProgram) "__getattribute__" = some (some (.builtin "BaseException.__getattribute__"))) (q_NoProgram : PySem.W.findIn K (.ref g_NoProgram) "__getattr__" = some none) (c_NoProgram : PySem.W.isClsIn K g_NoProgram = true) (h_NoProgram : PySem.W.findIn K (.ref g_NoProgram) "__class__" = some (some (.builtin "object.__class__"))) (o_NoProgram : PySem.W.mroIn K g_NoProgram (.type "object") = some true) (t_NoProgram : PySem.W.typeIn K (.ref g_NoProgram) = some (.type "type")) (e_NoProgram : PySem.W.mroIn K g_NoProgram (.type "BaseException") = some true) (v_NoProgram : PySem.W.mroIn K g_NoProgram (.type "ValueError") = some true)
  (a_NoBound : PySem.W.nsIn K mainGlobals "NoBound" = some (some (.ref g_NoBound))) (x_NoBound : PySem.W.excIn K g_NoBound [.type "ValueError", .type "Exception", .type "BaseException", .type "object"] "ValueError.__new__" = true) (p_NoBound : PySem.W.findIn K (.ref g_NoBound) "__getattribute__" = some (some (.builtin "BaseException.__getattribute__"))) (q_NoBound : PySem.W.findIn K (.ref g_NoBound) "__getattr__" = some none) (c_NoBound : PySem.W.isClsIn K g_NoBound = true) (h_NoBound : PySem.W.findIn K (.ref g_NoBound) "__class__" = some (some (.builtin "object.__class__"))) (o_NoBound : PySem.W.mroIn K g_NoBound (.type "object") = some true) (t_NoBound : PySem.W.typeIn K (.ref g_NoBound) = some (.type "type")) (e_NoBound : PySem.W.mroIn K g_NoBound (.type "BaseException") = some true) (v_NoBound : PySem.W.mroIn K g_NoBound (.type "ValueError") = some true)
  (a_TooMany : PySem.W.nsIn K mainGlobals "TooMany" = some (some (.ref g_TooMany))) (x_TooMany : PySem.W.excIn K g_TooMany [.type "ValueError", .type "Exception", .type "BaseException", .type "object"] "ValueError.__new__" = true) (p_TooMany : PySem.W.findIn K (.ref g_TooMany) "__getattribute__" = some (some (.builtin "BaseException.__getattribute__"))) (q_TooMany : PySem.W.findIn K (.ref g_TooMany) "__getattr__" = some none) (c_TooMany : PySem.W.isClsIn K g_TooMany = true) (h_TooMany : PySem.W.findIn K (.ref g_TooMany) "__class__" = some (some (.builtin "object.__class__"))) (o_TooMany : PySem.W.mroIn K g_TooMany (.type "object") = some true) (t_TooMany : PySem.W.typeIn K (.ref g_TooMany) = some (.type "type")) (e_TooMany : PySem.W.mroIn K g_TooMany (.type "BaseException") = some true) (v_TooMany : PySem.W.mroIn K g_TooMany (.type "ValueError") = some true)
  (a_HandLeft : PySem.W.nsIn K mainGlobals "HandLeft" = some (some (.ref g_HandLeft))) (x_HandLeft : PySem.W.excIn K g_HandLeft [.type "ValueError", .type "Exception", .type "BaseException", .type "object"] "ValueError.__new__" = true) (p_HandLeft : PySem.W.findIn K (.ref g_HandLeft) "__getattribute__" = some (some (.builtin "BaseException.__getattribute__"))) (q_HandLeft : PySem.W.findIn K (.ref g_HandLeft) "__getattr__" = some none) (c_HandLeft : PySem.W.isClsIn K g_HandLeft = true) (h_HandLeft : PySem.W.findIn K (.ref g_HandLeft) "__class__" = some (some (.builtin "object.__class__"))) (o_HandLeft : PySem.W.mroIn K g_HandLeft (.type "object") = some true) (t_HandLeft : PySem.W.typeIn K (.ref g_HandLeft) = some (.type "type")) (e_HandLeft : PySem.W.mroIn K g_HandLeft (.type "BaseException") = some true) (v_HandLeft : PySem.W.mroIn K g_HandLeft (.type "ValueError") = some true)
  (a_NoneKept : PySem.W.nsIn K mainGlobals "NoneKept" = some (some (.ref g_NoneKept))) (x_NoneKept : PySem.W.excIn K g_NoneKept [.type "ValueError", .type "Exception", .type "BaseException", .type "object"] "ValueError.__new__" = true) (p_NoneKept : PySem.W.findIn K (.ref g_NoneKept) "__getattribute__" = some (some (.builtin "BaseException.__getattribute__"))) (q_NoneKept : PySem.W.findIn K (.ref g_NoneKept) "__getattr__" = some none) (c_NoneKept : PySem.W.isClsIn K g_NoneKept = true) (h_NoneKept : PySem.W.findIn K (.ref g_NoneKept) "__class__" = some (some (.builtin "object.__class__"))) (o_NoneKept : PySem.W.mroIn K g_NoneKept (.type "object") = some true) (t_NoneKept : PySem.W.typeIn K (.ref g_NoneKept) = some (.type "type")) (e_NoneKept : PySem.W.mroIn K g_NoneKept (.type "BaseException") = some true) (v_NoneKept : PySem.W.mroIn K g_NoneKept (.type "ValueError") = some true)
  (r_NoBound_LotsError : PySem.W.mroIn K g_NoBound (.ref g_LotsError) = some true)
  (r_NoBound_NoNumber : PySem.W.mroIn K g_NoBound (.ref g_NoNumber) = some false)
  (r_NoBound_NoText : PySem.W.mroIn K g_NoBound (.ref g_NoText) = some false)
  (r_NoBound_NoProgram : PySem.W.mroIn K g_NoBound (.ref g_NoProgram) = some false)
  (r_NoBound_NoBound : PySem.W.mroIn K g_NoBound (.ref g_NoBound) = some true)
  (r_NoBound_TooMany : PySem.W.mroIn K g_NoBound (.ref g_TooMany) = some false)
  (r_NoBound_HandLeft : PySem.W.mroIn K g_NoBound (.ref g_HandLeft) = some false)
  (r_NoBound_NoneKept : PySem.W.mroIn K g_NoBound (.ref g_NoneKept) = some false)
  (r_TooMany_LotsError : PySem.W.mroIn K g_TooMany (.ref g_LotsError) = some true)
  (r_TooMany_NoNumber : PySem.W.mroIn K g_TooMany (.ref g_NoNumber) = some false)
  (r_TooMany_NoText : PySem.W.mroIn K g_TooMany (.ref g_NoText) = some false)
  (r_TooMany_NoProgram : PySem.W.mroIn K g_TooMany (.ref g_NoProgram) = some false)
  (r_TooMany_NoBound : PySem.W.mroIn K g_TooMany (.ref g_NoBound) = some false)
  (r_TooMany_TooMany : PySem.W.mroIn K g_TooMany (.ref g_TooMany) = some true)
  (r_TooMany_HandLeft : PySem.W.mroIn K g_TooMany (.ref g_HandLeft) = some false)
  (r_TooMany_NoneKept : PySem.W.mroIn K g_TooMany (.ref g_NoneKept) = some false)
  (a_MOST_LEAVES : PySem.W.nsIn K mainGlobals "MOST_LEAVES" = some (some (.int 400 qt_MOST_LEAVES))) :
  ∃ fd : FuncData, (∀ (s : Shared) (v : Value), BindsTo s fd ⟨[v], []⟩ [("_law_script", v)]) ∧ ∀ base : Heap, K.In base → base.Ns mainGlobals mg → FnOk l.prog w K mg base (CXE l.prog w) 87 fa fd ["_law_script"] (spLawX K) := by
 have e := hfa.symm.trans (PySem.W.mg_of X G A28)
 cases e
 let T : Tx K mg := { a_is_whole := f0, fd_is_whole := _, F_is_whole := fun_mk (st := s_is_whole) L0 C0 K0, m_is_whole := PySem.W.mg_of X G A0, b_is_whole := (fun_mk (st := s_is_whole) L0 C0 K0).binds (ps := ["thing"]) fun _ _ _ _ _ _ us hl => match us, hl with | [_], _ => rfl, a_common_part := f1, fd_common_part := _, F_common_part := fun_mk (st := s_common_part) L1 C1 K1, m_common_part := PySem.W.mg_of X G A1, b_common_part := (fun_mk (st := s_common_part) L1 C1 K1).binds (ps := ["one", "other"]) fun _ _ _ _ _ _ us hl => match us, hl with | [_, _], _ => rfl, a_lowest := f2, fd_lowest := _, F_lowest := fun_mk (st := s_lowest) L2 C2 K2, m_lowest := PySem.W.mg_of X G A2, b_lowest := (fun_mk (st := s_lowest) L2 C2 K2).binds (ps := ["top", "bottom"]) fun _ _ _ _ _ _ us hl => match us, hl with | [_, _], _ => rfl, a_fraction := f3, fd_fraction := _, F_fraction := fun_mk (st := s_fraction) L3 C3 K3, m_fraction := PySem.W.mg_of X G A3, b_fraction := (fun_mk (st := s_fraction) L3 C3 K3).binds (ps := ["top", "bottom"]) fun _ _ _ _ _ _ us hl => match us, hl with | [_, _], _ => rfl, a_place_of := f4, fd_place_of := _, F_place_of := fun_mk (st := s_place_of) L4 C4 K4, m_place_of := PySem.W.mg_of X G A4, b_place_of := (fun_mk (st := s_place_of) L4 C4 K4).binds (ps := ["boxes", "name"]) fun _ _ _ _ _ _ us hl => match us, hl with | [_, _], _ => rfl, a_worth := f5, fd_worth := _, F_worth := fun_mk (st := s_worth) L5 C5 K5, m_worth := PySem.W.mg_of X G A5, b_worth := (fun_mk (st := s_worth) L5 C5 K5).binds (ps := ["boxes", "state", "operand"]) fun _ _ _ _ _ _ us hl => match us, hl with | [_, _, _], _ => rfl, a_reckoned := f6, fd_reckoned := _, F_reckoned := fun_mk (st := s_reckoned) L6 C6 K6, m_reckoned := PySem.W.mg_of X G A6, b_reckoned := (fun_mk (st := s_reckoned) L6 C6 K6).binds (ps := ["boxes", "state", "reckoning"]) fun _ _ _ _ _ _ us hl => match us, hl with | [_, _, _], _ => rfl, a_holds := f7, fd_holds := _, F_holds := fun_mk (st := s_holds) L7 C7 K7, m_holds := PySem.W.mg_of X G A7, b_holds := (fun_mk (st := s_holds) L7 C7 K7).binds (ps := ["boxes", "state", "test"]) fun _ _ _ _ _ _ us hl => match us, hl with | [_, _, _], _ => rfl, a_put_into := f8, fd_put_into := _, F_put_into := fun_mk (st := s_put_into) L8 C8 K8, m_put_into := PySem.W.mg_of X G A8, b_put_into := (fun_mk (st := s_put_into) L8 C8 K8).binds (ps := ["boxes", "state", "name", "number"]) fun _ _ _ _ _ _ us hl => match us, hl with | [_, _, _, _], _ => rfl, a_drawn := f9, fd_drawn := _, F_drawn := fun_mk (st := s_drawn) L9 C9 K9, m_drawn := PySem.W.mg_of X G A9, b_drawn := (fun_mk (st := s_drawn) L9 C9 K9).binds (ps := ["boxes", "state", "name", "weights"]) fun _ _ _ _ _ _ us hl => match us, hl with | [_, _, _, _], _ => rfl, a_blocks_of := f10, fd_blocks_of := _, F_blocks_of := fun_mk (st := s_blocks_of) L10 C10 K10, m_blocks_of := PySem.W.mg_of X G A10, b_blocks_of := (fun_mk (st := s_blocks_of) L10 C10 K10).binds (ps := ["deed"]) fun _ _ _ _ _ _ us hl => match us, hl with | [_], _ => rfl, a_deeds_within := f11, fd_deeds_within := _, F_deeds_within := fun_mk (st := s_deeds_within) L11 C11 K11, m_deeds_within := PySem.W.mg_of X G A11, b_deeds_within := (fun_mk (st := s_deeds_within) L11 C11 K11).binds (ps := ["block"]) fun _ _ _ _ _ _ us hl => match us, hl with | [_], _ => rfl, a_stands_in := f12, fd_stands_in := _, F_stands_in := fun_mk (st := s_stands_in) L12 C12 K12, m_stands_in := PySem.W.mg_of X G A12, b_stands_in := (fun_mk (st := s_stands_in) L12 C12 K12).binds (ps := ["block", "kind"]) fun _ _ _ _ _ _ us hl => match us, hl with | [_, _], _ => rfl, a_is_bounded := f13, fd_is_bounded := _, F_is_bounded := fun_mk (st := s_is_bounded) L13 C13 K13, m_is_bounded := PySem.W.mg_of X G A13, b_is_bounded := (fun_mk (st := s_is_bounded) L13 C13 K13).binds (ps := ["block"]) fun _ _ _ _ _ _ us hl => match us, hl with | [_], _ => rfl, a_tree_of := f14, fd_tree_of := _, F_tree_of := fun_mk (st := s_tree_of) L14 C14 K14, m_tree_of := PySem.W.mg_of X G A14, b_tree_of := (fun_mk (st := s_tree_of) L14 C14 K14).binds (ps := ["program", "state"]) fun _ _ _ _ _ _ us hl => match us, hl with | [_, _], _ => rfl, a_ahead_of := f15, fd_ahead_of := _, F_ahead_of := fun_mk (st := s_ahead_of) L15 C15 K15, m_ahead_of := PySem.W.mg_of X G A15, b_ahead_of := (fun_mk (st := s_ahead_of) L15 C15 K15).binds (ps := ["block", "later"]) fun _ _ _ _ _ _ us hl => match us, hl with | [_, _], _ => rfl, a_Grower___init__ := f16, fd_Grower___init__ := _, F_Grower___init__ := fun_mk (st := s_Grower___init__) L16 C16 K16, b_Grower___init__ := (fun_mk (st := s_Grower___init__) L16 C16 K16).binds (ps := ["self", "boxes"]) fun _ _ _ _ _ _ us hl => match us, hl with | [_, _], _ => rfl, mk_Grower := ⟨k_Grower, A16, I16, p_Grower⟩, a_Grower_counted := f17, fd_Grower_counted := _, F_Grower_counted := fun_mk (st := s_Grower_counted) L17 C17 K17, b_Grower_counted := (fun_mk (st := s_Grower_counted) L17 C17 K17).binds (ps := ["self", "leaf"]) fun _ _ _ _ _ _ us hl => match us, hl with | [_, _], _ => rfl, mt_Grower_counted := ⟨A17, I17, K17⟩, a_Grower_tree_from := f18, fd_Grower_tree_from := _, F_Grower_tree_from := fun_mk (st := s_Grower_tree_from) L18 C18 K18, b_Grower_tree_from := (fun_mk (st := s_Grower_tree_from) L18 C18 K18).binds (ps := ["self", "later", "state", "gain"]) fun _ _ _ _ _ _ us hl => match us, hl with | [_, _, _, _], _ => rfl, mt_Grower_tree_from := ⟨A18, I18, K18⟩, a_Grower_parts_from := f19, fd_Grower_parts_from := _, F_Grower_parts_from := fun_mk (st := s_Grower_parts_from) L19 C19 K19, b_Grower_parts_from := (fun_mk (st := s_Grower_parts_from) L19 C19 K19).binds (ps := ["self", "ways", "later", "gain"]) fun _ _ _ _ _ _ us hl => match us, hl with | [_, _, _, _], _ => rfl, mt_Grower_parts_from := ⟨A19, I19, K19⟩, a_Grower_trees_from := f20, fd_Grower_trees_from := _, F_Grower_trees_from := fun_mk (st := s_Grower_trees_from) L20 C20 K20, b_Grower_trees_from := (fun_mk (st := s_Grower_trees_from) L20 C20 K20).binds (ps := ["self", "blocks", "later", "state", "gain"]) fun _ _ _ _ _ _ us hl => match us, hl with | [_, _, _, _, _], _ => rfl, mt_Grower_trees_from := ⟨A20, I20, K20⟩, a__law_take := f21, fd__law_take := _, F__law_take := fun_mk (st := s__law_take) L21 C21 K21, m__law_take := PySem.W.mg_of X G A21, b__law_take := (fun_mk (st := s__law_take) L21 C21 K21).binds (ps := ["_law_left", "_law_many_here"]) fun _ _ _ _ _ _ us hl => match us, hl with | [_, _], _ => rfl, a__law_same := f22, fd__law_same := _, F__law_same := fun_mk (st := s__law_same) L22 C22 K22, m__law_same := PySem.W.mg_of X G A22, b__law_same := (fun_mk (st := s__law_same) L22 C22 K22).binds (ps := ["_law_found", "_law_due"]) fun _ _ _ _ _ _ us hl => match us, hl with | [_, _], _ => rfl, a__law_many := f23, fd__law_many := _, F__law_many := fun_mk (st := s__law_many) L23 C23 K23, m__law_many := PySem.W.mg_of X G A23, b__law_many := (fun_mk (st := s__law_many) L23 C23 K23).binds (ps := ["_law_left", "_law_boxes", "_law_sizes"]) fun _ _ _ _ _ _ us hl => match us, hl with | [_, _, _], _ => rfl, a__law_third := f24, fd__law_third := _, F__law_third := fun_mk (st := s__law_third) L24 C24 K24, m__law_third := PySem.W.mg_of X G A24, b__law_third := (fun_mk (st := s__law_third) L24 C24 K24).binds (ps := ["_law_more"]) fun _ _ _ _ _ _ us hl => match us, hl with | [_], _ => rfl, a__law_loop := f25, fd__law_loop := _, F__law_loop := fun_mk (st := s__law_loop) L25 C25 K25, m__law_loop := PySem.W.mg_of X G A25, b__law_loop := (fun_mk (st := s__law_loop) L25 C25 K25).binds (ps := ["_law_left", "_law_boxes"]) fun _ _ _ _ _ _ us hl => match us, hl with | [_, _], _ => rfl, a__law_told := f26, fd__law_told := _, F__law_told := fun_mk (st := s__law_told) L26 C26 K26, m__law_told := PySem.W.mg_of X G A26, b__law_told := (fun_mk (st := s__law_told) L26 C26 K26).binds (ps := ["_law_program", "_law_state"]) fun _ _ _ _ _ _ us hl => match us, hl with | [_, _], _ => rfl, a__law_leaves := f27, fd__law_leaves := _, F__law_leaves := fun_mk (st := s__law_leaves) L27 C27 K27, m__law_leaves := PySem.W.mg_of X G A27, b__law_leaves := (fun_mk (st := s__law_leaves) L27 C27 K27).binds (ps := ["_law_tree"]) fun _ _ _ _ _ _ us hl => match us, hl with | [_], _ => rfl, a_law := fa, fd_law := _, F_law := fun_mk (st := s_law) L28 C28 K28, m_law := PySem.W.mg_of X G A28, b_law := (fun_mk (st := s_law) L28 C28 K28).binds (ps := ["_law_script"]) fun _ _ _ _ _ _ us hl => match us, hl with | [_], _ => rfl, a_Grower := g_Grower, m_Grower := PySem.W.mg_of X G a_Grower, cl_Grower := ⟨g1_Grower, g2_Grower, g3_Grower, g4_Grower⟩, ns_Grower := a_Grower, n_Grower_boxes := n_Grower_boxes, n_Grower_leaves := n_Grower_leaves, n_ValueError := PySem.W.mg_none_of X G N_ValueError, n_abs := PySem.W.mg_none_of X G N_abs, n_all := PySem.W.mg_none_of X G N_all, n_any := PySem.W.mg_none_of X G N_any, n_bool := PySem.W.mg_none_of X G N_bool, n_enumerate := PySem.W.mg_none_of X G N_enumerate, n_int := PySem.W.mg_none_of X G N_int, n_isinstance := PySem.W.mg_none_of X G N_isinstance, n_len := PySem.W.mg_none_of X G N_len, n_list := PySem.W.mg_none_of X G N_list, n_range := PySem.W.mg_none_of X G N_range, n_reversed := PySem.W.mg_none_of X G N_reversed, n_str := PySem.W.mg_none_of X G N_str, n_sum := PySem.W.mg_none_of X G N_sum, n_tuple := PySem.W.mg_none_of X G N_tuple, a_LotsError := g_LotsError, m_LotsError := PySem.W.mg_of X G a_LotsError, x_LotsError := ⟨PySem.W.mg_of X G a_LotsError, x_LotsError⟩, i_LotsError := ⟨p_LotsError, q_LotsError, e_LotsError, c_LotsError, h_LotsError, sp0, tk0, o_LotsError⟩, t_LotsError := t_LotsError, e_LotsError := e_LotsError, v_LotsError := v_LotsError, a_NoNumber := g_NoNumber, m_NoNumber := PySem.W.mg_of X G a_NoNumber, x_NoNumber := ⟨PySem.W.mg_of X G a_NoNumber, x_NoNumber⟩, i_NoNumber := ⟨p_NoNumber, q_NoNumber, e_NoNumber, c_NoNumber, h_NoNumber, sp0, tk0, o_NoNumber⟩, t_NoNumber := t_NoNumber, e_NoNumber := e_NoNumber, v_NoNumber := v_NoNumber, a_NoText := g_NoText, m_NoText := PySem.W.mg_of X G a_NoText, x_NoText := ⟨PySem.W.mg_of X G a_NoText, x_NoText⟩, i_NoText := ⟨p_NoText, q_NoText, e_NoText, c_NoText, h_NoText, sp0, tk0, o_NoText⟩, t_NoText := t_NoText, e_NoText := e_NoText, v_NoText := v_NoText, a_NoProgram := g_NoProgram, m_NoProgram := PySem.W.mg_of X G a_NoProgram, x_NoProgram := ⟨PySem.W.mg_of X G a_NoProgram, x_NoProgram⟩, i_NoProgram := ⟨p_NoProgram, q_NoProgram, e_NoProgram, c_NoProgram, h_NoProgram, sp0, tk0, o_NoProgram⟩, t_NoProgram := t_NoProgram, e_NoProgram := e_NoProgram, v_NoProgram := v_NoProgram, a_NoBound := g_NoBound, m_NoBound := PySem.W.mg_of X G a_NoBound, x_NoBound := ⟨PySem.W.mg_of X G a_NoBound, x_NoBound⟩, i_NoBound := ⟨p_NoBound, q_NoBound, e_NoBound, c_NoBound, h_NoBound, sp0, tk0, o_NoBound⟩, t_NoBound := t_NoBound, e_NoBound := e_NoBound, v_NoBound := v_NoBound, a_TooMany := g_TooMany, m_TooMany := PySem.W.mg_of X G a_TooMany, x_TooMany := ⟨PySem.W.mg_of X G a_TooMany, x_TooMany⟩, i_TooMany := ⟨p_TooMany, q_TooMany, e_TooMany, c_TooMany, h_TooMany, sp0, tk0, o_TooMany⟩, t_TooMany := t_TooMany, e_TooMany := e_TooMany, v_TooMany := v_TooMany, a_HandLeft := g_HandLeft, m_HandLeft := PySem.W.mg_of X G a_HandLeft, x_HandLeft := ⟨PySem.W.mg_of X G a_HandLeft, x_HandLeft⟩, i_HandLeft := ⟨p_HandLeft, q_HandLeft, e_HandLeft, c_HandLeft, h_HandLeft, sp0, tk0, o_HandLeft⟩, t_HandLeft := t_HandLeft, e_HandLeft := e_HandLeft, v_HandLeft := v_HandLeft, a_NoneKept := g_NoneKept, m_NoneKept := PySem.W.mg_of X G a_NoneKept, x_NoneKept := ⟨PySem.W.mg_of X G a_NoneKept, x_NoneKept⟩, i_NoneKept := ⟨p_NoneKept, q_NoneKept, e_NoneKept, c_NoneKept, h_NoneKept, sp0, tk0, o_NoneKept⟩, t_NoneKept := t_NoneKept, e_NoneKept := e_NoneKept, v_NoneKept := v_NoneKept, ns_NoBound := a_NoBound, r_NoBound_LotsError := r_NoBound_LotsError, r_NoBound_NoNumber := r_NoBound_NoNumber, r_NoBound_NoText := r_NoBound_NoText, r_NoBound_NoProgram := r_NoBound_NoProgram, r_NoBound_NoBound := r_NoBound_NoBound, r_NoBound_TooMany := r_NoBound_TooMany, r_NoBound_HandLeft := r_NoBound_HandLeft, r_NoBound_NoneKept := r_NoBound_NoneKept, ns_TooMany := a_TooMany, r_TooMany_LotsError := r_TooMany_LotsError, r_TooMany_NoNumber := r_TooMany_NoNumber, r_TooMany_NoText := r_TooMany_NoText, r_TooMany_NoProgram := r_TooMany_NoProgram, r_TooMany_NoBound := r_TooMany_NoBound, r_TooMany_TooMany := r_TooMany_TooMany, r_TooMany_HandLeft := r_TooMany_HandLeft, r_TooMany_NoneKept := r_TooMany_NoneKept, m_MOST_LEAVES := ⟨_, PySem.W.mg_of X G a_MOST_LEAVES⟩ }
 exact ⟨_, fun s v => .of_eq rfl, fun base _ _ => ok_law T⟩
theorem walk {l : PySem.W.OpenLaw} {q : Program} {loose : List Str} {XP : (Str → Option Value) → Heap → Prop} {YP : World → Heap → Prop} {d : DefRec} {K : Params → PySem.W.Frag} (hn : l.most = some 63) (hdf : d.params.defaults = [])
  (hY : ∀ (w : World) (h : Heap), YP w h → (K w.params).In h)
  (F : ∀ (w : World) (mg : Str → Option Value) (fa : Addr) (h : Heap), (K w.params).In h → h.Ns mainGlobals mg → mg d.name = some (.ref fa) →
   ∃ fd : FuncData, (∀ (s : Shared) (u : Value), BindsTo s fd ⟨[u], []⟩ [("_law_script", u)]) ∧ ∀ base : Heap, (K w.params).In base → base.Ns mainGlobals mg → FnOk l.prog w (K w.params) mg base (CXE l.prog w) 87 fa fd ["_law_script"] (spLawX (K w.params))) :
  PySem.W.WalkO q loose XP YP l.row.toRowW d [] (fun f vs => PySem.call f vs) :=
 L2.walk_of (n := 63) (k := 87) (x := "_law_script") (CX := fun w => CXE l.prog w) (sp := fun w => spLawX (K w.params)) hn (by decide) hdf ⟨rfl, by decide, by decide, rfl⟩ hY F (fun _ _ a ns hl hO hS => ⟨a, ns, rfl, hO, hS, hl, fun _ => rfl⟩) fun _ _ _ _ _ ⟨_, _, _, _, _, z⟩ => z
end Prf
open PySem PySem.W PyProof.Rows
set_option maxRecDepth 100000 in
set_option maxHeartbeats 0 in
theorem PySem.Challenge.cw_lots_k35_trees_refused_holds : PySem.Challenge.rw_lots_k35_trees_refused.Holds := by
 w_on; o_law; k_head; (case hw => w_witness2)
 k_fill
 refine Prf.walk (l := PySem.Challenge.rw_lots_k35_trees_refused) rfl rfl (fun w h Y => PySem.W.kIn_of Y) ?F
 case F =>
  intro w mg fa h KX G hmg
  refine' Prf.all_mk KX G hmg ?a_Grower ?A0 ?L0 ?C0 ?K0 ?A1 ?L1 ?C1 ?K1 ?A2 ?L2 ?C2 ?K2 ?A3 ?L3 ?C3 ?K3 ?A4 ?L4 ?C4 ?K4 ?A5 ?L5 ?C5 ?K5 ?A6 ?L6 ?C6 ?K6 ?A7 ?L7 ?C7 ?K7 ?A8 ?L8 ?C8 ?K8 ?A9 ?L9 ?C9 ?K9 ?A10 ?L10 ?C10 ?K10 ?A11 ?L11 ?C11 ?K11 ?A12 ?L12 ?C12 ?K12 ?A13 ?L13 ?C13 ?K13 ?A14 ?L14 ?C14 ?K14 ?A15 ?L15 ?C15 ?K15 ?A16 ?I16 ?L16 ?C16 ?K16 ?A17 ?I17 ?L17 ?C17 ?K17 ?A18 ?I18 ?L18 ?C18 ?K18 ?A19 ?I19 ?L19 ?C19 ?K19 ?A20 ?I20 ?L20 ?C20 ?K20 ?A21 ?L21 ?C21 ?K21 ?A22 ?L22 ?C22 ?K22 ?A23 ?L23 ?C23 ?K23 ?A24 ?L24 ?C24 ?K24 ?A25 ?L25 ?C25 ?K25 ?A26 ?L26 ?C26 ?K26 ?A27 ?L27 ?C27 ?K27 ?A28 ?L28 ?C28 ?K28 ?g1_Grower ?g2_Grower ?g3_Grower ?g4_Grower ?k_Grower ?p_Grower ?n_Grower_boxes ?n_Grower_leaves ?N_ValueError ?N_abs ?N_all ?N_any ?N_bool ?N_enumerate ?N_int ?N_isinstance ?N_len ?N_list ?N_range ?N_reversed ?N_str ?N_sum ?N_tuple ?sp0 ?tk0 ?a_LotsError ?x_LotsError ?p_LotsError ?q_LotsError ?c_LotsError ?h_LotsError ?o_LotsError ?t_LotsError ?e_LotsError ?v_LotsError ?a_NoNumber ?x_NoNumber ?p_NoNumber ?q_NoNumber ?c_NoNumber ?h_NoNumber ?o_NoNumber ?t_NoNumber ?e_NoNumber ?v_NoNumber ?a_NoText ?x_NoText ?p_NoText ?q_NoText ?c_NoText ?h_NoText ?o_NoText ?t_NoText ?e_NoText ?v_NoText ?a_NoProgram ?x_NoProgram ?p_NoProgram ?q_NoProgram ?c_NoProgram ?h_NoProgram ?o_NoProgram ?t_NoProgram ?e_NoProgram ?v_NoProgram ?a_NoBound ?x_NoBound ?p_NoBound ?q_NoBound ?c_NoBound ?h_NoBound ?o_NoBound ?t_NoBound ?e_NoBound ?v_NoBound ?a_TooMany ?x_TooMany ?p_TooMany ?q_TooMany ?c_TooMany ?h_TooMany ?o_TooMany ?t_TooMany ?e_TooMany ?v_TooMany ?a_HandLeft ?x_HandLeft ?p_HandLeft ?q_HandLeft ?c_HandLeft ?h_HandLeft ?o_HandLeft ?t_HandLeft ?e_HandLeft ?v_HandLeft ?a_NoneKept ?x_NoneKept ?p_NoneKept ?q_NoneKept ?c_NoneKept ?h_NoneKept ?o_NoneKept ?t_NoneKept ?e_NoneKept ?v_NoneKept ?r_NoBound_LotsError ?r_NoBound_NoNumber ?r_NoBound_NoText ?r_NoBound_NoProgram ?r_NoBound_NoBound ?r_NoBound_TooMany ?r_NoBound_HandLeft ?r_NoBound_NoneKept ?r_TooMany_LotsError ?r_TooMany_NoNumber ?r_TooMany_NoText ?r_TooMany_NoProgram ?r_TooMany_NoBound ?r_TooMany_TooMany ?r_TooMany_HandLeft ?r_TooMany_NoneKept ?a_MOST_LEAVES
  (case a_Grower => k_is); (case A0 => k_is); (case L0 => k_is); (case C0 => k_is); (case K0 => k_is); (case A1 => k_is)
  (case L1 => k_is); (case C1 => k_is); (case K1 => k_is); (case A2 => k_is); (case L2 => k_is); (case C2 => k_is)
  (case K2 => k_is); (case A3 => k_is); (case L3 => k_is); (case C3 => k_is); (case K3 => k_is); (case A4 => k_is)
  (case L4 => k_is); (case C4 => k_is); (case K4 => k_is); (case A5 => k_is); (case L5 => k_is); (case C5 => k_is)
  (case K5 => k_is); (case A6 => k_is); (case L6 => k_is); (case C6 => k_is); (case K6 => k_is); (case A7 => k_is)
  (case L7 => k_is); (case C7 => k_is); (case K7 => k_is); (case A8 => k_is); (case L8 => k_is); (case C8 => k_is)
  (case K8 => k_is); (case A9 => k_is); (case L9 => k_is); (case C9 => k_is); (case K9 => k_is); (case A10 => k_is)
  (case L10 => k_is); (case C10 => k_is); (case K10 => k_is); (case A11 => k_is); (case L11 => k_is); (case C11 => k_is)
  (case K11 => k_is); (case A12 => k_is); (case L12 => k_is); (case C12 => k_is); (case K12 => k_is); (case A13 => k_is)
  (case L13 => k_is); (case C13 => k_is); (case K13 => k_is); (case A14 => k_is); (case L14 => k_is); (case C14 => k_is)
  (case K14 => k_is); (case A15 => k_is); (case L15 => k_is); (case C15 => k_is); (case K15 => k_is); (case A16 => k_is)
  (case I16 => k_is); (case L16 => k_is); (case C16 => k_is); (case K16 => k_is); (case A17 => k_is); (case I17 => k_is)
  (case L17 => k_is); (case C17 => k_is); (case K17 => k_is); (case A18 => k_is); (case I18 => k_is); (case L18 => k_is)
  (case C18 => k_is); (case K18 => k_is); (case A19 => k_is); (case I19 => k_is); (case L19 => k_is); (case C19 => k_is)
  (case K19 => k_is); (case A20 => k_is); (case I20 => k_is); (case L20 => k_is); (case C20 => k_is); (case K20 => k_is)
  (case A21 => k_is); (case L21 => k_is); (case C21 => k_is); (case K21 => k_is); (case A22 => k_is); (case L22 => k_is)
  (case C22 => k_is); (case K22 => k_is); (case A23 => k_is); (case L23 => k_is); (case C23 => k_is); (case K23 => k_is)
  (case A24 => k_is); (case L24 => k_is); (case C24 => k_is); (case K24 => k_is); (case A25 => k_is); (case L25 => k_is)
  (case C25 => k_is); (case K25 => k_is); (case A26 => k_is); (case L26 => k_is); (case C26 => k_is); (case K26 => k_is)
  (case A27 => k_is); (case L27 => k_is); (case C27 => k_is); (case K27 => k_is); (case A28 => k_is); (case L28 => k_is)
  (case C28 => k_is); (case K28 => k_is); (case g1_Grower => k_is); (case g2_Grower => k_is); (case g3_Grower => k_is); (case g4_Grower => k_is)
  (case k_Grower => k_is); (case p_Grower => k_is); (case n_Grower_boxes => k_is); (case n_Grower_leaves => k_is); (case N_ValueError => k_is); (case N_abs => k_is)
  (case N_all => k_is); (case N_any => k_is); (case N_bool => k_is); (case N_enumerate => k_is); (case N_int => k_is); (case N_isinstance => k_is)
  (case N_len => k_is); (case N_list => k_is); (case N_range => k_is); (case N_reversed => k_is); (case N_str => k_is); (case N_sum => k_is)
  (case N_tuple => k_is); (case sp0 => k_is); (case tk0 => k_is); (case a_LotsError => k_is); (case x_LotsError => k_exc); (case p_LotsError => k_is)
  (case q_LotsError => k_is); (case c_LotsError => k_is); (case h_LotsError => k_is); (case o_LotsError => k_is); (case t_LotsError => k_is); (case e_LotsError => k_is)
  (case v_LotsError => k_is); (case a_NoNumber => k_is); (case x_NoNumber => k_exc); (case p_NoNumber => k_is); (case q_NoNumber => k_is); (case c_NoNumber => k_is)
  (case h_NoNumber => k_is); (case o_NoNumber => k_is); (case t_NoNumber => k_is); (case e_NoNumber => k_is); (case v_NoNumber => k_is); (case a_NoText => k_is)
  (case x_NoText => k_exc); (case p_NoText => k_is); (case q_NoText => k_is); (case c_NoText => k_is); (case h_NoText => k_is); (case o_NoText => k_is)
  (case t_NoText => k_is); (case e_NoText => k_is); (case v_NoText => k_is); (case a_NoProgram => k_is); (case x_NoProgram => k_exc); (case p_NoProgram => k_is)
  (case q_NoProgram => k_is); (case c_NoProgram => k_is); (case h_NoProgram => k_is); (case o_NoProgram => k_is); (case t_NoProgram => k_is); (case e_NoProgram => k_is)
  (case v_NoProgram => k_is); (case a_NoBound => k_is); (case x_NoBound => k_exc); (case p_NoBound => k_is); (case q_NoBound => k_is); (case c_NoBound => k_is)
  (case h_NoBound => k_is); (case o_NoBound => k_is); (case t_NoBound => k_is); (case e_NoBound => k_is); (case v_NoBound => k_is); (case a_TooMany => k_is)
  (case x_TooMany => k_exc); (case p_TooMany => k_is); (case q_TooMany => k_is); (case c_TooMany => k_is); (case h_TooMany => k_is); (case o_TooMany => k_is)
  (case t_TooMany => k_is); (case e_TooMany => k_is); (case v_TooMany => k_is); (case a_HandLeft => k_is); (case x_HandLeft => k_exc); (case p_HandLeft => k_is)
  (case q_HandLeft => k_is); (case c_HandLeft => k_is); (case h_HandLeft => k_is); (case o_HandLeft => k_is); (case t_HandLeft => k_is); (case e_HandLeft => k_is)
  (case v_HandLeft => k_is); (case a_NoneKept => k_is); (case x_NoneKept => k_exc); (case p_NoneKept => k_is); (case q_NoneKept => k_is); (case c_NoneKept => k_is)
  (case h_NoneKept => k_is); (case o_NoneKept => k_is); (case t_NoneKept => k_is); (case e_NoneKept => k_is); (case v_NoneKept => k_is); (case r_NoBound_LotsError => k_is)
  (case r_NoBound_NoNumber => k_is); (case r_NoBound_NoText => k_is); (case r_NoBound_NoProgram => k_is); (case r_NoBound_NoBound => k_is); (case r_NoBound_TooMany => k_is); (case r_NoBound_HandLeft => k_is)
  (case r_NoBound_NoneKept => k_is); (case r_TooMany_LotsError => k_is); (case r_TooMany_NoNumber => k_is); (case r_TooMany_NoText => k_is); (case r_TooMany_NoProgram => k_is); (case r_TooMany_NoBound => k_is)
  (case r_TooMany_TooMany => k_is); (case r_TooMany_HandLeft => k_is); (case r_TooMany_NoneKept => k_is); (case a_MOST_LEAVES => k_is)
